/- Servers, what they send and take, by the reference. -/
import Derived.Test.YtobfeflheaobiaaGreatDoorVg
import Derived.Test.YtobfeflheaobiaaGreatDoorVp
set_option linter.unusedVariables false
set_option linter.unusedSimpArgs false
set_option linter.unusedSectionVars false
namespace Go.Proofs.YtobfeflheaobiaaGreatDoor
open Go.RowKit
theorem pi (sv:Sv) (vt:Value) (w:World) (hT:dW w vt sv.tb) (htl:sv.tb.length≤1000):Calls Tryz.prog 10 [.agg (aQ sv.no sv.sec vt)].toArray w (cp w (is (.bool (dJ sv)))):=by
 refine bF Tryz.func10 rfl Tryz.ntmps10 rfl fun f h s=>qr (aZ (aQ sv.no sv.sec vt) h s rfl rfl rfl fun f w1 b1 h s=>e9 ab 1 h rfl fun f h=>al ?_)
 refine rs ab 1 h rfl fun f h=>ag (V:=.int .i64 sv.no) (ac (aG.of_own s 0 rfl) 0 (sN _ _ _)) h bo rfl rfl fun f h=>cZ ab h rfl (fun h0 f h=>?_) (fun h0 f h=>?_)
 ·refine e9 ab 17 h rfl fun f h=>wpIn_ret (aH rfl h s rfl (by show _=_;unfold dJ;rw [h0];rfl))
 ·skip
  refine am ab 2 h rfl fun f h=>bf h rfl (ag (V:=.int .i64 sv.no) (ac (aG.of_own s 0 rfl) 0 (sN _ _ _)) h bo rfl rfl fun f h=>bf h rfl (cZ ab h rfl (fun h1 f h=>?_) (fun h1 f h=>?_)))
  ·refine e9 ab 13 h rfl fun f h=>wpIn_ret (aH rfl h s rfl (by show _=_;unfold dJ;rw [h0,h1];rfl))
  ·skip
   refine am ab 3 h rfl fun f h=>bf h rfl (ag (V:=.string sv.sec) (ac (aG.of_own s 0 rfl) 1 (rz _ _ _)) h dG rfl rfl fun f h=>bf h rfl (ae h (ct Tryz.underlying9 (h.ev rfl)) rfl fun f h=>bf h rfl (nX ab (decide (sv.sec.size≤64)) h rfl ((decide_eq_decide.2 (by omega))) (fun h2 f h=>?_) (fun h2 f h=>?_))))
   ·refine e9 ab 7 h rfl fun f h=>wpIn_ret (aH rfl h s rfl (by show _=_;unfold dJ;rw [h0,h1,h2];rfl))
   ·refine am ab 3 h rfl fun f h=>bf h rfl (ag (V:=vt) (ac (aG.of_own s 0 rfl) 2 (lZ _ _ _)) h eO rfl rfl fun f h=>bf h rfl (c7 h s Me (uJ sv.tb vt _ (hT.keep s.ext) htl) rfl rfl fun f w1 h s=>e9 ab 2 h rfl fun f h=>wpIn_ret (aH rfl h s rfl (by show _=_;unfold dJ;rw [h0,h1,h2];rfl))))
theorem fX (a b:Sv) (vt vu:Value) (w:World) (hT:dW w vt a.tb) (hU:dW w vu b.tb) (hal:a.tb.length≤1000) (hbl:b.tb.length≤1000):Calls Tryz.prog 14 [.agg (aQ a.no a.sec vt),.agg (aQ b.no b.sec vu)].toArray w (cp w (is (.bool (decide (a=b))))):=by
 refine bF Tryz.func14 rfl Tryz.ntmps14 rfl fun f h s=>qr (aZ (aQ a.no a.sec vt) h s rfl rfl rfl fun f w1 b2 h s=>aZ (aQ b.no b.sec vu) h s rfl rfl rfl fun f w1 b3 h s=>e9 ab 1 h rfl fun f h=>al ?_)
 refine rs ab 1 h rfl fun f h=>ag (V:=.int .i64 a.no) (ac (aG.of_own s 1 rfl) 0 (sN _ _ _)) h bo rfl rfl fun f h=>am ab 1 h rfl fun f h=>ag (V:=.int .i64 b.no) (ac (aG.of_own s 0 rfl) 0 (sN _ _ _)) h bo rfl rfl fun f h=>cZ ab h rfl (fun h0 f h=>?_) (fun h0 f h=>?_)
 ·refine e9 ab 15 h rfl fun f h=>wpIn_ret (aH rfl h s rfl (by show _=_;rw [DY h0]))
 ·skip
  cases h1:(decide (a.sec=b.sec):Bool)
  ·refine am ab 2 h rfl fun f h=>bf h rfl (ag (V:=.string a.sec) (ac (aG.of_own s 1 rfl) 1 (rz _ _ _)) h dG rfl rfl fun f h=>am ab 1 h rfl fun f h=>bf h rfl (ag (V:=.string b.sec) (ac (aG.of_own s 0 rfl) 1 (rz _ _ _)) h dG rfl rfl fun f h=>bf h rfl (ae h (aV (.bool false) (cS (h.ev rfl) (h.ev rfl)) (congrArg Value.bool h1)) rfl fun f h=>e9 ab 9 h rfl fun f h=>wpIn_ret (aH rfl h s rfl (by show _=_;rw [Cs h0 h1])))))
  ·refine am ab 2 h rfl fun f h=>bf h rfl (ag (V:=.string a.sec) (ac (aG.of_own s 1 rfl) 1 (rz _ _ _)) h dG rfl rfl fun f h=>am ab 1 h rfl fun f h=>bf h rfl (ag (V:=.string b.sec) (ac (aG.of_own s 0 rfl) 1 (rz _ _ _)) h dG rfl rfl fun f h=>bf h rfl (ae h (aV (.bool true) (cS (h.ev rfl) (h.ev rfl)) (congrArg Value.bool h1)) rfl fun f h=>am ab 3 h rfl fun f h=>bf h rfl (ag (V:=vt) (ac (aG.of_own s 1 rfl) 2 (lZ _ _ _)) h eO rfl rfl fun f h=>am ab 1 h rfl fun f h=>bf h rfl (ag (V:=vu) (ac (aG.of_own s 0 rfl) 2 (lZ _ _ _)) h eO rfl rfl fun f h=>bf h rfl (c7 h s L0 (w8 a.tb b.tb vt vu _ (hT.keep s.ext) (hU.keep s.ext) hal hbl) rfl rfl fun f w1 h s=>e9 ab 2 h rfl fun f h=>wpIn_ret (aH rfl h s rfl (by show _=_;rw [C7 h0 h1]))))))))
theorem qL (m:Mg) (vs:Value) (w:World) (hV:dM w vs m.l) (hml:m.l.length≤1000):Calls Tryz.prog 32 [.agg (aP m vs)].toArray w (cp w (is (.bool (fo m)))):=by
 refine bF Tryz.func32 rfl Tryz.ntmps32 rfl fun f h s=>qr (aZ (aP m vs) h s rfl rfl rfl fun f w1 b1 h s=>e9 ab 1 h rfl fun f h=>al ?_)
 refine rs ab 1 h rfl fun f h=>ag (ac (aG.of_own s 0 rfl) 0 (cN _ _)) h bo rfl rfl fun f h=>cZ ab h rfl (fun h0 f h=>?_) (fun h0 f h=>?_)
 ·refine am ab 1 h rfl fun f h=>bf h rfl (ak 0 h s bL rfl rfl (ax _ _) rfl fun f h=>bf h rfl (c7 h s NK (xU m vs _ (hV.keep s.ext) hml) rfl rfl fun f w1 h s=>e9 ab 2 h rfl fun f h=>wpIn_ret (aH rfl h s rfl (by show _=_;unfold fo;rw [h0];rfl))))
 ·refine e9 ab 5 h rfl fun f h=>wpIn_ret (aH rfl h s rfl (by show _=_;unfold fo;rw [h0];rfl))
theorem oy (p:Pk) (vs:Value) (w:World) (hP:dM w vs p.1):Calls Tryz.prog 56 [.agg (bO vs p.2.1 p.2.2)].toArray w (cp w (is (.agg (aP (bQ p) vs)))):=by
 refine bF Tryz.func56 rfl Tryz.ntmps56 rfl fun f h s=>qr (aZ (bO vs p.2.1 p.2.2) h s rfl rfl rfl fun f w1 b1 h s=>aK (aP mZ aI) h s kQ rfl rfl fun f w1 b2 h s=>nt (bZ ab 1 h rfl fun f h=>ag (V:=vs) (ac (aG.of_own s 1 rfl) 0 (rK _ _ _)) h cG rfl rfl fun f h=>am ab 1 h rfl fun f h=>ag (V:=.int .i64 p.2.1) (ac (aG.of_own s 1 rfl) 1 (rJ _ _ _)) h bo rfl rfl fun f h=>am ab 1 h rfl fun f h=>ag (V:=.string p.2.2) (ac (aG.of_own s 1 rfl) 2 (A9 _ _ _)) h dG rfl rfl fun f h=>ae h (lX (l:=p.1) (gx hP) (eR hP) li rfl (h.ev rfl) (h.ev rfl) (h.ev rfl)) rfl fun f h=>aj 0 h s bL rfl rfl rfl (ax _ _) (ax _ _) (cX _ _ (bs hP)) fun w1 s=>nt (wpIn_ret (cR 0 rfl h s bL rfl rfl (ax _ _) (rfl)))))
set_option maxHeartbeats 1000000 in
theorem gW (n e9:Int) (sc:ByteArray) (vt ul:Value) (K:List S2) (to:Int) (m:Mg) (vm:Value) (by9:Tg) (B9:List Own) (w0 w:World) (s:St w0 (.sl ul 71 139 K.length (aS K)::B9) w) (h1:vt.oneCell'=true) (hm:dM w vm m.l) (hKl:K.length≤1000) (hKo:∀ u∈aS K,u.oneCell'=true):Calls Tryz.prog 55 [.agg (bT n sc vt ul e9),.int .i64 to,.agg (aP m vm),.agg (aB by9)].toArray w (fun e w9=>∃ z9,e=.returned z9∧∃ u,z9=.agg (bT n sc vt u e9)∧St w0 (.sl u 71 139 (K++[(((to,m,by9),vm):S2)]).length (aS (K++[(((to,m,by9),vm):S2)]))::B9) w9):=by
 refine rm Tryz.func55 rfl Tryz.ntmps55 rfl [(0,.agg (bT n sc vt ul e9)),(1,.int .i64 to),(2,.agg (aP m vm)),(3,.agg (aB by9))] (by simp) fun f h=>?_
 refine qr (aZ (bT n sc vt ul e9) h s rfl rfl rfl fun f w1 b4 h s=>aZ (aP m vm) h s rfl rfl rfl fun f w1 b6 h s=>aZ (aB by9) h s rfl rfl rfl fun f w1 b7 h s=>aK (bT 0 ByteArray.empty aI aI 0) h s gL rfl rfl fun f w1 b8 h s=>nt (bZ ab 1 h rfl fun f h=>ag (V:=ul) (ac (aG.of_own s 3 rfl) 3 (ux _ _ _ _ _)) h nf rfl rfl fun f h=>am ab 1 h rfl fun f h=>ak 2 h s bL rfl rfl (ax _ _) rfl fun f h=>ak 1 h s a8 rfl rfl (ao _) rfl fun f h=>ae h (oT qk (h.ev rfl) (h.ev rfl) (h.ev rfl)) rfl fun f h=>bn (vs:=[.agg (dv to m vm by9)]) [.tmp 14] h s Tryz.underlying34 kW rfl rfl (qg (((to,m,by9),vm):S2)) rfl rfl rfl fun f w1 v15 h s=>cq 5 0 h s Tryz.underlying34 kW rfl rfl rfl rfl (by decide) (by rw [CX (((to,m,by9),vm):S2)];exact fun u hu=>qR _ _ _ (bs hm) u hu) (by unfold maxLen;omega) (by omega) rfl fun f w1 v16 h s=>?_))
 replace s:=s.pick _ (List.sublist_cons_self _ _)
 replace s:=s.resl (m:=(K++[(((to,m,by9),vm):S2)]).length) (ys:=aS (K++[(((to,m,by9),vm):S2)])) 4 rfl (by rw [List.length_append];rfl) (by rw [mR K (((to,m,by9),vm):S2)])
 refine am ab 1 h rfl fun f h=>bN 3 h s nf rfl rfl rfl (by rw [aw];omega) (dm (s.getSl 4 rfl)) fun w1 s=>?_
 replace s:=s.recell (D:=bT n sc vt v16 e9) 3 rfl (rfl)
 refine nt (qr (ak 3 h s bV rfl rfl (aw _ _ _ _ _) rfl fun f h=>aj 0 h s bV rfl rfl rfl (aw _ _ _ _ _) (aw _ _ _ _ _) (bB _ _ _ (h1) (dm (s.getSl 4 rfl))) fun w1 s=>nt (wpIn_ret (I7 0 rfl h s bV rfl rfl (aw _ _ _ _ _) (⟨_,rfl,_,rfl,s.pick _ (List.sublist_append_right [_,_,_,_] _)⟩)))))
set_option maxHeartbeats 2000000 in
theorem EP (sv s0:Sv) (vt vw:Value) (fr:Int) (m:Mg) (vs:Value) (now:Int) (w:World) (hT:dW w vt sv.tb) (htl:sv.tb.length≤1000) (hW:dW w vw s0.tb) (hV:dM w vs m.l) (hml:m.l.length≤1000) (hsz:sv.sec.size≤64) (ha:cC m=true) (hn:0≤now∧now≤1099511627776):Calls Tryz.prog 35 [.agg (aQ sv.no sv.sec vt),.agg (aQ s0.no s0.sec vw),.int .i64 fr,.agg (aP m vs),.int .i64 now].toArray w (cp w (E8 w vt vw vs sv.tb s0.tb m.l (f7 sv s0 fr m now))):=by
 obtain ⟨hh1,hh2⟩:=oH (fP ha).1
 refine bF Tryz.func35 rfl Tryz.ntmps35 rfl fun f h s=>qr (aZ (aQ sv.no sv.sec vt) h s rfl rfl rfl fun f w1 b5 h s=>aZ (aQ s0.no s0.sec vw) h s rfl rfl rfl fun f w1 b6 h s=>aZ (aP m vs) h s rfl rfl rfl fun f w1 b8 h s=>aK (bT 0 ByteArray.empty aI aI 0) h s gL rfl rfl fun f w1 b10 h s=>nt (qr (ak 3 h s bp rfl rfl (ap _ _ _) rfl fun f h=>ae h (nz kX (h.ev rfl)) rfl fun f h=>aK (bT 0 ByteArray.empty aI aI 0) h s gL rfl rfl fun f w1 b11 h s=>aj 0 h s bV rfl rfl rfl (aw _ _ _ _ _) (aw _ _ _ _ _) (bB _ _ _ (bs (hT.keep s.ext)) (rfl)) fun w1 s=>nt (bZ ab 1 h rfl fun f h=>ag (V:=.string sv.sec) (ac (aG.of_own s 4 rfl) 1 (rz _ _ _)) h dG rfl rfl fun f h=>ak 2 h s bL rfl rfl (ax _ _) rfl fun f h=>c7 h s Mu (wE sv.sec m vs _ hsz ha) rfl rfl fun f w1 h s=>aK (jc 0 mZ aI) h s yS rfl rfl fun f w1 b12 h s=>aj 0 h s f8 rfl rfl rfl (cc _ _ _) (cc _ _ _) (fh _ _ rfl) fun w1 s=>nt (al (bZ ab 1 h rfl fun f h=>ag (ac (aG.of_own s 0 rfl) 0 (OB _ _ _)) h bo rfl rfl fun f h=>nt (wpIn_block (bH ab 2 h rfl fun f h=>cd h rfl (fun hc=>?_) (fun hc=>?_)))))))))
 ·have j1:=hc
  refine qr (ak 1 h s bV rfl rfl (aw _ _ _ _ _) rfl fun f h=>am ab 2 h rfl fun f h=>ag (ac (aG.of_own s 3 rfl) 66 (pJ _ _)) h bo rfl rfl fun f h=>ae h (a6 (h.ev rfl) (h.ev rfl) (by omega)) rfl fun f h=>am ab 1 h rfl fun f h=>ar (aG.subL (aG.of_own s 0 rfl) 1 71 (D:=aP (dC sv.sec m) aI) (OR _ _ _)) h bL rfl (ax _ _) rfl fun f h=>ae h (cK jM) rfl fun f h=>?_)
  replace s:=s.nilSl 71 139
  refine jb [.agg (bT sv.no sv.sec vt aI 0),.int .i64 (16+m.t.2.2),.agg (aP (dC sv.sec m) aI),.agg (aB aW)] h qo (gW sv.no 0 sv.sec vt aI [] (16+m.t.2.2) (dC sv.sec m) aI aW _ _ _ s (bs hT) (fF _ (wR _ _).1 rfl) (Nat.zero_le _) (fun u hu=>by cases hu)) rfl rfl ?_;rintro f w1 v33 ⟨u9,rfl,s⟩ h
  refine aj 3 h s bV rfl rfl rfl (aw _ _ _ _ _) (aw _ _ _ _ _) (bB _ _ _ (bs (hT.keep s.ext)) (dm (s.getSl 0 rfl))) fun w1 s=>nt (wpIn_ret (ck (bK (cR 3 rfl h s bV rfl rfl (aw _ _ _ _ _) (GD (KL j1) rfl (fun w9 a _ _=>⟨a,oZ (fF w9 (wR _ _).1 rfl)⟩) (s.pick _ (List.Sublist.cons_cons _ (List.nil_sublist _))))))))
 ·have j1:=hc
  refine bH ab 2 h rfl fun f h=>cd h rfl (fun hc=>?_) (fun hc=>?_)
  ·have j2:=hc
   refine al ?_
   cases f0:(decide ((dL sv.tb (en m now)).length≤32):Bool)
   ·skip
    refine mW 0 [[],[0],[],[],[2,3],[0,1,2,3,4],[0,1,2,3,4,5],[0,1,2,3,4,5,6],[0,1,2,3,4,5,6],[0,1,2,3,4,5,6,7],[0,1,2,3,4,5,6,7,8,9]] [[],[],[],[],[],[],[],[],[],[],[]] [] [.v _,.v vt,.v (.agg (aP m vs)),.v _,.v (.agg (aB (en m now))),.r (fun v=>[.sl (ed (v 5)) 67 67 (dL sv.tb (en m now)).length (aJ (dL sv.tb (en m now)))]) (fun v=>v 5=.tuple #[(ed (v 5)),.bool false]),.f (fun v=>v 6=.tuple #[(ed (v 5)),.bool false]),.f (fun v=>v 7=(ed (v 5))),.v (.bool false),.f (fun v=>v 9=(ed (v 5))),.v _] _ h s rfl (by kernel_rfl) (by kernel_rfl) (by kernel_rfl) (iz ab h rfl rfl rfl (cF ?_ (cF ?_ (iz ab h rfl rfl rfl (cF ?_ (cF ?_ (cF ?_ (cF ?_ (cF ?_ (cF ?_ (iz ab h rfl rfl rfl (trivial)))))))))))) [0,1,2,3,4,5,6,7,8,9,10] (by kernel_rfl) ?_
    ·intro f9 w2 vl7 E9 hs9 hd9 hl hF s
     have h:=dh [(37,_)] h hs9 hd9 ⟨bu hl 37 0 (by kernel_rfl) (hF 0 (by decide)),trivial⟩
     refine ag (V:=vt) (ac (aG.of_own s 5 rfl) 2 (lZ _ _ _)) h eO rfl rfl fun f h=>av ⟨_,bw 38 h rfl rfl,rfl,s⟩
    ·intro f9 w2 vl7 E9 hs9 hd9 hl hF s
     have h:=dh [(8,_)] h hs9 hd9 ⟨gN hl 8 (by kernel_rfl) (h.holds 8 _ rfl),trivial⟩
     refine ak 3 h s bL rfl rfl (ax _ _) rfl fun f h=>av ⟨_,bw 39 h rfl rfl,rfl,s⟩
    ·intro f9 w2 vl7 E9 hs9 hd9 hl hF s
     have h:=dh [(39,_),(40,_)] h hs9 hd9 ⟨bu hl 39 2 (by kernel_rfl) (hF 2 (by decide)),bu hl 40 3 (by kernel_rfl) (hF 3 (by decide)),trivial⟩
     refine bq h s HT (nK m vs now _ hn (nF ha (yO j2))) rfl rfl ?_;intro f w1 v9 hT hE h s;obtain rfl:=hT
     exact av ⟨_,bw 41 h rfl rfl,rfl,s⟩
    ·intro f9 w2 vl7 E9 hs9 hd9 hl hF s
     have h:=dh [(38,_),(41,_)] h hs9 hd9 ⟨bu hl 38 1 (by kernel_rfl) (hF 1 (by decide)),bu hl 41 4 (by kernel_rfl) (hF 4 (by decide)),trivial⟩
     refine bq h s Ic (sD sv.tb vt (en m now) _ (hT.keep s.ext) htl) rfl rfl ?_;rintro f w1 v42 ⟨p9,hv9,hO9⟩ hE h sq;replace s:=s.sl_new hE hO9
     rw [f0] at hv9
     have h1v:p9=ed v42:=by rw [hv9];rfl
     clear hO9
     subst h1v
     exact av ⟨_,bw 42 h rfl rfl,hv9,s⟩
    ·intro f9 w2 vl7 E9 hs9 hd9 hl hF s
     have h:=dh [(42,.tuple #[(ed (vl7 5)),.bool false])] h hs9 hd9 ⟨bu hl 42 5 (by kernel_rfl) (hF 5 (by decide)),trivial⟩
     refine am ab 1 h rfl fun f h=>av ⟨_,bw 36 h rfl rfl,rfl,s⟩
    ·intro f9 w2 vl7 E9 hs9 hd9 hl hF s
     have h:=dh [(36,.tuple #[(ed (vl7 5)),.bool false])] h hs9 hd9 ⟨bu hl 36 6 (by kernel_rfl) (hF 6 (by decide)),trivial⟩
     refine am ab 1 h rfl fun f h=>av ⟨_,bw 43 h rfl rfl,rfl,s⟩
    ·intro f9 w2 vl7 E9 hs9 hd9 hl hF s
     have h:=dh [(36,.tuple #[(ed (vl7 5)),.bool false])] h hs9 hd9 ⟨bu hl 36 6 (by kernel_rfl) (hF 6 (by decide)),trivial⟩
     refine am ab 1 h rfl fun f h=>av ⟨_,bw 44 h rfl rfl,rfl,s⟩
    ·intro f9 w2 vl7 E9 hs9 hd9 hl hF s
     have h:=dh [(43,(ed (vl7 5)))] h hs9 hd9 ⟨bu hl 43 7 (by kernel_rfl) (hF 7 (by decide)),trivial⟩
     refine am ab 1 h rfl fun f h=>av ⟨_,bw 13 h rfl rfl,rfl,s⟩
    intro f w1 vl7 hs9 hd9 hv hr hF s
    replace h:=ly (ops:=_) [(37,_),(38,_),(39,_),(40,_),(41,_),(42,.tuple #[(ed (vl7 5)),.bool false]),(36,.tuple #[(ed (vl7 5)),.bool false]),(43,(ed (vl7 5))),(44,_),(13,(ed (vl7 5))),(14,_)] h hs9 hd9 hr ⟨(hv 0 37 rfl).trans (hF 0 rfl),(hv 1 38 rfl).trans (hF 1 rfl),(hv 2 39 rfl).trans (hF 2 rfl),(hv 3 40 rfl).trans (hF 3 rfl),(hv 4 41 rfl).trans (hF 4 rfl),(hv 5 42 rfl).trans (hF 5 rfl),(hv 6 36 rfl).trans (hF 6 rfl),(hv 7 43 rfl).trans (hF 7 rfl),(hv 8 44 rfl).trans (hF 8 rfl),(hv 9 13 rfl).trans (hF 9 rfl),(hv 10 14 rfl).trans (hF 10 rfl),trivial⟩ (by kernel_rfl)
    replace s:St w [.sl (ed (vl7 5)) 67 67 (dL sv.tb (en m now)).length (aJ (dL sv.tb (en m now))),.blk b12 (.cells (jc (cD sv.sec m) (dC sv.sec m) aI) 111),.blk b11 (.cells (bT sv.no sv.sec vt aI 0) 44),.blk b10 (.cells (bT 0 ByteArray.empty aI aI 0) 44),.blk b8 (.cells (aP m vs) 31),.blk b6 (.cells (aQ s0.no s0.sec vw) 24),.blk b5 (.cells (aQ sv.no sv.sec vt) 24)] _:=s
    refine aE (al (bH ab 2 h rfl fun f h=>cy h rfl (qr (ak 5 h s bp rfl rfl (ap _ _ _) rfl fun f h=>ae h (js kX (h.ev rfl) rfl) rfl fun f h=>aj 3 h s bV rfl rfl rfl (aw _ _ _ _ _) (aw _ _ _ _ _) (bB _ _ _ (bs (hW.keep s.ext)) (rfl)) fun w1 s=>nt (rt (ck (bK (cR 3 rfl h s bV rfl rfl (aw _ _ _ _ _) (g8 (Nf j1 j2 f0) (fun _ _ b=>b) (s.pick _ (List.nil_sublist _)))))))))))
   ·skip
    refine mW 0 [[],[0],[],[],[2,3],[0,1,2,3,4],[0,1,2,3,4,5],[0,1,2,3,4,5,6],[0,1,2,3,4,5,6],[0,1,2,3,4,5,6,7],[0,1,2,3,4,5,6,7,8,9]] [[],[],[],[],[],[],[],[],[],[],[]] [] [.v _,.v vt,.v (.agg (aP m vs)),.v _,.v (.agg (aB (en m now))),.r (fun v=>[.sl (ed (v 5)) 67 67 (dL sv.tb (en m now)).length (aJ (dL sv.tb (en m now)))]) (fun v=>v 5=.tuple #[(ed (v 5)),.bool true]),.f (fun v=>v 6=.tuple #[(ed (v 5)),.bool true]),.f (fun v=>v 7=(ed (v 5))),.v (.bool true),.f (fun v=>v 9=(ed (v 5))),.v _] _ h s rfl (by kernel_rfl) (by kernel_rfl) (by kernel_rfl) (iz ab h rfl rfl rfl (cF ?_ (cF ?_ (iz ab h rfl rfl rfl (cF ?_ (cF ?_ (cF ?_ (cF ?_ (cF ?_ (cF ?_ (iz ab h rfl rfl rfl (trivial)))))))))))) [0,1,2,3,4,5,6,7,8,9,10] (by kernel_rfl) ?_
    ·intro f9 w2 vl7 E9 hs9 hd9 hl hF s
     have h:=dh [(37,_)] h hs9 hd9 ⟨bu hl 37 0 (by kernel_rfl) (hF 0 (by decide)),trivial⟩
     refine ag (V:=vt) (ac (aG.of_own s 5 rfl) 2 (lZ _ _ _)) h eO rfl rfl fun f h=>av ⟨_,bw 38 h rfl rfl,rfl,s⟩
    ·intro f9 w2 vl7 E9 hs9 hd9 hl hF s
     have h:=dh [(8,_)] h hs9 hd9 ⟨gN hl 8 (by kernel_rfl) (h.holds 8 _ rfl),trivial⟩
     refine ak 3 h s bL rfl rfl (ax _ _) rfl fun f h=>av ⟨_,bw 39 h rfl rfl,rfl,s⟩
    ·intro f9 w2 vl7 E9 hs9 hd9 hl hF s
     have h:=dh [(39,_),(40,_)] h hs9 hd9 ⟨bu hl 39 2 (by kernel_rfl) (hF 2 (by decide)),bu hl 40 3 (by kernel_rfl) (hF 3 (by decide)),trivial⟩
     refine bq h s HT (nK m vs now _ hn (nF ha (yO j2))) rfl rfl ?_;intro f w1 v9 hT hE h s;obtain rfl:=hT
     exact av ⟨_,bw 41 h rfl rfl,rfl,s⟩
    ·intro f9 w2 vl7 E9 hs9 hd9 hl hF s
     have h:=dh [(38,_),(41,_)] h hs9 hd9 ⟨bu hl 38 1 (by kernel_rfl) (hF 1 (by decide)),bu hl 41 4 (by kernel_rfl) (hF 4 (by decide)),trivial⟩
     refine bq h s Ic (sD sv.tb vt (en m now) _ (hT.keep s.ext) htl) rfl rfl ?_;rintro f w1 v42 ⟨p9,hv9,hO9⟩ hE h sq;replace s:=s.sl_new hE hO9
     rw [f0] at hv9
     have h1v:p9=ed v42:=by rw [hv9];rfl
     clear hO9
     subst h1v
     exact av ⟨_,bw 42 h rfl rfl,hv9,s⟩
    ·intro f9 w2 vl7 E9 hs9 hd9 hl hF s
     have h:=dh [(42,.tuple #[(ed (vl7 5)),.bool true])] h hs9 hd9 ⟨bu hl 42 5 (by kernel_rfl) (hF 5 (by decide)),trivial⟩
     refine am ab 1 h rfl fun f h=>av ⟨_,bw 36 h rfl rfl,rfl,s⟩
    ·intro f9 w2 vl7 E9 hs9 hd9 hl hF s
     have h:=dh [(36,.tuple #[(ed (vl7 5)),.bool true])] h hs9 hd9 ⟨bu hl 36 6 (by kernel_rfl) (hF 6 (by decide)),trivial⟩
     refine am ab 1 h rfl fun f h=>av ⟨_,bw 43 h rfl rfl,rfl,s⟩
    ·intro f9 w2 vl7 E9 hs9 hd9 hl hF s
     have h:=dh [(36,.tuple #[(ed (vl7 5)),.bool true])] h hs9 hd9 ⟨bu hl 36 6 (by kernel_rfl) (hF 6 (by decide)),trivial⟩
     refine am ab 1 h rfl fun f h=>av ⟨_,bw 44 h rfl rfl,rfl,s⟩
    ·intro f9 w2 vl7 E9 hs9 hd9 hl hF s
     have h:=dh [(43,(ed (vl7 5)))] h hs9 hd9 ⟨bu hl 43 7 (by kernel_rfl) (hF 7 (by decide)),trivial⟩
     refine am ab 1 h rfl fun f h=>av ⟨_,bw 13 h rfl rfl,rfl,s⟩
    intro f w1 vl7 hs9 hd9 hv hr hF s
    replace h:=ly (ops:=_) [(37,_),(38,_),(39,_),(40,_),(41,_),(42,.tuple #[(ed (vl7 5)),.bool true]),(36,.tuple #[(ed (vl7 5)),.bool true]),(43,(ed (vl7 5))),(44,_),(13,(ed (vl7 5))),(14,_)] h hs9 hd9 hr ⟨(hv 0 37 rfl).trans (hF 0 rfl),(hv 1 38 rfl).trans (hF 1 rfl),(hv 2 39 rfl).trans (hF 2 rfl),(hv 3 40 rfl).trans (hF 3 rfl),(hv 4 41 rfl).trans (hF 4 rfl),(hv 5 42 rfl).trans (hF 5 rfl),(hv 6 36 rfl).trans (hF 6 rfl),(hv 7 43 rfl).trans (hF 7 rfl),(hv 8 44 rfl).trans (hF 8 rfl),(hv 9 13 rfl).trans (hF 9 rfl),(hv 10 14 rfl).trans (hF 10 rfl),trivial⟩ (by kernel_rfl)
    replace s:St w [.sl (ed (vl7 5)) 67 67 (dL sv.tb (en m now)).length (aJ (dL sv.tb (en m now))),.blk b12 (.cells (jc (cD sv.sec m) (dC sv.sec m) aI) 111),.blk b11 (.cells (bT sv.no sv.sec vt aI 0) 44),.blk b10 (.cells (bT 0 ByteArray.empty aI aI 0) 44),.blk b8 (.cells (aP m vs) 31),.blk b6 (.cells (aQ s0.no s0.sec vw) 24),.blk b5 (.cells (aQ sv.no sv.sec vt) 24)] _:=s
    refine aE (al (bH ab 2 h rfl fun f h=>iU h rfl (bZ ab 3 h rfl fun f h=>bN 2 h s eO rfl rfl rfl (by rw [aw];omega) (dm (s.getSl 0 rfl)) fun w1 s=>?_)))
    replace s:=s.recell (D:=bT sv.no sv.sec (ed (vl7 5)) aI 0) 2 rfl (rfl)
    refine nt (qr (ak 2 h s bV rfl rfl (aw _ _ _ _ _) rfl fun f h=>am ab 2 h rfl fun f h=>ar (aG.subL (aG.of_own s 4 rfl) 1 32 (D:=aA (_)) (cQ _ _)) h aN rfl (by first|exact ai _|exact ah _ _) rfl fun f h=>am ab 1 h rfl fun f h=>ar (aG.subL (aG.of_own s 4 rfl) 33 34 (D:=bg (_)) (cI _ _)) h bY rfl (aC _) rfl fun f h=>ae h (mC li rfl (h.ev rfl) (h.ev rfl)) rfl fun f h=>ae h (cK jM) rfl fun f h=>?_))
    replace s:=s.nilSl 71 139
    refine jb [.agg (bT (Sv.mk sv.no sv.sec (dL sv.tb (en m now))).no (Sv.mk sv.no sv.sec (dL sv.tb (en m now))).sec (ed (vl7 5)) aI 0),.int .i64 (fr),.agg (aP (iW m) aI),.agg (aB aW)] h qo (gW (Sv.mk sv.no sv.sec (dL sv.tb (en m now))).no 0 (Sv.mk sv.no sv.sec (dL sv.tb (en m now))).sec (ed (vl7 5)) aI [] (fr) (iW m) aI aW _ _ _ s (dm (s.getSl 1 rfl)) (fF _ rfl rfl) (Nat.zero_le _) (fun u hu=>by cases hu)) rfl rfl ?_;rintro f w1 v60 ⟨u9,rfl,s⟩ h
    refine aj 4 h s bV rfl rfl rfl (aw _ _ _ _ _) (aw _ _ _ _ _) (bB _ _ _ (dm (s.getSl 1 rfl)) (dm (s.getSl 0 rfl))) fun w1 s=>nt (wpIn_ret (ck (bK (cR 4 rfl h s bV rfl rfl (aw _ _ _ _ _) (Fb (LQ j1 j2 f0) rfl rfl (fun w9 _=>oZ (fF w9 rfl rfl)) (s.pick _ (List.Sublist.cons_cons _ (List.Sublist.cons_cons _ (List.nil_sublist _)))))))))
  ·have j2:=hc
   refine bH ab 2 h rfl fun f h=>cd h rfl (fun hc=>?_) (fun hc=>?_)
   ·have j3:=hc
    refine al (bZ ab 1 h rfl fun f h=>ag (V:=vt) (ac (aG.of_own s 5 rfl) 2 (lZ _ _ _)) h eO rfl rfl fun f h=>am ab 1 h rfl fun f h=>ar (aG.subL (aG.of_own s 3 rfl) 1 32 (D:=aA (_)) (cQ _ _)) h aN rfl (by first|exact ai _|exact ah _ _) rfl fun f h=>am ab 1 h rfl fun f h=>ar (aG.subL (aG.of_own s 3 rfl) 33 34 (D:=bg (_)) (cI _ _)) h bY rfl (aC _) rfl fun f h=>bq h s Ih (qq sv.tb vt m.i m.t _ (hT.keep s.ext) htl) rfl rfl ?_);intro f w1 v9 hT hE h s;obtain rfl:=hT
    refine ae h (AI Hg bo (h.ev rfl) (dD _)) rfl fun f h=>e9 ab 1 h rfl fun f h=>cd h rfl (fun hc=>?_) (fun hc=>?_)
    ·have f1:=hc
     refine qr (ak 4 h s bp rfl rfl (ap _ _ _) rfl fun f h=>ae h (js kX (h.ev rfl) rfl) rfl fun f h=>aj 2 h s bV rfl rfl rfl (aw _ _ _ _ _) (aw _ _ _ _ _) (bB _ _ _ (bs (hW.keep s.ext)) (rfl)) fun w1 s=>nt (rt (ck (bK (cR 2 rfl h s bV rfl rfl (aw _ _ _ _ _) (g8 (L2 j1 j2 j3 f1) (fun _ _ b=>b) (s.pick _ (List.nil_sublist _))))))))
    ·have f1:=hc
     refine kt (bZ ab 1 h rfl fun f h=>ag (V:=vt) (ac (aG.of_own s 5 rfl) 2 (lZ _ _ _)) h eO rfl rfl fun f h=>am ab 1 h rfl fun f h=>ar (aG.subL (aG.of_own s 3 rfl) 1 32 (D:=aA (_)) (cQ _ _)) h aN rfl (by first|exact ai _|exact ah _ _) rfl fun f h=>am ab 1 h rfl fun f h=>ar (aG.subL (aG.of_own s 3 rfl) 33 34 (D:=bg (_)) (cI _ _)) h bY rfl (aC _) rfl fun f h=>bq h s Iu (sj sv.tb vt m.i m.t _ (hT.keep s.ext) htl) rfl rfl ?_);intro f w1 v80 hOw hE h sq;change cB _ _ _ 67 _ (jo sv.tb m.i m.t).length (aJ (jo sv.tb m.i m.t)) at hOw;replace s:=s.sl_new hE hOw;clear hOw
     refine am ab 2 h rfl fun f h=>bN 2 h s eO rfl rfl rfl (by rw [aw];omega) (dm (s.getSl 0 rfl)) fun w1 s=>?_
     replace s:=s.recell (D:=bT sv.no sv.sec v80 aI 0) 2 rfl (rfl)
     refine nt (qr (ak 2 h s bV rfl rfl (aw _ _ _ _ _) rfl fun f h=>aj 3 h s bV rfl rfl rfl (aw _ _ _ _ _) (aw _ _ _ _ _) (bB _ _ _ (dm (s.getSl 0 rfl)) (rfl)) fun w1 s=>nt (wpIn_ret (ck (bK (cR 3 rfl h s bV rfl rfl (aw _ _ _ _ _) (G2 (s':=⟨sv.no,sv.sec,(jo sv.tb m.i m.t)⟩) (Nc j1 j2 j3 f1) rfl (s.pick _ (List.Sublist.cons_cons _ (List.nil_sublist _))))))))))
   ·have j3:=hc
    refine wpIn_skip (ba (aE (qr (ak 4 h s bp rfl rfl (ap _ _ _) rfl fun f h=>ae h (js kX (h.ev rfl) rfl) rfl fun f h=>aj 2 h s bV rfl rfl rfl (aw _ _ _ _ _) (aw _ _ _ _ _) (bB _ _ _ (bs (hW.keep s.ext)) (rfl)) fun w1 s=>nt (wpIn_ret (cR 2 rfl h s bV rfl rfl (aw _ _ _ _ _) (g8 (LG j1 j2 j3) (fun _ _ b=>b) (s.pick _ (List.nil_sublist _)))))))))
set_option maxHeartbeats 2000000 in
theorem ga (K M:List S2) (va vb:Value) (w:World) (hK:MH w va K) (hM:MH w vb M) (hKl:K.length≤1000) (hMl:M.length≤1000) (hKs:∀ x∈K,x.1.2.1.l.length≤1000) (hMs:∀ x∈M,x.1.2.1.l.length≤1000):Calls Tryz.prog 15 [va,vb].toArray w (cp w (is (.bool (decide (cJ K=cJ M))))):=by
 refine bF Tryz.func15 rfl Tryz.ntmps15 rfl fun f h s=>bH ab 1 h rfl fun f h=>al (bZ ab 1 h rfl fun f h=>dN h (hK.1.keep s.ext) Tryz.underlying34 rfl rfl fun f h=>am ab 1 h rfl fun f h=>dN h (hM.1.keep s.ext) Tryz.underlying34 rfl rfl fun f h=>e9 ab 1 h rfl fun f h=>cd h rfl (fun hc=>?_) (fun hc=>?_))
 ·replace hc:=hc
  refine bH ab 1 h rfl fun f h=>rt (aH rfl h s rfl (by show _=_;rw [MB (fun e9=>by rw [e9] at hc;simp at hc)]))
 ·have hl9:K.length=M.length:=by have:=hc;simp at this;omega
  refine kt (al (bZ ab 1 h rfl fun f h=>dN h (hK.1.keep s.ext) Tryz.underlying34 rfl rfl fun f h=>e9 ab 1 h rfl fun f h=>wpIn_block (wpIn_loop_ghost (fun nn aa ww=>∃ k:Nat,Sl 55 aa [(0,va),(1,vb),(12,.int .i64 (K.length:Int)),(13,.int .i64 (k:Int))]∧St w [] ww∧nn=K.length - k∧k≤K.length∧∀ j,j<k→(K.getD j dB).1=(M.getD j dB).1) (K.length - (0)) ⟨0,h.only ⟨rfl,rfl,rfl,aq rfl (by omega),trivial⟩,s.as trivial,rfl,Nat.zero_le _,fun j hj=>absurd hj (Nat.not_lt_zero _)⟩ ?_)))
  rintro _ f w1 ⟨k,h,s,hnn,hp0,hp1⟩
  refine bH ab 1 h rfl fun f h=>al (cV h rfl (fun hc=>?_) (fun hc=>?_))
  ·refine kt (al (wpIn_block (qr ?_)))
   have hkl:k<K.length:=by omega
   have hkm:k<M.length:=by omega
   refine e9 ab 2 h rfl fun f h=>al ?_
   cases k0:(decide ((K.getD k dB).1.1=(M.getD k dB).1.1):Bool)
   ·refine eo 38 h (by kernel_rfl) (az ab 2 h rfl fun f h=>au h (a7 (hK.1.keep s.ext) (k) Tryz.underlying34 fN (h.ev rfl) (h.ev rfl) (by omega) (by omega)) rfl fun f h=>au h (bM g7 (h.ev rfl) ((hK.1.keep s.ext).some (by omega))) rfl fun f h=>ay (V:=.int .i64 (K.getD k dB).1.1) (eX (hK.1.keep s.ext) (k*139+0) (nR K k hkl)) h bo rfl rfl fun f h=>az ab 2 h rfl fun f h=>au h (a7 (hM.1.keep s.ext) (k) Tryz.underlying34 fN (h.ev rfl) (h.ev rfl) (by omega) (by omega)) rfl fun f h=>au h (bM g7 (h.ev rfl) ((hM.1.keep s.ext).some (by omega))) rfl fun f h=>ay (V:=.int .i64 (M.getD k dB).1.1) (eX (hM.1.keep s.ext) (k*139+0) (nR M k hkm)) h bo rfl rfl fun f h=>qu ab h rfl (by simpa using k0) fun f h=>az ab 27 h rfl fun f h=>cj s fun w1 s=>wy h rfl (bH ab 1 h rfl fun f h=>wpIn_ret (ck (bK (bK (ck (bK (aH rfl h s rfl (by show _=_;rw [B4 hkl hkm (H9 (·.1) k0)])))))))))
   ·skip
    cases k1:(decide ((K.getD k dB).1.2.2=(M.getD k dB).1.2.2):Bool)
    ·refine eo 38 h (by kernel_rfl) (az ab 2 h rfl fun f h=>au h (a7 (hK.1.keep s.ext) (k) Tryz.underlying34 fN (h.ev rfl) (h.ev rfl) (by omega) (by omega)) rfl fun f h=>au h (bM g7 (h.ev rfl) ((hK.1.keep s.ext).some (by omega))) rfl fun f h=>ay (V:=.int .i64 (K.getD k dB).1.1) (eX (hK.1.keep s.ext) (k*139+0) (nR K k hkl)) h bo rfl rfl fun f h=>az ab 2 h rfl fun f h=>au h (a7 (hM.1.keep s.ext) (k) Tryz.underlying34 fN (h.ev rfl) (h.ev rfl) (by omega) (by omega)) rfl fun f h=>au h (bM g7 (h.ev rfl) ((hM.1.keep s.ext).some (by omega))) rfl fun f h=>ay (V:=.int .i64 (M.getD k dB).1.1) (eX (hM.1.keep s.ext) (k*139+0) (nR M k hkm)) h bo rfl rfl fun f h=>vz ab h rfl (by simpa using k0) fun f h=>az ab 3 h rfl fun f h=>bA h rfl (au h (a7 (hK.1.keep s.ext) (k) Tryz.underlying34 fN (h.ev rfl) (h.ev rfl) (by omega) (by omega)) rfl fun f h=>bA h rfl (au h (bM kP (h.ev rfl) ((hK.1.keep s.ext).some (by omega))) rfl fun f h=>bA h rfl (bj (bI.elF (hK.1.keep s.ext) (k) 72 67 (by omega) (by decide) (C:=dv (K.getD k dB).1.1 (K.getD k dB).1.2.1 (K.getD k dB).2 (K.getD k dB).1.2.2) (jK K k hkl) (D:=aB (K.getD k dB).1.2.2) (zW _ _ _ _)) h a8 rfl (ao _) rfl fun f h=>az ab 2 h rfl fun f h=>bA h rfl (au h (a7 (hM.1.keep s.ext) (k) Tryz.underlying34 fN (h.ev rfl) (h.ev rfl) (by omega) (by omega)) rfl fun f h=>bA h rfl (au h (bM kP (h.ev rfl) ((hM.1.keep s.ext).some (by omega))) rfl fun f h=>bA h rfl (bj (bI.elF (hM.1.keep s.ext) (k) 72 67 (by omega) (by decide) (C:=dv (M.getD k dB).1.1 (M.getD k dB).1.2.1 (M.getD k dB).2 (M.getD k dB).1.2.2) (jK M k hkm) (D:=aB (M.getD k dB).1.2.2) (zW _ _ _ _)) h a8 rfl (ao _) rfl fun f h=>bA h rfl (au h (aV (.bool true) (iE (N4 _ _) (by kernel_rfl) (by decide) (h.ev rfl) (h.ev rfl) (decide ((K.getD k dB).1.2.2=(M.getD k dB).1.2.2)) (Gw _ _)) (congrArg Value.bool (by simpa using k1))) rfl fun f h=>az ab 15 h rfl fun f h=>cj s fun w1 s=>wy h rfl (bH ab 1 h rfl fun f h=>wpIn_ret (ck (bK (bK (ck (bK (aH rfl h s rfl (by show _=_;rw [B4 hkl hkm (H9 (·.2.2) k1)]))))))))))))))))
    ·skip
     cases k2:(iC (K.getD k dB).1.2.1 (M.getD k dB).1.2.1:Bool)
     ·refine eo 38 h (by kernel_rfl) (az ab 2 h rfl fun f h=>au h (a7 (hK.1.keep s.ext) (k) Tryz.underlying34 fN (h.ev rfl) (h.ev rfl) (by omega) (by omega)) rfl fun f h=>au h (bM g7 (h.ev rfl) ((hK.1.keep s.ext).some (by omega))) rfl fun f h=>ay (V:=.int .i64 (K.getD k dB).1.1) (eX (hK.1.keep s.ext) (k*139+0) (nR K k hkl)) h bo rfl rfl fun f h=>az ab 2 h rfl fun f h=>au h (a7 (hM.1.keep s.ext) (k) Tryz.underlying34 fN (h.ev rfl) (h.ev rfl) (by omega) (by omega)) rfl fun f h=>au h (bM g7 (h.ev rfl) ((hM.1.keep s.ext).some (by omega))) rfl fun f h=>ay (V:=.int .i64 (M.getD k dB).1.1) (eX (hM.1.keep s.ext) (k*139+0) (nR M k hkm)) h bo rfl rfl fun f h=>vz ab h rfl (by simpa using k0) fun f h=>az ab 3 h rfl fun f h=>bA h rfl (au h (a7 (hK.1.keep s.ext) (k) Tryz.underlying34 fN (h.ev rfl) (h.ev rfl) (by omega) (by omega)) rfl fun f h=>bA h rfl (au h (bM kP (h.ev rfl) ((hK.1.keep s.ext).some (by omega))) rfl fun f h=>bA h rfl (bj (bI.elF (hK.1.keep s.ext) (k) 72 67 (by omega) (by decide) (C:=dv (K.getD k dB).1.1 (K.getD k dB).1.2.1 (K.getD k dB).2 (K.getD k dB).1.2.2) (jK K k hkl) (D:=aB (K.getD k dB).1.2.2) (zW _ _ _ _)) h a8 rfl (ao _) rfl fun f h=>az ab 2 h rfl fun f h=>bA h rfl (au h (a7 (hM.1.keep s.ext) (k) Tryz.underlying34 fN (h.ev rfl) (h.ev rfl) (by omega) (by omega)) rfl fun f h=>bA h rfl (au h (bM kP (h.ev rfl) ((hM.1.keep s.ext).some (by omega))) rfl fun f h=>bA h rfl (bj (bI.elF (hM.1.keep s.ext) (k) 72 67 (by omega) (by decide) (C:=dv (M.getD k dB).1.1 (M.getD k dB).1.2.1 (M.getD k dB).2 (M.getD k dB).1.2.2) (jK M k hkm) (D:=aB (M.getD k dB).1.2.2) (zW _ _ _ _)) h a8 rfl (ao _) rfl fun f h=>bA h rfl (au h (aV (.bool false) (iE (N4 _ _) (by kernel_rfl) (by decide) (h.ev rfl) (h.ev rfl) (decide ((K.getD k dB).1.2.2=(M.getD k dB).1.2.2)) (Gw _ _)) (congrArg Value.bool (by simpa using k1))) rfl fun f h=>az ab 4 h rfl fun f h=>bA h rfl (au h (a7 (hK.1.keep s.ext) (k) Tryz.underlying34 fN (h.ev rfl) (h.ev rfl) (by omega) (by omega)) rfl fun f h=>bA h rfl (au h (bM mr (h.ev rfl) ((hK.1.keep s.ext).some (by omega))) rfl fun f h=>bA h rfl (bj (bI.elF (hK.1.keep s.ext) (k) 1 71 (by omega) (by decide) (C:=dv (K.getD k dB).1.1 (K.getD k dB).1.2.1 (K.getD k dB).2 (K.getD k dB).1.2.2) (jK K k hkl) (D:=aP (K.getD k dB).1.2.1 (K.getD k dB).2) (Gs _ _ _ _)) h bL rfl (ax _ _) rfl fun f h=>az ab 2 h rfl fun f h=>bA h rfl (au h (a7 (hM.1.keep s.ext) (k) Tryz.underlying34 fN (h.ev rfl) (h.ev rfl) (by omega) (by omega)) rfl fun f h=>bA h rfl (au h (bM mr (h.ev rfl) ((hM.1.keep s.ext).some (by omega))) rfl fun f h=>bA h rfl (bj (bI.elF (hM.1.keep s.ext) (k) 1 71 (by omega) (by decide) (C:=dv (M.getD k dB).1.1 (M.getD k dB).1.2.1 (M.getD k dB).2 (M.getD k dB).1.2.2) (jK M k hkm) (D:=aP (M.getD k dB).1.2.1 (M.getD k dB).2) (Gs _ _ _ _)) h bL rfl (ax _ _) rfl fun f h=>bA h rfl (aY h HL (fun w9 hE9=>bG (.bool false) (se (K.getD k dB).1.2.1 (M.getD k dB).1.2.1 (K.getD k dB).2 (M.getD k dB).2 w9 ((hK.2 _ (jY hkl)).keep (s.ext.trans hE9)) ((hM.2 _ (jY hkm)).keep (s.ext.trans hE9)) (Nat.le_trans (hKs _ (jY hkl)) (by decide)) (Nat.le_trans (hMs _ (jY hkm)) (by decide))) (congrArg Value.bool k2)) rfl rfl fun f h=>az ab 2 h rfl fun f h=>cj s fun w1 s=>wy h rfl (bH ab 1 h rfl fun f h=>wpIn_ret (ck (bK (bK (ck (bK (aH rfl h s rfl (by show _=_;rw [B4 hkl hkm (JG k2)])))))))))))))))))))))))
     ·refine eo 38 h (by kernel_rfl) (az ab 2 h rfl fun f h=>au h (a7 (hK.1.keep s.ext) (k) Tryz.underlying34 fN (h.ev rfl) (h.ev rfl) (by omega) (by omega)) rfl fun f h=>au h (bM g7 (h.ev rfl) ((hK.1.keep s.ext).some (by omega))) rfl fun f h=>ay (V:=.int .i64 (K.getD k dB).1.1) (eX (hK.1.keep s.ext) (k*139+0) (nR K k hkl)) h bo rfl rfl fun f h=>az ab 2 h rfl fun f h=>au h (a7 (hM.1.keep s.ext) (k) Tryz.underlying34 fN (h.ev rfl) (h.ev rfl) (by omega) (by omega)) rfl fun f h=>au h (bM g7 (h.ev rfl) ((hM.1.keep s.ext).some (by omega))) rfl fun f h=>ay (V:=.int .i64 (M.getD k dB).1.1) (eX (hM.1.keep s.ext) (k*139+0) (nR M k hkm)) h bo rfl rfl fun f h=>vz ab h rfl (by simpa using k0) fun f h=>az ab 3 h rfl fun f h=>bA h rfl (au h (a7 (hK.1.keep s.ext) (k) Tryz.underlying34 fN (h.ev rfl) (h.ev rfl) (by omega) (by omega)) rfl fun f h=>bA h rfl (au h (bM kP (h.ev rfl) ((hK.1.keep s.ext).some (by omega))) rfl fun f h=>bA h rfl (bj (bI.elF (hK.1.keep s.ext) (k) 72 67 (by omega) (by decide) (C:=dv (K.getD k dB).1.1 (K.getD k dB).1.2.1 (K.getD k dB).2 (K.getD k dB).1.2.2) (jK K k hkl) (D:=aB (K.getD k dB).1.2.2) (zW _ _ _ _)) h a8 rfl (ao _) rfl fun f h=>az ab 2 h rfl fun f h=>bA h rfl (au h (a7 (hM.1.keep s.ext) (k) Tryz.underlying34 fN (h.ev rfl) (h.ev rfl) (by omega) (by omega)) rfl fun f h=>bA h rfl (au h (bM kP (h.ev rfl) ((hM.1.keep s.ext).some (by omega))) rfl fun f h=>bA h rfl (bj (bI.elF (hM.1.keep s.ext) (k) 72 67 (by omega) (by decide) (C:=dv (M.getD k dB).1.1 (M.getD k dB).1.2.1 (M.getD k dB).2 (M.getD k dB).1.2.2) (jK M k hkm) (D:=aB (M.getD k dB).1.2.2) (zW _ _ _ _)) h a8 rfl (ao _) rfl fun f h=>bA h rfl (au h (aV (.bool false) (iE (N4 _ _) (by kernel_rfl) (by decide) (h.ev rfl) (h.ev rfl) (decide ((K.getD k dB).1.2.2=(M.getD k dB).1.2.2)) (Gw _ _)) (congrArg Value.bool (by simpa using k1))) rfl fun f h=>az ab 4 h rfl fun f h=>bA h rfl (au h (a7 (hK.1.keep s.ext) (k) Tryz.underlying34 fN (h.ev rfl) (h.ev rfl) (by omega) (by omega)) rfl fun f h=>bA h rfl (au h (bM mr (h.ev rfl) ((hK.1.keep s.ext).some (by omega))) rfl fun f h=>bA h rfl (bj (bI.elF (hK.1.keep s.ext) (k) 1 71 (by omega) (by decide) (C:=dv (K.getD k dB).1.1 (K.getD k dB).1.2.1 (K.getD k dB).2 (K.getD k dB).1.2.2) (jK K k hkl) (D:=aP (K.getD k dB).1.2.1 (K.getD k dB).2) (Gs _ _ _ _)) h bL rfl (ax _ _) rfl fun f h=>az ab 2 h rfl fun f h=>bA h rfl (au h (a7 (hM.1.keep s.ext) (k) Tryz.underlying34 fN (h.ev rfl) (h.ev rfl) (by omega) (by omega)) rfl fun f h=>bA h rfl (au h (bM mr (h.ev rfl) ((hM.1.keep s.ext).some (by omega))) rfl fun f h=>bA h rfl (bj (bI.elF (hM.1.keep s.ext) (k) 1 71 (by omega) (by decide) (C:=dv (M.getD k dB).1.1 (M.getD k dB).1.2.1 (M.getD k dB).2 (M.getD k dB).1.2.2) (jK M k hkm) (D:=aP (M.getD k dB).1.2.1 (M.getD k dB).2) (Gs _ _ _ _)) h bL rfl (ax _ _) rfl fun f h=>bA h rfl (aY h HL (fun w9 hE9=>bG (.bool true) (se (K.getD k dB).1.2.1 (M.getD k dB).1.2.1 (K.getD k dB).2 (M.getD k dB).2 w9 ((hK.2 _ (jY hkl)).keep (s.ext.trans hE9)) ((hM.2 _ (jY hkm)).keep (s.ext.trans hE9)) (Nat.le_trans (hKs _ (jY hkl)) (by decide)) (Nat.le_trans (hMs _ (jY hkm)) (by decide))) (congrArg Value.bool k2)) rfl rfl fun f h=>az ab 2 h rfl fun f h=>cj s fun w1 s=>A8 h rfl (wpIn_skip (ba (aE (aF (ae h (a6 (h.ev rfl) (h.ev rfl) (by omega)) rfl fun f h=>e9 ab 1 h rfl fun f h=>?_))))))))))))))))))))
      exact ⟨_,by omega,⟨k+1,h.only ⟨rfl,rfl,rfl,aq rfl (by omega),trivial⟩,St.as s trivial,rfl,by omega,G3 hp1 (LN k0 k1 k2)⟩⟩
  ·refine wpIn_exit (aU (aU (bR (aE (bH ab 1 h rfl fun f h=>wpIn_ret (aH rfl h s rfl (by show _=_;rw [JH hl9 fun j hj=>hp1 j (by omega)])))))))
set_option maxHeartbeats 8000000 in
theorem Cd (sv:Sv) (vt:Value) (fr:Int) (m:Mg) (vs:Value) (w:World) (hT:dW w vt sv.tb) (htl:sv.tb.length≤1000) (hV:dM w vs m.l) (hml:m.l.length≤1000) (hr:dJ sv=true) (hM:bD m=true) (hk1:m.k=1):Calls Tryz.prog 34 [.agg (aQ sv.no sv.sec vt),.int .i64 fr,.agg (aP m vs)].toArray w (cp w (E8 w vt aI vs sv.tb [] m.l ⟨sv,iG sv fr m,0⟩)):=by
 have hpk:=ig hM hk1
 have hrt:=(dz.1 hr).2.2.2
 obtain ⟨hl1,hfk⟩:=dT hpk
 obtain ⟨_,hh1,hh2,_⟩:=dI.1 hpk
 replace hl1:1≤m.l.length:=hl1
 refine bF Tryz.func34 rfl Tryz.ntmps34 rfl fun f h s=>qr (aZ (aQ sv.no sv.sec vt) h s rfl rfl rfl fun f w1 b3 h s=>aZ (aP m vs) h s rfl rfl rfl fun f w1 b5 h s=>aK (bT 0 ByteArray.empty aI aI 0) h s gL rfl rfl fun f w1 b6 h s=>nt (qr (ak 2 h s bp rfl rfl (ap _ _ _) rfl fun f h=>ae h (nz kX (h.ev rfl)) rfl fun f h=>aK (bT 0 ByteArray.empty aI aI 0) h s gL rfl rfl fun f w1 b7 h s=>aj 0 h s bV rfl rfl rfl (aw _ _ _ _ _) (aw _ _ _ _ _) (bB _ _ _ (bs (hT.keep s.ext)) (rfl)) fun w1 s=>nt (bZ ab 1 h rfl fun f h=>ag (ac (aG.of_own s 2 rfl) 67 (dq _ _)) h cG rfl rfl fun f h=>am ab 1 h rfl fun f h=>ag (ac (aG.of_own s 2 rfl) 68 (ee _ _)) h bo rfl rfl fun f h=>am ab 1 h rfl fun f h=>ag (ac (aG.of_own s 2 rfl) 70 (fx _ _)) h dG rfl rfl fun f h=>ae h (iD E3 (gx (hV.keep s.ext)) (eR (hV.keep s.ext)) (h.ev rfl) (h.ev rfl) (h.ev rfl)) rfl fun f h=>aK (bO aI 0 ByteArray.empty) h s sM rfl rfl fun f w1 b8 h s=>aj 0 h s fc rfl rfl rfl (cf _ _ _) (cf _ _ _) (kR _ _ (bs (hV.keep s.ext))) fun w1 s=>nt (al (bZ ab 1 h rfl fun f h=>ag (V:=.int .i64 m.n) (ac (aG.of_own s 0 rfl) 1 (rJ _ _ _)) h bo rfl rfl fun f h=>e9 ab 1 h rfl fun f h=>pW (fun aa ww=>Sl 137 aa [(0,.agg (aQ sv.no sv.sec vt)),(1,.int .i64 fr),(2,.agg (aP m vs)),(3,.pointer (some ⟨b3,0,none⟩)),(5,.pointer (some ⟨b5,0,none⟩)),(6,.pointer (some ⟨b6,0,none⟩)),(7,.pointer (some ⟨b7,0,none⟩)),(8,.pointer (some ⟨b8,0,none⟩))]∧St w [.blk b8 (.cells (bO vs (min m.n 64) m.d) 103),.blk b7 (.cells (bT sv.no sv.sec vt aI 0) 44),.blk b6 (.cells (bT 0 ByteArray.empty aI aI 0) 44),.blk b5 (.cells (aP m vs) 31),.blk b3 (.cells (aQ sv.no sv.sec vt) 24)] ww) ?_ ?_))))))
 ·skip
  refine cV h rfl (fun hc=>?_) (fun hc=>?_)
  ·refine rs ab 1 h rfl fun f h=>bN 0 h s bo rfl rfl rfl (by rw [cf];omega) (rfl) fun w1 s=>?_
   replace s:=s.recell (D:=bO vs (64) m.d) 0 rfl (rfl)
   refine nt ?_
   replace s:=s.recell (D:=bO vs (min m.n 64) m.d) 0 rfl (by rw [show min m.n 64=64 from by omega];try rfl)
   exact ⟨h.only ⟨rfl,rfl,rfl,rfl,rfl,rfl,rfl,rfl,trivial⟩,St.as s ⟨rfl,rfl,rfl,rfl,rfl,trivial⟩⟩
  ·refine kt ?_
   replace s:=s.recell (D:=bO vs (min m.n 64) m.d) 0 rfl (by rw [show min m.n 64=m.n from by omega])
   exact ⟨h.only ⟨rfl,rfl,rfl,rfl,rfl,rfl,rfl,rfl,trivial⟩,St.as s ⟨rfl,rfl,rfl,rfl,rfl,trivial⟩⟩
 rintro f w1 ⟨h,s⟩
 refine aE (bZ ab 1 h rfl fun f h=>ag (ac (aG.of_own s 3 rfl) 67 (dq _ _)) h cG rfl rfl fun f h=>ae h (a7 (hV.keep s.ext) (0) Tryz.underlying29 fp (h.ev rfl) (h.ev rfl) (rfl) (by omega)) rfl fun f h=>ar ((hV.keep s.ext).el (0) (by omega) (by decide) (D:=bg (bk (bJ m))) (pX m.l 0 (by omega))) h bY rfl (aC _) rfl fun f h=>aK (bg (0,0#256,0)) h s ob rfl rfl fun f w1 b9 h s=>aj 0 h s bY rfl rfl rfl (aC _) (aC _) (fD _) fun w1 s=>nt (bH ab 1 h rfl fun f h=>al (bZ ab 1 h rfl fun f h=>ag (V:=vt) (ac (aG.of_own s 5 rfl) 2 (lZ _ _ _)) h eO rfl rfl fun f h=>ak 1 h s fc rfl rfl (cf _ _ _) rfl fun f h=>bq h s Lq (z5 sv.tb vt (bJ m) vs _ (hT.keep s.ext) htl (hV.keep s.ext) hml hl1 ⟨hh1,hh2⟩) rfl rfl ?_)));rintro f w1 v33 ⟨K,kb,hKb,hG⟩ hE h sq;replace s:=s.add hG;clear hG
 have hKn:K.length≤1000:=by have h9:=(qs (t:=sv.tb) (p:=(bJ m))).2;rw [← hKb,fi] at h9;omega
 refine eA 0 h s Tryz.underlying104 rfl rfl rfl fun f h=>?_
 replace s:=s.nilSl 71 139
 refine e9 ab 1 h rfl fun f h=>wpIn_block (wpIn_loop_ghost (fun nn aa ww=>∃ k:Nat,∃ ul:Value,∃ KS:List S2,Sl 137 aa [(0,.agg (aQ sv.no sv.sec vt)),(2,.agg (aP m vs)),(3,.pointer (some ⟨b3,0,none⟩)),(5,.pointer (some ⟨b5,0,none⟩)),(6,.pointer (some ⟨b6,0,none⟩)),(7,.pointer (some ⟨b7,0,none⟩)),(8,.pointer (some ⟨b8,0,none⟩)),(9,.pointer (some ⟨b9,0,none⟩)),(1,.int .i64 fr),(10,.bool (((eN K).take k).any (fL fr))),(33,v33),(34,.int .i64 (K.length:Int)),(35,.int .i64 (k:Int))]∧St w [.sl ul 71 139 KS.length (aS KS),.sl v33 107 73 K.length (cb K),(.grp kb (fun w9=>dM w9 vs (bJ m).1→kM K w9)),.blk b9 (.cells (bg (bk (bJ m))) 28),.blk b8 (.cells (bO vs (min m.n 64) m.d) 103),.blk b7 (.cells (bT sv.no sv.sec vt ul 0) 44),.blk b6 (.cells (bT 0 ByteArray.empty aI aI 0) 44),.blk b5 (.cells (aP m vs) 31),.blk b3 (.cells (aQ sv.no sv.sec vt) 24)] ww∧nn=K.length - k∧k≤K.length∧cJ KS=j5 fr (bJ m) ((eN K).take k)∧(∀ w9,kM K w9→kr KS w9)∧KS.length≤k) (K.length - (0)) ⟨0,aI,[],h.only ⟨rfl,rfl,rfl,rfl,rfl,rfl,rfl,rfl,rfl,rfl,rfl,rfl,aq rfl (by omega),trivial⟩,s.as ⟨rfl,rfl,rfl,rfl,rfl,rfl,rfl,rfl,rfl,trivial⟩,rfl,Nat.zero_le _,rfl,fun w9 _=>ja w9,Nat.le_refl _⟩ ?_)
 rintro _ f w1 ⟨k,ul,KS,h,s,hnn,hp0,hp1,hp2,hp3⟩
 refine bH ab 1 h rfl fun f h=>al (cV h rfl (fun hc=>?_) (fun hc=>?_))
 ·refine kt (al (wpIn_block (qr ?_)))
  have hkk:k<K.length:=by omega
  have hmo:(K.getD k aX).1∈cL sv.tb (bJ m):=by rw [← hKb];exact List.mem_map.2 ⟨_,cO hkk,rfl⟩
  refine ae h (a7 (bI.of_own (s.getSl 1 rfl)) (k) Tryz.underlying104 Ch (h.ev rfl) (h.ev rfl) (by omega) (by omega)) rfl fun f h=>ar ((bI.of_own (s.getSl 1 rfl)).el (k) (by omega) (by decide) (D:=cu (K.getD k aX).1.k (K.getD k aX).1.h (K.getD k aX).2 (K.getD k aX).1.p.2.1 (K.getD k aX).1.p.2.2 (K.getD k aX).1.t (K.getD k aX).1.y) (Ia K k hkk)) h lJ rfl (dH _ _ _ _ _ _ _) rfl fun f h=>aK (cu 0 0 aI 0 ByteArray.empty aW 0) h s pK rfl rfl fun f w1 b12 h s=>aj 0 h s lJ rfl rfl rfl (dH _ _ _ _ _ _ _) (dH _ _ _ _ _ _ _) (eE _ _ _ _ _ _ (bs ((((s.getG 3 rfl) (hV.keep s.ext)) _ (cO hkk))))) fun w1 s=>nt (al (al ?_))
  refine rs ab 1 h rfl fun f h=>ag (V:=.int .i64 (K.getD k aX).1.k) (ac (aG.of_own s 0 rfl) 0 (oc _ _ _ _ _ _ _)) h bo rfl rfl fun f h=>cZ ab h rfl (fun k1 f h=>?_) (fun k1 f h=>?_)
  ·refine rH h rfl (al (al ?_))
   refine rs ab 1 h rfl fun f h=>ag (V:=.int .i64 (K.getD k aX).1.k) (ac (aG.of_own s 0 rfl) 0 (oc _ _ _ _ _ _ _)) h bo rfl rfl fun f h=>cZ ab h rfl (fun k2 f h=>?_) (fun k2 f h=>?_)
   ·refine e9 ab 9 h rfl fun f h=>iU h rfl (al (bZ ab 1 h rfl fun f h=>ag (V:=.int .i64 (K.getD k aX).1.k) (ac (aG.of_own s 0 rfl) 0 (oc _ _ _ _ _ _ _)) h bo rfl rfl fun f h=>gE ab h rfl k2 fun f h=>e9 ab 9 h rfl fun f h=>iU h rfl (al ?_)))
    refine rs ab 1 h rfl fun f h=>ag (V:=.int .i64 (K.getD k aX).1.k) (ac (aG.of_own s 0 rfl) 0 (oc _ _ _ _ _ _ _)) h bo rfl rfl fun f h=>fm ab h rfl (decide_eq_true (by have:=ms hmo;have:=of_decide_eq_false k1;have:=of_decide_eq_false k2;omega)) fun f h=>am ab 2 h rfl fun f h=>bf h rfl (ag (V:=.int .i64 (K.getD k aX).1.y) (ac (aG.of_own s 0 rfl) 72 (MJ _ _ _ _ _ _ _)) h nG rfl rfl fun f h=>bf h rfl (cZ ab h rfl (fun k4 f h=>?_) (fun k4 f h=>?_)))
    ·refine e9 ab 5 h rfl fun f h=>ij h rfl (wpIn_skip (ba (aE (aF (ae h (a6 (h.ev rfl) (h.ev rfl) (by omega)) rfl fun f h=>?_)))))
     replace s:=s.nilSl 71 139
     refine e9 ab 1 h rfl fun f h=>?_
     obtain ⟨hs8,hs9⟩:=L7 (fr:=fr) (p:=(bJ m)) k1 k2 k4
     exact ⟨_,by omega,⟨k+1,ul,KS,h.only ⟨rfl,rfl,rfl,rfl,rfl,rfl,rfl,rfl,rfl,d5 rfl (rl hkk hs9),rfl,rfl,aq rfl (by omega),trivial⟩,St.as (s.pick _ (List.Sublist.cons _ (List.Sublist.cons _ (List.Sublist.cons_cons _ (List.Sublist.cons_cons _ (List.Sublist.cons_cons _ (List.Sublist.cons_cons _ (List.Sublist.cons_cons _ (List.Sublist.cons_cons _ (List.Sublist.cons_cons _ (List.Sublist.cons_cons _ (List.Sublist.cons_cons _ (List.nil_sublist _))))))))))))) ⟨rfl,rfl,rfl,rfl,rfl,rfl,rfl,rfl,rfl,trivial⟩,rfl,by omega,pF hkk hp1 hs8,hp2,Nat.le_succ_of_le hp3⟩⟩
    ·skip
     refine am ab 3 h rfl fun f h=>bf h rfl (nX ab (decide (16≤fr)) h rfl ((decide_eq_decide.2 (by omega))) (fun k5 f h=>?_) (fun k5 f h=>?_))
     ·refine e9 ab 1 h rfl fun f h=>ij h rfl (wpIn_skip (ba (aE (aF (ae h (a6 (h.ev rfl) (h.ev rfl) (by omega)) rfl fun f h=>?_)))))
      replace s:=s.nilSl 71 139
      refine e9 ab 1 h rfl fun f h=>?_
      obtain ⟨hs8,hs9⟩:=Mi (fr:=fr) (p:=(bJ m)) k1 k2 k5
      exact ⟨_,by omega,⟨k+1,ul,KS,h.only ⟨rfl,rfl,rfl,rfl,rfl,rfl,rfl,rfl,rfl,d5 rfl (rl hkk hs9),rfl,rfl,aq rfl (by omega),trivial⟩,St.as (s.pick _ (List.Sublist.cons _ (List.Sublist.cons _ (List.Sublist.cons_cons _ (List.Sublist.cons_cons _ (List.Sublist.cons_cons _ (List.Sublist.cons_cons _ (List.Sublist.cons_cons _ (List.Sublist.cons_cons _ (List.Sublist.cons_cons _ (List.Sublist.cons_cons _ (List.Sublist.cons_cons _ (List.nil_sublist _))))))))))))) ⟨rfl,rfl,rfl,rfl,rfl,rfl,rfl,rfl,rfl,trivial⟩,rfl,by omega,pF hkk hp1 hs8,hp2,Nat.le_succ_of_le hp3⟩⟩
     ·refine e9 ab 1 h rfl fun f h=>cy h rfl (bH ab 1 h rfl fun f h=>aF (ak 6 h s bV rfl rfl (aw _ _ _ _ _) rfl fun f h=>am ab 2 h rfl fun f h=>ar (aG.subL (aG.of_own s 4 rfl) 1 32 (D:=aA (_)) (fR _)) h aN rfl (by first|exact ai _|exact ah _ _) rfl fun f h=>ae h (nO li rfl (h.ev rfl)) rfl fun f h=>ae h (cK jM) rfl fun f h=>?_))
      replace s:=s.perm (List.perm_middle (l₁:=[_]))
      refine jb [.agg (bT sv.no sv.sec vt ul 0),.int .i64 (fr),.agg (aP (iA (gG (bJ m))) aI),.agg (aB aW)] h qo (gW sv.no 0 sv.sec vt ul KS (fr) (iA (gG (bJ m))) aI aW _ _ _ s (bs hT) (fF _ rfl rfl) (by omega) (iI (hp2 _ ((s.getG 3 rfl) (hV.keep s.ext))))) rfl rfl ?_;rintro f w1 v114 ⟨u9,rfl,s⟩ h
      refine aj 6 h s bV rfl rfl rfl (aw _ _ _ _ _) (aw _ _ _ _ _) (bB _ _ _ (bs (hT.keep s.ext)) (dm (s.getSl 0 rfl))) fun w1 s=>av (ba (aE (aF (ae h (a6 (h.ev rfl) (h.ev rfl) (by omega)) rfl fun f h=>?_))))
      replace s:=s.nilSl 71 139
      refine e9 ab 1 h rfl fun f h=>?_
      obtain ⟨hs8,hs9⟩:=MG (fr:=fr) (p:=(bJ m)) k1 k2 (by have:=ms hmo;have:=of_decide_eq_false k1;have:=of_decide_eq_false k2;omega) k4 k5
      exact ⟨_,by omega,⟨k+1,u9,(KS++[(((fr,(iA (gG (bJ m))),aW),aI):S2)]),h.only ⟨rfl,rfl,rfl,rfl,rfl,rfl,rfl,rfl,rfl,d5 rfl (IU hkk hs9),rfl,rfl,aq rfl (by omega),trivial⟩,St.as (s.pick _ (List.Sublist.cons _ (List.Sublist.cons_cons _ (List.Sublist.cons _ (List.Sublist.cons_cons _ (List.Sublist.cons_cons _ (List.Sublist.cons_cons _ (List.Sublist.cons_cons _ (List.Sublist.cons_cons _ (List.Sublist.cons_cons _ (List.Sublist.cons_cons _ (List.Sublist.cons_cons _ (List.nil_sublist _))))))))))))) ⟨rfl,rfl,rfl,rfl,rfl,rfl,rfl,rfl,rfl,trivial⟩,rfl,by omega,mQ hkk hp1 hs8,km hp2 (fun w9 h9=>fF w9 rfl rfl),iQ hp3⟩⟩
   ·skip
    cases k3:(decide ((bk (K.getD k aX).1.p).1=2):Bool)
    ·refine am ab 1 h rfl fun f h=>bf h rfl ?_
     have hx:=j6 hpk hrt hmo (of_decide_eq_true k2)
     have hx9:=dT hx.1
     have hx1:=hx9.1
     refine am ab 2 h rfl fun f h=>bf h rfl (ag (V:=(K.getD k aX).2) (ac (aG.of_own s 0 rfl) 2 (z4 _ _ _ _ _ _ _)) h cG rfl rfl fun f h=>bf h rfl (ae h (a7 ((((s.getG 3 rfl) (hV.keep s.ext)) _ (cO hkk))) (0) Tryz.underlying29 fp (h.ev rfl) (h.ev rfl) (rfl) (by omega)) rfl fun f h=>bf h rfl (ae h (bM j9 (h.ev rfl) (((((s.getG 3 rfl) (hV.keep s.ext)) _ (cO hkk))).some (by omega))) rfl fun f h=>bf h rfl (ag (V:=.int .i64 (bk (K.getD k aX).1.p).1) (eX ((((s.getG 3 rfl) (hV.keep s.ext)) _ (cO hkk))) (0*34+0) (mi hx1)) h bo rfl rfl fun f h=>bf h rfl (gE ab h rfl k3 fun f h=>e9 ab 1 h rfl fun f h=>iU h rfl (al (bZ ab 1 h rfl fun f h=>ag (V:=.int .i64 (K.getD k aX).1.k) (ac (aG.of_own s 0 rfl) 0 (oc _ _ _ _ _ _ _)) h bo rfl rfl fun f h=>fm ab h rfl k2 fun f h=>am ab 1 h rfl fun f h=>bf h rfl ?_)))))))
     have hx:=j6 hpk hrt hmo (of_decide_eq_true k2)
     have hx9:=dT hx.1
     have hx1:=hx9.1
     refine am ab 2 h rfl fun f h=>bf h rfl (ag (V:=(K.getD k aX).2) (ac (aG.of_own s 0 rfl) 2 (z4 _ _ _ _ _ _ _)) h cG rfl rfl fun f h=>bf h rfl (ae h (a7 ((((s.getG 3 rfl) (hV.keep s.ext)) _ (cO hkk))) (0) Tryz.underlying29 fp (h.ev rfl) (h.ev rfl) (rfl) (by omega)) rfl fun f h=>bf h rfl (ae h (bM j9 (h.ev rfl) (((((s.getG 3 rfl) (hV.keep s.ext)) _ (cO hkk))).some (by omega))) rfl fun f h=>bf h rfl (ag (V:=.int .i64 (bk (K.getD k aX).1.p).1) (eX ((((s.getG 3 rfl) (hV.keep s.ext)) _ (cO hkk))) (0*34+0) (mi hx1)) h bo rfl rfl fun f h=>bf h rfl (fm ab h rfl (decide_eq_true (by have:=of_decide_eq_false k3;have:=hx9.2;omega)) fun f h=>e9 ab 1 h rfl fun f h=>cy h rfl ?_)))))
     replace s:=s.bring 1 rfl
     replace s:St w [.sl ul 71 139 KS.length (aS KS),.blk b12 (.cells (cu (K.getD k aX).1.k (K.getD k aX).1.h (K.getD k aX).2 (K.getD k aX).1.p.2.1 (K.getD k aX).1.p.2.2 (K.getD k aX).1.t (K.getD k aX).1.y) 107),.sl v33 107 73 K.length (cb K),(.grp kb (fun w9=>dM w9 vs (bJ m).1→kM K w9)),.blk b9 (.cells (bg (bk (bJ m))) 28),.blk b8 (.cells (bO vs (min m.n 64) m.d) 103),.blk b7 (.cells (bT sv.no sv.sec vt ul 0) 44),.blk b6 (.cells (bT 0 ByteArray.empty aI aI 0) 44),.blk b5 (.cells (aP m vs) 31),.blk b3 (.cells (aQ sv.no sv.sec vt) 24)] _:=s
     refine ka 1 7 [[],[],[1],[1,2],[],[4],[0,1,2,3,4,5],[0,1,2,3,4,5,6]] [[],[],[],[],[],[],[8],[]] [[_]] [.v (.agg (bT sv.no sv.sec vt ul 0)),.v _,.v (.agg (bO (K.getD k aX).2 (K.getD k aX).1.p.2.1 (K.getD k aX).1.p.2.2)),.v (.agg (aP (bQ (K.getD k aX).1.p) (K.getD k aX).2)),.v _,.v (.agg (aB (K.getD k aX).1.t)),.r (fun v=>[.sl (t8 (v 6)) 71 139 (KS++[(((-1,(bQ (K.getD k aX).1.p),(K.getD k aX).1.t),(K.getD k aX).2):S2)]).length (aS (KS++[(((-1,(bQ (K.getD k aX).1.p),(K.getD k aX).1.t),(K.getD k aX).2):S2)]))]) (fun v=>v 6=.agg (bT sv.no sv.sec vt (t8 (v 6)) 0)),.n] _ h s rfl (by kernel_rfl) (by kernel_rfl) (by kernel_rfl) (cF ?_ (iz ab h rfl rfl rfl (cF ?_ (cF ?_ (iz ab h rfl rfl rfl (cF ?_ (cF ?_ (trivial)))))))) [0,1,2,3,4,5,6] (by kernel_rfl) ?_
     ·intro f9 w2 vl15 E9 hs9 hd9 hl hF s
      have h:=dh [(7,_)] h hs9 hd9 ⟨gN hl 7 (by kernel_rfl) (h.holds 7 _ rfl),trivial⟩
      refine ak 5 h s bV rfl rfl (aw _ _ _ _ _) rfl fun f h=>av ⟨_,bw 89 h rfl rfl,rfl,s⟩
     ·intro f9 w2 vl15 E9 hs9 hd9 hl hF s
      have h:=dh [(90,_)] h hs9 hd9 ⟨bu hl 90 1 (by kernel_rfl) (hF 1 (by decide)),trivial⟩
      refine ar (aG.subL (aG.of_own s 0 rfl) 2 3 (D:=bO (K.getD k aX).2 (K.getD k aX).1.p.2.1 (K.getD k aX).1.p.2.2) (Cw _ _ _ _ _ _ _)) h fc rfl (cf _ _ _) rfl fun f h=>av ⟨_,bw 91 h rfl rfl,rfl,s⟩
     ·intro f9 w2 vl15 E9 hs9 hd9 hl hF s
      have h:=dh [(91,_)] h hs9 hd9 ⟨bu hl 91 2 (by kernel_rfl) (hF 2 (by decide)),trivial⟩
      refine c7 h s DU (oy (K.getD k aX).1.p (K.getD k aX).2 _ ((s.getG 2 rfl) (hV.keep s.ext) _ (cO hkk))) rfl rfl fun f w1 h s=>av ⟨_,bw 92 h rfl rfl,rfl,s⟩
     ·intro f9 w2 vl15 E9 hs9 hd9 hl hF s
      have h:=dh [(93,_)] h hs9 hd9 ⟨bu hl 93 4 (by kernel_rfl) (hF 4 (by decide)),trivial⟩
      refine ar (aG.subL (aG.of_own s 0 rfl) 5 67 (D:=aB (K.getD k aX).1.t) (Jc _ _ _ _ _ _ _)) h a8 rfl (ao _) rfl fun f h=>av ⟨_,bw 94 h rfl rfl,rfl,s⟩
     ·intro f9 w2 vl15 E9 hs9 hd9 hl hF s
      have h:=dh [(89,_),(92,_),(94,_)] h hs9 hd9 ⟨bu hl 89 0 (by kernel_rfl) (hF 0 (by decide)),bu hl 92 3 (by kernel_rfl) (hF 3 (by decide)),bu hl 94 5 (by kernel_rfl) (hF 5 (by decide)),trivial⟩
      refine jb [.agg (bT sv.no sv.sec vt ul 0),.int .i64 (-1),.agg (aP (bQ (K.getD k aX).1.p) (K.getD k aX).2),.agg (aB (K.getD k aX).1.t)] h qo (gW sv.no 0 sv.sec vt ul KS (-1) (bQ (K.getD k aX).1.p) (K.getD k aX).2 (K.getD k aX).1.t _ _ _ s (bs hT) (((s.getG 3 rfl) (hV.keep s.ext)) _ (cO hkk)) (by omega) (iI (hp2 _ ((s.getG 3 rfl) (hV.keep s.ext))))) rfl rfl ?_;rintro f w1 v95 ⟨u9,hv9,s⟩ h
      have h1v:u9=t8 v95:=by rw [hv9];rfl
      subst h1v
      exact av ⟨_,bw 95 h rfl rfl,hv9,s⟩
     intro f w1 vl15 hs9 hd9 hv hr hF s
     replace hv:=fun i d h9=>hv i d (show Nat.blt i 7=true from h9)
     replace h:=kO 7 (ops:=_) [(89,_),(90,_),(91,_),(92,_),(93,_),(94,_),(95,.agg (bT sv.no sv.sec vt (t8 (vl15 6)) 0))] h hs9 hd9 hr ⟨(hv 0 89 rfl rfl).trans (hF 0 rfl),(hv 1 90 rfl rfl).trans (hF 1 rfl),(hv 2 91 rfl rfl).trans (hF 2 rfl),(hv 3 92 rfl rfl).trans (hF 3 rfl),(hv 4 93 rfl rfl).trans (hF 4 rfl),(hv 5 94 rfl rfl).trans (hF 5 rfl),(hv 6 95 rfl rfl).trans (hF 6 rfl),trivial⟩ (by kernel_rfl)
     replace s:St w [.sl (t8 (vl15 6)) 71 139 (KS++[(((-1,(bQ (K.getD k aX).1.p),(K.getD k aX).1.t),(K.getD k aX).2):S2)]).length (aS (KS++[(((-1,(bQ (K.getD k aX).1.p),(K.getD k aX).1.t),(K.getD k aX).2):S2)])),.blk b12 (.cells (cu (K.getD k aX).1.k (K.getD k aX).1.h (K.getD k aX).2 (K.getD k aX).1.p.2.1 (K.getD k aX).1.p.2.2 (K.getD k aX).1.t (K.getD k aX).1.y) 107),.sl v33 107 73 K.length (cb K),(.grp kb (fun w9=>dM w9 vs (bJ m).1→kM K w9)),.blk b9 (.cells (bg (bk (bJ m))) 28),.blk b8 (.cells (bO vs (min m.n 64) m.d) 103),.blk b7 (.cells (bT sv.no sv.sec vt ul 0) 44),.blk b6 (.cells (bT 0 ByteArray.empty aI aI 0) 44),.blk b5 (.cells (aP m vs) 31),.blk b3 (.cells (aQ sv.no sv.sec vt) 24)] _:=s
     refine aj 6 h s bV rfl rfl rfl (aw _ _ _ _ _) (aw _ _ _ _ _) (bB _ _ _ (bs (hT.keep s.ext)) (dm (s.getSl 0 rfl))) fun w1 s=>nt (bZ ab 1 h rfl fun f h=>ag (V:=.int .i64 (K.getD k aX).1.k) (ac (aG.of_own s 1 rfl) 0 (oc _ _ _ _ _ _ _)) h bo rfl rfl fun f h=>gE ab h rfl (decide_eq_false (by have:=of_decide_eq_true k2;omega)) fun f h=>e9 ab 9 h rfl fun f h=>ij h rfl (wpIn_skip (ba (aE (aF (ae h (a6 (h.ev rfl) (h.ev rfl) (by omega)) rfl fun f h=>?_))))))
     replace s:=s.nilSl 71 139
     refine e9 ab 1 h rfl fun f h=>?_
     obtain ⟨hs8,hs9⟩:=NC (fr:=fr) (p:=(bJ m)) k1 k2 k3
     exact ⟨_,by omega,⟨k+1,(t8 (vl15 6)),(KS++[(((-1,(bQ (K.getD k aX).1.p),(K.getD k aX).1.t),(K.getD k aX).2):S2)]),h.only ⟨rfl,rfl,rfl,rfl,rfl,rfl,rfl,rfl,rfl,d5 rfl (rl hkk hs9),rfl,rfl,aq rfl (by omega),trivial⟩,St.as (s.pick _ (List.Sublist.cons _ (List.Sublist.cons_cons _ (List.Sublist.cons _ (List.Sublist.cons_cons _ (List.Sublist.cons_cons _ (List.Sublist.cons_cons _ (List.Sublist.cons_cons _ (List.Sublist.cons_cons _ (List.Sublist.cons_cons _ (List.Sublist.cons_cons _ (List.Sublist.cons_cons _ (List.nil_sublist _))))))))))))) ⟨rfl,rfl,rfl,rfl,rfl,rfl,rfl,rfl,rfl,trivial⟩,rfl,by omega,mQ hkk hp1 hs8,km hp2 (fun w9 h9=>h9 _ (cO hkk)),iQ hp3⟩⟩
    ·refine am ab 1 h rfl fun f h=>bf h rfl ?_
     have hx:=j6 hpk hrt hmo (of_decide_eq_true k2)
     have hx9:=dT hx.1
     have hx1:=hx9.1
     refine am ab 2 h rfl fun f h=>bf h rfl (ag (V:=(K.getD k aX).2) (ac (aG.of_own s 0 rfl) 2 (z4 _ _ _ _ _ _ _)) h cG rfl rfl fun f h=>bf h rfl (ae h (a7 ((((s.getG 3 rfl) (hV.keep s.ext)) _ (cO hkk))) (0) Tryz.underlying29 fp (h.ev rfl) (h.ev rfl) (rfl) (by omega)) rfl fun f h=>bf h rfl (ae h (bM j9 (h.ev rfl) (((((s.getG 3 rfl) (hV.keep s.ext)) _ (cO hkk))).some (by omega))) rfl fun f h=>bf h rfl (ag (V:=.int .i64 (bk (K.getD k aX).1.p).1) (eX ((((s.getG 3 rfl) (hV.keep s.ext)) _ (cO hkk))) (0*34+0) (mi hx1)) h bo rfl rfl fun f h=>bf h rfl (fm ab h rfl k3 fun f h=>e9 ab 1 h rfl fun f h=>cy h rfl ?_)))))
     have hx:=j6 hpk hrt hmo (of_decide_eq_true k2)
     have hx1:=(dT hx.1).1
     have hxh:=qY hx.1 (of_decide_eq_true k3)
     replace s:=s.bring 1 rfl
     replace s:St w [.sl ul 71 139 KS.length (aS KS),.blk b12 (.cells (cu (K.getD k aX).1.k (K.getD k aX).1.h (K.getD k aX).2 (K.getD k aX).1.p.2.1 (K.getD k aX).1.p.2.2 (K.getD k aX).1.t (K.getD k aX).1.y) 107),.sl v33 107 73 K.length (cb K),(.grp kb (fun w9=>dM w9 vs (bJ m).1→kM K w9)),.blk b9 (.cells (bg (bk (bJ m))) 28),.blk b8 (.cells (bO vs (min m.n 64) m.d) 103),.blk b7 (.cells (bT sv.no sv.sec vt ul 0) 44),.blk b6 (.cells (bT 0 ByteArray.empty aI aI 0) 44),.blk b5 (.cells (aP m vs) 31),.blk b3 (.cells (aQ sv.no sv.sec vt) 24)] _:=s
     refine ka 1 14 [[],[],[1],[1,2],[1,2,3],[1,2,3,4],[1,2,3,4,5],[1,2,3,4,5,6],[],[8],[8,9],[],[11],[0,1,2,3,4,5,6,7,8,9,10,11,12],[0,1,2,3,4,5,6,7,8,9,10,11,12,13]] [[],[],[],[],[],[],[],[],[],[],[],[],[],[15],[]] [[_]] [.v (.agg (bT sv.no sv.sec vt ul 0)),.v _,.v _,.v ((K.getD k aX).2),.v (.pointer (some (dy (K.getD k aX).2 (0*34)))),.v (.pointer (some (dy (K.getD k aX).2 (0*34+33)))),.v (.int .i64 (bk (K.getD k aX).1.p).2.2),.v (.int .i64 (16+(bk (K.getD k aX).1.p).2.2)),.v _,.v (.agg (bO (K.getD k aX).2 (K.getD k aX).1.p.2.1 (K.getD k aX).1.p.2.2)),.v (.agg (aP (bQ (K.getD k aX).1.p) (K.getD k aX).2)),.v _,.v (.agg (aB (K.getD k aX).1.t)),.r (fun v=>[.sl (t8 (v 13)) 71 139 (KS++[(((16+(bk (K.getD k aX).1.p).2.2,(bQ (K.getD k aX).1.p),(K.getD k aX).1.t),(K.getD k aX).2):S2)]).length (aS (KS++[(((16+(bk (K.getD k aX).1.p).2.2,(bQ (K.getD k aX).1.p),(K.getD k aX).1.t),(K.getD k aX).2):S2)]))]) (fun v=>v 13=.agg (bT sv.no sv.sec vt (t8 (v 13)) 0)),.n] _ h s rfl (by kernel_rfl) (by kernel_rfl) (by kernel_rfl) (cF ?_ (iz ab h rfl rfl rfl (iz ab h rfl rfl rfl (cF ?_ (cF ?_ (cF ?_ (cF ?_ (cF ?_ (iz ab h rfl rfl rfl (cF ?_ (cF ?_ (iz ab h rfl rfl rfl (cF ?_ (cF ?_ (trivial))))))))))))))) [0,1,2,3,4,5,6,7,8,9,10,11,12,13] (by kernel_rfl) ?_
     ·intro f9 w2 vl13 E9 hs9 hd9 hl hF s
      have h:=dh [(7,_)] h hs9 hd9 ⟨gN hl 7 (by kernel_rfl) (h.holds 7 _ rfl),trivial⟩
      refine ak 5 h s bV rfl rfl (aw _ _ _ _ _) rfl fun f h=>av ⟨_,bw 63 h rfl rfl,rfl,s⟩
     ·intro f9 w2 vl13 E9 hs9 hd9 hl hF s
      have h:=dh [(65,_)] h hs9 hd9 ⟨bu hl 65 2 (by kernel_rfl) (hF 2 (by decide)),trivial⟩
      refine ag (V:=(K.getD k aX).2) (ac (aG.of_own s 0 rfl) 2 (z4 _ _ _ _ _ _ _)) h cG rfl rfl fun f h=>av ⟨_,bw 66 h rfl rfl,rfl,s⟩
     ·intro f9 w2 vl13 E9 hs9 hd9 hl hF s
      have h:=dh [(66,_)] h hs9 hd9 ⟨bu hl 66 3 (by kernel_rfl) (hF 3 (by decide)),trivial⟩
      refine ae h (a7 ((((s.getG 2 rfl) (hV.keep s.ext)) _ (cO hkk))) (0) Tryz.underlying29 fp (h.ev rfl) (h.ev rfl) (rfl) (by omega)) rfl fun f h=>av ⟨_,bw 67 h rfl rfl,rfl,s⟩
     ·intro f9 w2 vl13 E9 hs9 hd9 hl hF s
      have h:=dh [(67,_)] h hs9 hd9 ⟨bu hl 67 4 (by kernel_rfl) (hF 4 (by decide)),trivial⟩
      refine ae h (bM zk (h.ev rfl) (((((s.getG 2 rfl) (hV.keep s.ext)) _ (cO hkk))).some (by omega))) rfl fun f h=>av ⟨_,bw 68 h rfl rfl,rfl,s⟩
     ·intro f9 w2 vl13 E9 hs9 hd9 hl hF s
      have h:=dh [(68,_)] h hs9 hd9 ⟨bu hl 68 5 (by kernel_rfl) (hF 5 (by decide)),trivial⟩
      refine ag (V:=.int .i64 (bk (K.getD k aX).1.p).2.2) (eX ((((s.getG 2 rfl) (hV.keep s.ext)) _ (cO hkk))) (0*34+33) (EY hx1)) h bo rfl rfl fun f h=>av ⟨_,bw 69 h rfl rfl,rfl,s⟩
     ·intro f9 w2 vl13 E9 hs9 hd9 hl hF s
      have h:=dh [(69,_)] h hs9 hd9 ⟨bu hl 69 6 (by kernel_rfl) (hF 6 (by decide)),trivial⟩
      refine ae h (a6 (h.ev rfl) (h.ev rfl) (by omega)) rfl fun f h=>av ⟨_,bw 70 h rfl rfl,rfl,s⟩
     ·intro f9 w2 vl13 E9 hs9 hd9 hl hF s
      have h:=dh [(71,_)] h hs9 hd9 ⟨bu hl 71 8 (by kernel_rfl) (hF 8 (by decide)),trivial⟩
      refine ar (aG.subL (aG.of_own s 0 rfl) 2 3 (D:=bO (K.getD k aX).2 (K.getD k aX).1.p.2.1 (K.getD k aX).1.p.2.2) (Cw _ _ _ _ _ _ _)) h fc rfl (cf _ _ _) rfl fun f h=>av ⟨_,bw 72 h rfl rfl,rfl,s⟩
     ·intro f9 w2 vl13 E9 hs9 hd9 hl hF s
      have h:=dh [(72,_)] h hs9 hd9 ⟨bu hl 72 9 (by kernel_rfl) (hF 9 (by decide)),trivial⟩
      refine c7 h s DU (oy (K.getD k aX).1.p (K.getD k aX).2 _ ((s.getG 2 rfl) (hV.keep s.ext) _ (cO hkk))) rfl rfl fun f w1 h s=>av ⟨_,bw 73 h rfl rfl,rfl,s⟩
     ·intro f9 w2 vl13 E9 hs9 hd9 hl hF s
      have h:=dh [(74,_)] h hs9 hd9 ⟨bu hl 74 11 (by kernel_rfl) (hF 11 (by decide)),trivial⟩
      refine ar (aG.subL (aG.of_own s 0 rfl) 5 67 (D:=aB (K.getD k aX).1.t) (Jc _ _ _ _ _ _ _)) h a8 rfl (ao _) rfl fun f h=>av ⟨_,bw 75 h rfl rfl,rfl,s⟩
     ·intro f9 w2 vl13 E9 hs9 hd9 hl hF s
      have h:=dh [(63,_),(70,_),(73,_),(75,_)] h hs9 hd9 ⟨bu hl 63 0 (by kernel_rfl) (hF 0 (by decide)),bu hl 70 7 (by kernel_rfl) (hF 7 (by decide)),bu hl 73 10 (by kernel_rfl) (hF 10 (by decide)),bu hl 75 12 (by kernel_rfl) (hF 12 (by decide)),trivial⟩
      refine jb [.agg (bT sv.no sv.sec vt ul 0),.int .i64 (16+(bk (K.getD k aX).1.p).2.2),.agg (aP (bQ (K.getD k aX).1.p) (K.getD k aX).2),.agg (aB (K.getD k aX).1.t)] h qo (gW sv.no 0 sv.sec vt ul KS (16+(bk (K.getD k aX).1.p).2.2) (bQ (K.getD k aX).1.p) (K.getD k aX).2 (K.getD k aX).1.t _ _ _ s (bs hT) (((s.getG 3 rfl) (hV.keep s.ext)) _ (cO hkk)) (by omega) (iI (hp2 _ ((s.getG 3 rfl) (hV.keep s.ext))))) rfl rfl ?_;rintro f w1 v76 ⟨u9,hv9,s⟩ h
      have h1v:u9=t8 v76:=by rw [hv9];rfl
      subst h1v
      exact av ⟨_,bw 76 h rfl rfl,hv9,s⟩
     intro f w1 vl13 hs9 hd9 hv hr hF s
     replace hv:=fun i d h9=>hv i d (show Nat.blt i 14=true from h9)
     replace h:=kO 14 (ops:=_) [(63,_),(64,_),(65,_),(66,_),(67,_),(68,_),(69,_),(70,_),(71,_),(72,_),(73,_),(74,_),(75,_),(76,.agg (bT sv.no sv.sec vt (t8 (vl13 13)) 0))] h hs9 hd9 hr ⟨(hv 0 63 rfl rfl).trans (hF 0 rfl),(hv 1 64 rfl rfl).trans (hF 1 rfl),(hv 2 65 rfl rfl).trans (hF 2 rfl),(hv 3 66 rfl rfl).trans (hF 3 rfl),(hv 4 67 rfl rfl).trans (hF 4 rfl),(hv 5 68 rfl rfl).trans (hF 5 rfl),(hv 6 69 rfl rfl).trans (hF 6 rfl),(hv 7 70 rfl rfl).trans (hF 7 rfl),(hv 8 71 rfl rfl).trans (hF 8 rfl),(hv 9 72 rfl rfl).trans (hF 9 rfl),(hv 10 73 rfl rfl).trans (hF 10 rfl),(hv 11 74 rfl rfl).trans (hF 11 rfl),(hv 12 75 rfl rfl).trans (hF 12 rfl),(hv 13 76 rfl rfl).trans (hF 13 rfl),trivial⟩ (by kernel_rfl)
     replace s:St w [.sl (t8 (vl13 13)) 71 139 (KS++[(((16+(bk (K.getD k aX).1.p).2.2,(bQ (K.getD k aX).1.p),(K.getD k aX).1.t),(K.getD k aX).2):S2)]).length (aS (KS++[(((16+(bk (K.getD k aX).1.p).2.2,(bQ (K.getD k aX).1.p),(K.getD k aX).1.t),(K.getD k aX).2):S2)])),.blk b12 (.cells (cu (K.getD k aX).1.k (K.getD k aX).1.h (K.getD k aX).2 (K.getD k aX).1.p.2.1 (K.getD k aX).1.p.2.2 (K.getD k aX).1.t (K.getD k aX).1.y) 107),.sl v33 107 73 K.length (cb K),(.grp kb (fun w9=>dM w9 vs (bJ m).1→kM K w9)),.blk b9 (.cells (bg (bk (bJ m))) 28),.blk b8 (.cells (bO vs (min m.n 64) m.d) 103),.blk b7 (.cells (bT sv.no sv.sec vt ul 0) 44),.blk b6 (.cells (bT 0 ByteArray.empty aI aI 0) 44),.blk b5 (.cells (aP m vs) 31),.blk b3 (.cells (aQ sv.no sv.sec vt) 24)] _:=s
     refine aj 6 h s bV rfl rfl rfl (aw _ _ _ _ _) (aw _ _ _ _ _) (bB _ _ _ (bs (hT.keep s.ext)) (dm (s.getSl 0 rfl))) fun w1 s=>nt (al (bZ ab 1 h rfl fun f h=>ag (V:=.int .i64 (K.getD k aX).1.k) (ac (aG.of_own s 1 rfl) 0 (oc _ _ _ _ _ _ _)) h bo rfl rfl fun f h=>fm ab h rfl k2 fun f h=>am ab 1 h rfl fun f h=>bf h rfl ?_))
     have hx:=j6 hpk hrt hmo (of_decide_eq_true k2)
     have hx9:=dT hx.1
     have hx1:=hx9.1
     refine am ab 2 h rfl fun f h=>bf h rfl (ag (V:=(K.getD k aX).2) (ac (aG.of_own s 1 rfl) 2 (z4 _ _ _ _ _ _ _)) h cG rfl rfl fun f h=>bf h rfl (ae h (a7 ((((s.getG 3 rfl) (hV.keep s.ext)) _ (cO hkk))) (0) Tryz.underlying29 fp (h.ev rfl) (h.ev rfl) (rfl) (by omega)) rfl fun f h=>bf h rfl (ae h (bM j9 (h.ev rfl) (((((s.getG 3 rfl) (hV.keep s.ext)) _ (cO hkk))).some (by omega))) rfl fun f h=>bf h rfl (ag (V:=.int .i64 (bk (K.getD k aX).1.p).1) (eX ((((s.getG 3 rfl) (hV.keep s.ext)) _ (cO hkk))) (0*34+0) (mi hx1)) h bo rfl rfl fun f h=>bf h rfl (gE ab h rfl (decide_eq_false (by have:=of_decide_eq_true k3;omega)) fun f h=>e9 ab 1 h rfl fun f h=>iU h rfl (bZ ab 1 h rfl fun f h=>ag (V:=.int .i64 (K.getD k aX).1.k) (ac (aG.of_own s 1 rfl) 0 (oc _ _ _ _ _ _ _)) h bo rfl rfl fun f h=>gE ab h rfl (decide_eq_false (by have:=of_decide_eq_true k2;omega)) fun f h=>e9 ab 9 h rfl fun f h=>ij h rfl (wpIn_skip (ba (aE (aF (ae h (a6 (h.ev rfl) (h.ev rfl) (by omega)) rfl fun f h=>?_)))))))))))
     replace s:=s.nilSl 71 139
     refine e9 ab 1 h rfl fun f h=>?_
     obtain ⟨hs8,hs9⟩:=Mr (fr:=fr) (p:=(bJ m)) k1 k2 k3
     exact ⟨_,by omega,⟨k+1,(t8 (vl13 13)),(KS++[(((16+(bk (K.getD k aX).1.p).2.2,(bQ (K.getD k aX).1.p),(K.getD k aX).1.t),(K.getD k aX).2):S2)]),h.only ⟨rfl,rfl,rfl,rfl,rfl,rfl,rfl,rfl,rfl,d5 rfl (rl hkk hs9),rfl,rfl,aq rfl (by omega),trivial⟩,St.as (s.pick _ (List.Sublist.cons _ (List.Sublist.cons_cons _ (List.Sublist.cons _ (List.Sublist.cons_cons _ (List.Sublist.cons_cons _ (List.Sublist.cons_cons _ (List.Sublist.cons_cons _ (List.Sublist.cons_cons _ (List.Sublist.cons_cons _ (List.Sublist.cons_cons _ (List.Sublist.cons_cons _ (List.nil_sublist _))))))))))))) ⟨rfl,rfl,rfl,rfl,rfl,rfl,rfl,rfl,rfl,trivial⟩,rfl,by omega,mQ hkk hp1 hs8,km hp2 (fun w9 h9=>h9 _ (cO hkk)),iQ hp3⟩⟩
  ·refine wy h rfl ?_
   have hxh:=mS hpk hmo (of_decide_eq_true k1)
   replace s:=s.bring 1 rfl
   replace s:St w [.sl ul 71 139 KS.length (aS KS),.blk b12 (.cells (cu (K.getD k aX).1.k (K.getD k aX).1.h (K.getD k aX).2 (K.getD k aX).1.p.2.1 (K.getD k aX).1.p.2.2 (K.getD k aX).1.t (K.getD k aX).1.y) 107),.sl v33 107 73 K.length (cb K),(.grp kb (fun w9=>dM w9 vs (bJ m).1→kM K w9)),.blk b9 (.cells (bg (bk (bJ m))) 28),.blk b8 (.cells (bO vs (min m.n 64) m.d) 103),.blk b7 (.cells (bT sv.no sv.sec vt ul 0) 44),.blk b6 (.cells (bT 0 ByteArray.empty aI aI 0) 44),.blk b5 (.cells (aP m vs) 31),.blk b3 (.cells (aQ sv.no sv.sec vt) 24)] _:=s
   refine ka 1 9 [[],[],[1],[1,2],[],[4],[4,5],[],[0,1,2,3,4,5,6,7],[0,1,2,3,4,5,6,7,8]] [[],[],[],[],[],[],[],[],[10],[]] [[_]] [.v (.agg (bT sv.no sv.sec vt ul 0)),.v _,.v (.int .i64 (K.getD k aX).1.h),.v (.int .i64 (16+(K.getD k aX).1.h)),.v _,.v (.agg (bO (K.getD k aX).2 (K.getD k aX).1.p.2.1 (K.getD k aX).1.p.2.2)),.v (.agg (aP (bQ (K.getD k aX).1.p) (K.getD k aX).2)),.v (.agg (aB aW)),.r (fun v=>[.sl (t8 (v 8)) 71 139 (KS++[(((16+(K.getD k aX).1.h,(bQ (K.getD k aX).1.p),aW),(K.getD k aX).2):S2)]).length (aS (KS++[(((16+(K.getD k aX).1.h,(bQ (K.getD k aX).1.p),aW),(K.getD k aX).2):S2)]))]) (fun v=>v 8=.agg (bT sv.no sv.sec vt (t8 (v 8)) 0)),.n] _ h s rfl (by kernel_rfl) (by kernel_rfl) (by kernel_rfl) (cF ?_ (iz ab h rfl rfl rfl (cF ?_ (cF ?_ (iz ab h rfl rfl rfl (cF ?_ (cF ?_ (cF ?_ (cF ?_ (trivial)))))))))) [0,1,2,3,4,5,6,7,8] (by kernel_rfl) ?_
   ·intro f9 w2 vl11 E9 hs9 hd9 hl hF s
    have h:=dh [(7,_)] h hs9 hd9 ⟨gN hl 7 (by kernel_rfl) (h.holds 7 _ rfl),trivial⟩
    refine ak 5 h s bV rfl rfl (aw _ _ _ _ _) rfl fun f h=>av ⟨_,bw 42 h rfl rfl,rfl,s⟩
   ·intro f9 w2 vl11 E9 hs9 hd9 hl hF s
    have h:=dh [(43,_)] h hs9 hd9 ⟨bu hl 43 1 (by kernel_rfl) (hF 1 (by decide)),trivial⟩
    refine ag (V:=.int .i64 (K.getD k aX).1.h) (ac (aG.of_own s 0 rfl) 1 (Ls _ _ _ _ _ _ _)) h bo rfl rfl fun f h=>av ⟨_,bw 44 h rfl rfl,rfl,s⟩
   ·intro f9 w2 vl11 E9 hs9 hd9 hl hF s
    have h:=dh [(44,_)] h hs9 hd9 ⟨bu hl 44 2 (by kernel_rfl) (hF 2 (by decide)),trivial⟩
    refine ae h (a6 (h.ev rfl) (h.ev rfl) (by omega)) rfl fun f h=>av ⟨_,bw 45 h rfl rfl,rfl,s⟩
   ·intro f9 w2 vl11 E9 hs9 hd9 hl hF s
    have h:=dh [(46,_)] h hs9 hd9 ⟨bu hl 46 4 (by kernel_rfl) (hF 4 (by decide)),trivial⟩
    refine ar (aG.subL (aG.of_own s 0 rfl) 2 3 (D:=bO (K.getD k aX).2 (K.getD k aX).1.p.2.1 (K.getD k aX).1.p.2.2) (Cw _ _ _ _ _ _ _)) h fc rfl (cf _ _ _) rfl fun f h=>av ⟨_,bw 47 h rfl rfl,rfl,s⟩
   ·intro f9 w2 vl11 E9 hs9 hd9 hl hF s
    have h:=dh [(47,_)] h hs9 hd9 ⟨bu hl 47 5 (by kernel_rfl) (hF 5 (by decide)),trivial⟩
    refine c7 h s DU (oy (K.getD k aX).1.p (K.getD k aX).2 _ ((s.getG 2 rfl) (hV.keep s.ext) _ (cO hkk))) rfl rfl fun f w1 h s=>av ⟨_,bw 48 h rfl rfl,rfl,s⟩
   ·intro f9 w2 vl11 E9 hs9 hd9 hl hF s
    have h:=aD [] (hs9.trans h.size) (hd9.trans h.defers) (holds_lk trivial)
    refine ae h (cK jM) rfl fun f h=>av ⟨_,bw 49 h rfl rfl,rfl,s⟩
   ·intro f9 w2 vl11 E9 hs9 hd9 hl hF s
    have h:=dh [(42,_),(45,_),(48,_),(49,_)] h hs9 hd9 ⟨bu hl 42 0 (by kernel_rfl) (hF 0 (by decide)),bu hl 45 3 (by kernel_rfl) (hF 3 (by decide)),bu hl 48 6 (by kernel_rfl) (hF 6 (by decide)),bu hl 49 7 (by kernel_rfl) (hF 7 (by decide)),trivial⟩
    refine jb [.agg (bT sv.no sv.sec vt ul 0),.int .i64 (16+(K.getD k aX).1.h),.agg (aP (bQ (K.getD k aX).1.p) (K.getD k aX).2),.agg (aB aW)] h qo (gW sv.no 0 sv.sec vt ul KS (16+(K.getD k aX).1.h) (bQ (K.getD k aX).1.p) (K.getD k aX).2 aW _ _ _ s (bs hT) (((s.getG 3 rfl) (hV.keep s.ext)) _ (cO hkk)) (by omega) (iI (hp2 _ ((s.getG 3 rfl) (hV.keep s.ext))))) rfl rfl ?_;rintro f w1 v50 ⟨u9,hv9,s⟩ h
    have h1v:u9=t8 v50:=by rw [hv9];rfl
    subst h1v
    exact av ⟨_,bw 50 h rfl rfl,hv9,s⟩
   intro f w1 vl11 hs9 hd9 hv hr hF s
   replace hv:=fun i d h9=>hv i d (show Nat.blt i 9=true from h9)
   replace h:=kO 9 (ops:=_) [(42,_),(43,_),(44,_),(45,_),(46,_),(47,_),(48,_),(49,_),(50,.agg (bT sv.no sv.sec vt (t8 (vl11 8)) 0))] h hs9 hd9 hr ⟨(hv 0 42 rfl rfl).trans (hF 0 rfl),(hv 1 43 rfl rfl).trans (hF 1 rfl),(hv 2 44 rfl rfl).trans (hF 2 rfl),(hv 3 45 rfl rfl).trans (hF 3 rfl),(hv 4 46 rfl rfl).trans (hF 4 rfl),(hv 5 47 rfl rfl).trans (hF 5 rfl),(hv 6 48 rfl rfl).trans (hF 6 rfl),(hv 7 49 rfl rfl).trans (hF 7 rfl),(hv 8 50 rfl rfl).trans (hF 8 rfl),trivial⟩ (by kernel_rfl)
   replace s:St w [.sl (t8 (vl11 8)) 71 139 (KS++[(((16+(K.getD k aX).1.h,(bQ (K.getD k aX).1.p),aW),(K.getD k aX).2):S2)]).length (aS (KS++[(((16+(K.getD k aX).1.h,(bQ (K.getD k aX).1.p),aW),(K.getD k aX).2):S2)])),.blk b12 (.cells (cu (K.getD k aX).1.k (K.getD k aX).1.h (K.getD k aX).2 (K.getD k aX).1.p.2.1 (K.getD k aX).1.p.2.2 (K.getD k aX).1.t (K.getD k aX).1.y) 107),.sl v33 107 73 K.length (cb K),(.grp kb (fun w9=>dM w9 vs (bJ m).1→kM K w9)),.blk b9 (.cells (bg (bk (bJ m))) 28),.blk b8 (.cells (bO vs (min m.n 64) m.d) 103),.blk b7 (.cells (bT sv.no sv.sec vt ul 0) 44),.blk b6 (.cells (bT 0 ByteArray.empty aI aI 0) 44),.blk b5 (.cells (aP m vs) 31),.blk b3 (.cells (aQ sv.no sv.sec vt) 24)] _:=s
   refine aj 6 h s bV rfl rfl rfl (aw _ _ _ _ _) (aw _ _ _ _ _) (bB _ _ _ (bs (hT.keep s.ext)) (dm (s.getSl 0 rfl))) fun w1 s=>nt (al (bZ ab 1 h rfl fun f h=>ag (V:=.int .i64 (K.getD k aX).1.k) (ac (aG.of_own s 1 rfl) 0 (oc _ _ _ _ _ _ _)) h bo rfl rfl fun f h=>gE ab h rfl (decide_eq_false (by have:=of_decide_eq_true k1;omega)) fun f h=>e9 ab 9 h rfl fun f h=>iU h rfl (al (bZ ab 1 h rfl fun f h=>ag (V:=.int .i64 (K.getD k aX).1.k) (ac (aG.of_own s 1 rfl) 0 (oc _ _ _ _ _ _ _)) h bo rfl rfl fun f h=>gE ab h rfl (decide_eq_false (by have:=of_decide_eq_true k1;omega)) fun f h=>e9 ab 9 h rfl fun f h=>iU h rfl (bZ ab 1 h rfl fun f h=>ag (V:=.int .i64 (K.getD k aX).1.k) (ac (aG.of_own s 1 rfl) 0 (oc _ _ _ _ _ _ _)) h bo rfl rfl fun f h=>gE ab h rfl (decide_eq_false (by have:=of_decide_eq_true k1;omega)) fun f h=>e9 ab 9 h rfl fun f h=>ij h rfl (wpIn_skip (ba (aE (aF (ae h (a6 (h.ev rfl) (h.ev rfl) (by omega)) rfl fun f h=>?_))))))))))
   replace s:=s.nilSl 71 139
   refine e9 ab 1 h rfl fun f h=>?_
   obtain ⟨hs8,hs9⟩:=LO (fr:=fr) (p:=(bJ m)) k1
   exact ⟨_,by omega,⟨k+1,(t8 (vl11 8)),(KS++[(((16+(K.getD k aX).1.h,(bQ (K.getD k aX).1.p),aW),(K.getD k aX).2):S2)]),h.only ⟨rfl,rfl,rfl,rfl,rfl,rfl,rfl,rfl,rfl,d5 rfl (rl hkk hs9),rfl,rfl,aq rfl (by omega),trivial⟩,St.as (s.pick _ (List.Sublist.cons _ (List.Sublist.cons_cons _ (List.Sublist.cons _ (List.Sublist.cons_cons _ (List.Sublist.cons_cons _ (List.Sublist.cons_cons _ (List.Sublist.cons_cons _ (List.Sublist.cons_cons _ (List.Sublist.cons_cons _ (List.Sublist.cons_cons _ (List.Sublist.cons_cons _ (List.nil_sublist _))))))))))))) ⟨rfl,rfl,rfl,rfl,rfl,rfl,rfl,rfl,rfl,trivial⟩,rfl,by omega,mQ hkk hp1 hs8,km hp2 (fun w9 h9=>h9 _ (cO hkk)),iQ hp3⟩⟩
 ·refine wpIn_exit (aU (aU (bR (aE (al (al ?_))))))
  refine rs ab 1 h rfl fun f h=>nX ab (decide (16≤fr)) h rfl ((decide_eq_decide.2 (by omega))) (fun q0 f h=>?_) (fun q0 f h=>?_)
  ·refine e9 ab 9 h rfl fun f h=>iU h rfl (qr (ak 5 h s bV rfl rfl (aw _ _ _ _ _) rfl fun f h=>aj 6 h s bV rfl rfl rfl (aw _ _ _ _ _) (aw _ _ _ _ _) (bB _ _ _ (bs (hT.keep s.ext)) (dm (s.getSl 0 rfl))) fun w1 s=>nt (wpIn_ret (cR 6 rfl h s bV rfl rfl (aw _ _ _ _ _) (by obtain rfl:k=K.length:=(by omega);exact pE (zz hKb hp1 (by rw [q0];rfl)) hp2 (s.sel [0,2] rfl (by decide)))))))
  ·skip
   refine am ab 2 h rfl fun f h=>bf h rfl (ag (ac (aG.of_own s 3 rfl) 0 (d7 _)) h bo rfl rfl fun f h=>bf h rfl (cZ ab h rfl (fun q1 f h=>?_) (fun q1 f h=>?_)))
   ·refine e9 ab 5 h rfl fun f h=>iU h rfl (qr (ak 5 h s bV rfl rfl (aw _ _ _ _ _) rfl fun f h=>aj 6 h s bV rfl rfl rfl (aw _ _ _ _ _) (aw _ _ _ _ _) (bB _ _ _ (bs (hT.keep s.ext)) (dm (s.getSl 0 rfl))) fun w1 s=>nt (wpIn_ret (cR 6 rfl h s bV rfl rfl (aw _ _ _ _ _) (by obtain rfl:k=K.length:=(by omega);exact pE (zz hKb hp1 (by rw [q0,q1];rfl)) hp2 (s.sel [0,2] rfl (by decide)))))))
   ·skip
    cases q2:(((eN K).take k).any (fL fr):Bool)
    ·refine am ab 3 h rfl fun f h=>bf h rfl (fm ab h rfl (by rw [q2];rfl) fun f h=>e9 ab 1 h rfl fun f h=>cy h rfl (aF (ak 5 h s bV rfl rfl (aw _ _ _ _ _) rfl fun f h=>am ab 2 h rfl fun f h=>ar (aG.subL (aG.of_own s 3 rfl) 1 32 (D:=aA (_)) (fR _)) h aN rfl (by first|exact ai _|exact ah _ _) rfl fun f h=>am ab 1 h rfl fun f h=>ag (V:=.int .i64 sv.no) (ac (aG.of_own s 8 rfl) 0 (sN _ _ _)) h bo rfl rfl fun f h=>ae h (mI li rfl (h.ev rfl) (h.ev rfl)) rfl fun f h=>ae h (cK jM) rfl fun f h=>jb [.agg (bT sv.no sv.sec vt ul 0),.int .i64 (fr),.agg (aP (iw (gG (bJ m)) sv.no) aI),.agg (aB aW)] h qo (gW sv.no 0 sv.sec vt ul KS (fr) (iw (gG (bJ m)) sv.no) aI aW _ _ _ s (bs hT) (fF _ rfl rfl) (by omega) (iI (hp2 _ ((s.getG 2 rfl) (hV.keep s.ext))))) rfl rfl ?_)));rintro f w1 v135 ⟨u9,rfl,s⟩ h
     refine aj 5 h s bV rfl rfl rfl (aw _ _ _ _ _) (aw _ _ _ _ _) (bB _ _ _ (bs (hT.keep s.ext)) (dm (s.getSl 0 rfl))) fun w1 s=>nt (qr (ak 5 h s bV rfl rfl (aw _ _ _ _ _) rfl fun f h=>aj 6 h s bV rfl rfl rfl (aw _ _ _ _ _) (aw _ _ _ _ _) (bB _ _ _ (bs (hT.keep s.ext)) (dm (s.getSl 0 rfl))) fun w1 s=>nt (wpIn_ret (cR 6 rfl h s bV rfl rfl (aw _ _ _ _ _) (by obtain rfl:k=K.length:=(by omega);exact pE (It hKb hp1 q0 q1 q2) (fun w9 h9=>rb (hp2 w9 h9) (fF w9 rfl rfl)) (s.sel [0,2] rfl (by decide)))))))
    ·refine am ab 3 h rfl fun f h=>bf h rfl (gE ab h rfl (by rw [q2];rfl) fun f h=>e9 ab 1 h rfl fun f h=>iU h rfl (qr (ak 5 h s bV rfl rfl (aw _ _ _ _ _) rfl fun f h=>aj 6 h s bV rfl rfl rfl (aw _ _ _ _ _) (aw _ _ _ _ _) (bB _ _ _ (bs (hT.keep s.ext)) (dm (s.getSl 0 rfl))) fun w1 s=>nt (wpIn_ret (cR 6 rfl h s bV rfl rfl (aw _ _ _ _ _) (by obtain rfl:k=K.length:=(by omega);exact pE (zz hKb hp1 (by rw [q0,q1,q2];rfl)) hp2 (s.sel [0,2] rfl (by decide))))))))
set_option maxHeartbeats 4000000 in
theorem fu (sv:Sv) (vt:Value) (fr:Int) (m:Mg) (vs:Value) (now:Int) (w:World) (hT:dW w vt sv.tb) (htl:sv.tb.length≤1000) (hV:dM w vs m.l) (hml:m.l.length≤1000):Calls Tryz.prog 13 [.agg (aQ sv.no sv.sec vt),.int .i64 fr,.agg (aP m vs),.int .i64 now].toArray w (cp w (E8 w aI vt vs [] sv.tb m.l (df sv fr m now))):=by
 refine bF Tryz.func13 rfl Tryz.ntmps13 rfl fun f h s=>qr (aZ (aQ sv.no sv.sec vt) h s rfl rfl rfl fun f w1 b4 h s=>aZ (aP m vs) h s rfl rfl rfl fun f w1 b6 h s=>aK (bT 0 ByteArray.empty aI aI 0) h s gL rfl rfl fun f w1 b8 h s=>nt (al (al ?_)))
 refine aF (ak 2 h s bp rfl rfl (ap _ _ _) rfl fun f h=>gg h s Is (pi sv vt _ (hT.keep s.ext) htl) rfl rfl (fun r0 f w1 h s=>?_) (fun r0 f w1 h s=>?_))
 ·refine e9 ab 27 h rfl fun f h=>cy h rfl (qr (ae h (eQ kX rfl) rfl fun f h=>aj 0 h s bV rfl rfl rfl (aw _ _ _ _ _) (aw _ _ _ _ _) (bB _ _ _ (rfl) (rfl)) fun w1 s=>nt (rt (cR 0 rfl h s bV rfl rfl (aw _ _ _ _ _) (g8 (fA (qA fun h9=>by have h8:=h9.1;rw [r0] at h8;cases h8)) (fun _ a _=>a) (s.pick _ (List.nil_sublist _)))))))
 ·skip
  refine am ab 2 h rfl fun f h=>bf h rfl (ak 1 h s bL rfl rfl (ax _ _) rfl fun f h=>bf h rfl (gg h s Ci (lK m vs _ (hV.keep s.ext) (by omega)) rfl rfl (fun r1 f w1 h s=>?_) (fun r1 f w1 h s=>?_)))
  ·refine e9 ab 23 h rfl fun f h=>cy h rfl (qr (ae h (eQ kX rfl) rfl fun f h=>aj 0 h s bV rfl rfl rfl (aw _ _ _ _ _) (aw _ _ _ _ _) (bB _ _ _ (rfl) (rfl)) fun w1 s=>nt (rt (cR 0 rfl h s bV rfl rfl (aw _ _ _ _ _) (g8 (fA (qA fun h9=>by have h8:=h9.2.1;rw [r1] at h8;cases h8)) (fun _ a _=>a) (s.pick _ (List.nil_sublist _)))))))
  ·skip
   refine am ab 4 h rfl fun f h=>bf h rfl (nX ab (decide (fr<0)) h rfl ((decide_eq_decide.2 (by omega))) (fun r2 f h=>?_) (fun r2 f h=>?_))
   ·skip
    refine am ab 3 h rfl fun f h=>bf h rfl (nX ab (decide (31<fr)) h rfl ((decide_eq_decide.2 (by omega))) (fun r3 f h=>?_) (fun r3 f h=>?_))
    ·skip
     refine am ab 3 h rfl fun f h=>bf h rfl (nX ab (decide (now<0)) h rfl ((decide_eq_decide.2 (by omega))) (fun r4 f h=>?_) (fun r4 f h=>?_))
     ·skip
      refine am ab 3 h rfl fun f h=>bf h rfl (nX ab (decide (1099511627776<now)) h rfl ((decide_eq_decide.2 (by omega))) (fun r5 f h=>?_) (fun r5 f h=>?_))
      ·skip
       cases r6:(fo m:Bool)
       ·refine am ab 2 h rfl fun f h=>bf h rfl (ak 1 h s bL rfl rfl (ax _ _) rfl fun f h=>bf h rfl (jm false h s H8 (qL m vs _ (hV.keep s.ext) hml) (r6) rfl rfl fun f w1 h s=>e9 ab 2 h rfl fun f h=>cy h rfl (qr (ae h (eQ kX rfl) rfl fun f h=>aj 0 h s bV rfl rfl rfl (aw _ _ _ _ _) (aw _ _ _ _ _) (bB _ _ _ (rfl) (rfl)) fun w1 s=>nt (rt (cR 0 rfl h s bV rfl rfl (aw _ _ _ _ _) (g8 (fA (qA fun h9=>by have h8:=h9.2.2.2.2.2.2;rw [r6] at h8;cases h8)) (fun _ a _=>a) (s.pick _ (List.nil_sublist _)))))))))
       ·refine am ab 2 h rfl fun f h=>bf h rfl (ak 1 h s bL rfl rfl (ax _ _) rfl fun f h=>bf h rfl (bq h s H8 (bG (.bool true) (qL m vs _ (hV.keep s.ext) hml) (congrArg Value.bool r6)) rfl rfl ?_));intro f w1 v9 hT hE h s;obtain rfl:=hT
        refine e9 ab 2 h rfl fun f h=>iU h rfl (qr (ak 2 h s bp rfl rfl (ap _ _ _) rfl fun f h=>aK (aQ 0 ByteArray.empty aI) h s ip rfl rfl fun f w1 b9 h s=>aj 0 h s bp rfl rfl rfl (ap _ _ _) (ap _ _ _) (bP _ _ (bs (hT.keep s.ext))) fun w1 s=>nt (bZ ab 1 h rfl fun f h=>ag (V:=vt) (ac (aG.of_own s 3 rfl) 2 (lZ _ _ _)) h eO rfl rfl fun f h=>am ab 1 h rfl fun f h=>bq h s LL (Ba sv.tb vt now _ (hT.keep s.ext) htl) rfl rfl ?_)));intro f w1 v44 hOw hE h sq;change cB _ _ _ 67 _ (sL sv.tb now).length (aJ (sL sv.tb now)) at hOw;replace s:=s.sl_new hE hOw;clear hOw
        have hb:=M6 r0 r1 r2 r3 r4 r5 r6
        have hxl:(sL sv.tb now).length≤1000:=Nat.le_trans (List.length_filter_le _ _) htl
        refine am ab 1 h rfl fun f h=>bN 1 h s eO rfl rfl rfl (by rw [ap];omega) (dm (s.getSl 0 rfl)) fun w1 s=>?_
        replace s:=s.recell (D:=aQ sv.no sv.sec v44) 1 rfl (rfl)
        refine nt (al (bZ ab 1 h rfl fun f h=>ag (ac (aG.of_own s 3 rfl) 0 (cN _ _)) h bo rfl rfl fun f h=>e9 ab 1 h rfl fun f h=>cd h rfl (fun hc=>?_) (fun hc=>?_)))
        ·have ES:=of_decide_eq_true hc
         refine qr (ak 1 h s bp rfl rfl (ap _ _ _) rfl fun f h=>am ab 1 h rfl fun f h=>ak 3 h s bL rfl rfl (ax _ _) rfl fun f h=>bq h s Nq (Cd (cg sv now) v44 fr m vs _ (bI.of_own (s.getSl 0 rfl)) hxl (hV.keep s.ext) hml (gP r0 now) r1 ES) rfl rfl ?_);rintro f w1 v52 ⟨vt9,ul9,K9,ks9,rfl,hK9,hG⟩ hE h sq;replace s:=s.add hG;clear hG
         refine aj 3 h s bV rfl rfl rfl (aw _ _ _ _ _) (aw _ _ _ _ _) (bB _ _ _ (bs (((s.getG 0 rfl) (bI.of_own (s.getSl 1 rfl)) (bS _) (hV.keep s.ext)).1)) (bs (((s.getG 0 rfl) (bI.of_own (s.getSl 1 rfl)) (bS _) (hV.keep s.ext)).2.1))) fun w1 s=>nt (rt (cR 3 rfl h s bV rfl rfl (aw _ _ _ _ _) (zN (jD hb ES) hK9 (fun w9 _=>bS w9) (s.sel [1,0] rfl (by decide)))))
        ·have ES:=of_decide_eq_false hc
         have ha9:cC m=true:=by have h9:=r6;unfold fo at h9;rw [hc] at h9;exact h9
         have hrv:=dz.1 r0
         have hn9:0≤now∧now≤1099511627776:=⟨by have:=of_decide_eq_false r4;omega,by have:=of_decide_eq_false r5;omega⟩
         refine kt (qr (ak 1 h s bp rfl rfl (ap _ _ _) rfl fun f h=>ak 4 h s bp rfl rfl (ap _ _ _) rfl fun f h=>am ab 1 h rfl fun f h=>ak 3 h s bL rfl rfl (ax _ _) rfl fun f h=>am ab 1 h rfl fun f h=>bq h s Nj (EP (cg sv now) sv v44 vt fr m vs now _ (bI.of_own (s.getSl 0 rfl)) hxl (hT.keep s.ext) (hV.keep s.ext) hml hrv.2.2.1 ha9 hn9) rfl rfl ?_));rintro f w1 v58 ⟨vt9,ul9,K9,ks9,rfl,hK9,hG⟩ hE h sq;replace s:=s.add hG;clear hG
         refine aj 3 h s bV rfl rfl rfl (aw _ _ _ _ _) (aw _ _ _ _ _) (bB _ _ _ (bs (((s.getG 0 rfl) (bI.of_own (s.getSl 1 rfl)) (hT.keep s.ext) (hV.keep s.ext)).1)) (bs (((s.getG 0 rfl) (bI.of_own (s.getSl 1 rfl)) (hT.keep s.ext) (hV.keep s.ext)).2.1))) fun w1 s=>nt (wpIn_ret (cR 3 rfl h s bV rfl rfl (aw _ _ _ _ _) (zN (j4 hb ES) hK9 (fun w9 a=>a) (s.sel [1,0] rfl (by decide)))))
      ·refine e9 ab 6 h rfl fun f h=>cy h rfl (qr (ae h (eQ kX rfl) rfl fun f h=>aj 0 h s bV rfl rfl rfl (aw _ _ _ _ _) (aw _ _ _ _ _) (bB _ _ _ (rfl) (rfl)) fun w1 s=>nt (rt (cR 0 rfl h s bV rfl rfl (aw _ _ _ _ _) (g8 (fA (qA fun h9=>by have h8:=h9.2.2.2.2.2.1;rw [r5] at h8;cases h8)) (fun _ a _=>a) (s.pick _ (List.nil_sublist _)))))))
     ·refine e9 ab 10 h rfl fun f h=>cy h rfl (qr (ae h (eQ kX rfl) rfl fun f h=>aj 0 h s bV rfl rfl rfl (aw _ _ _ _ _) (aw _ _ _ _ _) (bB _ _ _ (rfl) (rfl)) fun w1 s=>nt (rt (cR 0 rfl h s bV rfl rfl (aw _ _ _ _ _) (g8 (fA (qA fun h9=>by have h8:=h9.2.2.2.2.1;rw [r4] at h8;cases h8)) (fun _ a _=>a) (s.pick _ (List.nil_sublist _)))))))
    ·refine e9 ab 14 h rfl fun f h=>cy h rfl (qr (ae h (eQ kX rfl) rfl fun f h=>aj 0 h s bV rfl rfl rfl (aw _ _ _ _ _) (aw _ _ _ _ _) (bB _ _ _ (rfl) (rfl)) fun w1 s=>nt (rt (cR 0 rfl h s bV rfl rfl (aw _ _ _ _ _) (g8 (fA (qA fun h9=>by have h8:=h9.2.2.2.1;rw [r3] at h8;cases h8)) (fun _ a _=>a) (s.pick _ (List.nil_sublist _)))))))
   ·refine e9 ab 18 h rfl fun f h=>cy h rfl (qr (ae h (eQ kX rfl) rfl fun f h=>aj 0 h s bV rfl rfl rfl (aw _ _ _ _ _) (aw _ _ _ _ _) (bB _ _ _ (rfl) (rfl)) fun w1 s=>nt (rt (cR 0 rfl h s bV rfl rfl (aw _ _ _ _ _) (g8 (fA (qA fun h9=>by have h8:=h9.2.2.1;rw [r2] at h8;cases h8)) (fun _ a _=>a) (s.pick _ (List.nil_sublist _)))))))
end Go.Proofs.YtobfeflheaobiaaGreatDoor
