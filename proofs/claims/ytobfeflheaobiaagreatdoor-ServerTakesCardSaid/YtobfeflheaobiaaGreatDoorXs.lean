/- What package server makes of a message: what it is to it, what is judged, what is sent on, Handle. -/
import Derived.Test.YtobfeflheaobiaaGreatDoorXg
set_option linter.unusedVariables false
set_option linter.unusedSimpArgs false
set_option linter.unusedSectionVars false
namespace Go.Proofs.YtobfeflheaobiaaGreatDoor
open Go.RowKit
theorem jO (x:Int) (w:World) (hx:0≤x∧x≤1000):Calls Tryz.prog 22 [.int .i64 x].toArray w (cp w (is (.int .i64 (16+x)))):=by
 refine bF Tryz.func22 rfl Tryz.ntmps22 rfl fun f h s=>bH ab 1 h rfl fun f h=>bZ ab 1 h rfl fun f h=>ae h (a6 (h.ev rfl) (h.ev rfl) (by omega)) rfl fun f h=>e9 ab 1 h rfl fun f h=>wpIn_ret (aH rfl h s rfl (rfl))
theorem kE (sv:Sv) (vt:Value) (w:World) (hT:dW w vt sv.tb) (htl:sv.tb.length≤1000):Calls Tryz.prog 9 [.agg (aQ sv.no sv.sec vt)].toArray w (cp w (is (.bool (dJ sv)))):=by
 refine bF Tryz.func9 rfl Tryz.ntmps9 rfl fun f h s=>qr (aZ (aQ sv.no sv.sec vt) h s rfl rfl rfl fun f w1 b1 h s=>e9 ab 1 h rfl fun f h=>al ?_)
 refine rs ab 1 h rfl fun f h=>ag (V:=.int .i64 sv.no) (ac (aG.of_own s 0 rfl) 0 (sN _ _ _)) h bo rfl rfl fun f h=>cZ ab h rfl (fun h0 f h=>?_) (fun h0 f h=>?_)
 ·refine e9 ab 17 h rfl fun f h=>wpIn_ret (aH rfl h s rfl (by show _=_;unfold dJ;rw [h0];rfl))
 ·skip
  refine am ab 2 h rfl fun f h=>bf h rfl (ag (V:=.int .i64 sv.no) (ac (aG.of_own s 0 rfl) 0 (sN _ _ _)) h bo rfl rfl fun f h=>bf h rfl (nX ab (decide (sv.no≤15)) h rfl ((decide_eq_decide.2 (by omega))) (fun h1 f h=>?_) (fun h1 f h=>?_)))
  ·refine e9 ab 13 h rfl fun f h=>wpIn_ret (aH rfl h s rfl (by show _=_;unfold dJ;rw [h0,h1];rfl))
  ·skip
   refine am ab 3 h rfl fun f h=>bf h rfl (ag (V:=.string sv.sec) (ac (aG.of_own s 0 rfl) 1 (rz _ _ _)) h dG rfl rfl fun f h=>bf h rfl (ae h (ct Tryz.underlying9 (h.ev rfl)) rfl fun f h=>bf h rfl (nX ab (decide (sv.sec.size≤64)) h rfl ((decide_eq_decide.2 (by omega))) (fun h2 f h=>?_) (fun h2 f h=>?_))))
   ·refine e9 ab 7 h rfl fun f h=>wpIn_ret (aH rfl h s rfl (by show _=_;unfold dJ;rw [h0,h1,h2];rfl))
   ·refine am ab 3 h rfl fun f h=>bf h rfl (ag (V:=vt) (ac (aG.of_own s 0 rfl) 2 (lZ _ _ _)) h eO rfl rfl fun f h=>bf h rfl (c7 h s qU (gb sv.tb vt _ (hT.keep s.ext) htl) rfl rfl fun f w1 h s=>e9 ab 2 h rfl fun f h=>wpIn_ret (aH rfl h s rfl (by show _=_;unfold dJ;rw [h0,h1,h2];rfl))))
theorem zZ (sv:Sv) (vt:Value) (now:Int) (w:World) (hT:dW w vt sv.tb) (htl:sv.tb.length≤1000) (hr:ce sv.tb=true):Calls Tryz.prog 25 [.agg (aQ sv.no sv.sec vt),.int .i64 now].toArray w (cp w (PA w sv vt (sL sv.tb now))):=by
 refine bF Tryz.func25 rfl Tryz.ntmps25 rfl fun f h s=>qr (aZ (aQ sv.no sv.sec vt) h s rfl rfl rfl fun f w1 b2 h s=>aK (aQ 0 ByteArray.empty aI) h s ip rfl rfl fun f w1 b4 h s=>nt (bZ ab 1 h rfl fun f h=>ag (V:=vt) (ac (aG.of_own s 1 rfl) 2 (lZ _ _ _)) h eO rfl rfl fun f h=>am ab 1 h rfl fun f h=>bq h s L3 (Bq sv.tb vt now _ (hT.keep s.ext) htl) rfl rfl ?_));rintro f w1 v9 ⟨va,kva,rfl,hG⟩ hE h sq;replace s:=s.add hG;clear hG
 rw [JK hr now] at s
 refine am ab 4 h rfl fun f h=>bN 2 h s eO rfl rfl rfl (by rw [ap];omega) (bs (((s.getG 0 rfl) (hT.keep s.ext)))) fun w1 s=>?_
 replace s:=s.recell (D:=aQ sv.no sv.sec va) 2 rfl (rfl)
 refine nt (qr (ak 2 h s bp rfl rfl (ap _ _ _) rfl fun f h=>aj 1 h s bp rfl rfl rfl (ap _ _ _) (ap _ _ _) (bP _ _ (bs (((s.getG 0 rfl) (hT.keep s.ext))))) fun w1 s=>nt (wpIn_ret (cR 1 rfl h s bp rfl rfl (ap _ _ _) (⟨va,kva,rfl,s.sel [0] rfl (by decide)⟩)))))
theorem jR (m:Mg) (vs:Value) (w:World) (hV:dM w vs m.l) (hml:m.l.length≤1000):Calls Tryz.prog 26 [.agg (aP m vs)].toArray w (cp w (is (AR 94 95 99 m vs))):=by
 refine bF Tryz.func26 rfl Tryz.ntmps26 rfl fun f h s=>qr (aZ (aP m vs) h s rfl rfl rfl fun f w1 b1 h s=>e9 ab 1 h rfl fun f h=>al (bZ ab 1 h rfl fun f h=>ag (ac (aG.of_own s 0 rfl) 0 (cN _ _)) h bo rfl rfl fun f h=>nt (wpIn_block (al (al ?_)))))
 refine aF (cZ ab h rfl (fun k2 f h=>?_) (fun k2 f h=>?_))
 ·refine e9 ab 1 h rfl fun f h=>ij h rfl (al ?_)
  refine aF (cZ ab h rfl (fun k4 f h=>?_) (fun k4 f h=>?_))
  ·refine e9 ab 1 h rfl fun f h=>ij h rfl ?_
   refine aF (cZ ab h rfl (fun k6 f h=>?_) (fun k6 f h=>?_))
   ·refine e9 ab 1 h rfl fun f h=>ij h rfl (al ?_)
    refine aF (cZ ab h rfl (fun k1 f h=>?_) (fun k1 f h=>?_))
    ·refine e9 ab 1 h rfl fun f h=>ij h rfl (wpIn_skip (ba (aE (qr (ae h (tX NI) rfl fun f h=>ae h (gD Tryz.underlying99 rfl (h.ev rfl)) rfl fun f h=>e9 ab 1 h rfl fun f h=>wpIn_ret (aH rfl h s rfl (by show _=_;unfold AR rN;rw [k2,k4,k6,k1];rfl)))))))
    ·refine e9 ab 1 h rfl fun f h=>cy h rfl (qr (ak 0 h s bL rfl rfl (ax _ _) rfl fun f h=>ae h (jh Nu (h.ev rfl)) rfl fun f h=>ae h (gD Tryz.underlying95 rfl (h.ev rfl)) rfl fun f h=>e9 ab 1 h rfl fun f h=>wpIn_ret (ck (bK (aH rfl h s rfl (by show _=_;unfold AR rN;rw [k2,k4,k6,k1];rfl))))))
   ·refine e9 ab 1 h rfl fun f h=>cy h rfl (qr (ak 0 h s bL rfl rfl (ax _ _) rfl fun f h=>ae h (jh DA (h.ev rfl)) rfl fun f h=>ae h (gD Tryz.underlying94 rfl (h.ev rfl)) rfl fun f h=>e9 ab 1 h rfl fun f h=>wpIn_ret (ck (bK (aH rfl h s rfl (by show _=_;unfold AR rN;rw [k2,k4,k6];rfl))))))
  ·refine e9 ab 1 h rfl fun f h=>cy h rfl (kt (cy h rfl (qr (ak 0 h s bL rfl rfl (ax _ _) rfl fun f h=>ae h (jh DA (h.ev rfl)) rfl fun f h=>ae h (gD Tryz.underlying94 rfl (h.ev rfl)) rfl fun f h=>e9 ab 1 h rfl fun f h=>wpIn_ret (ck (bK (aH rfl h s rfl (by show _=_;unfold AR rN;rw [k2,k4];rfl))))))))
 ·refine e9 ab 1 h rfl fun f h=>cy h rfl (kt (cy h rfl (qr (ak 0 h s bL rfl rfl (ax _ _) rfl fun f h=>ae h (jh DA (h.ev rfl)) rfl fun f h=>ae h (gD Tryz.underlying94 rfl (h.ev rfl)) rfl fun f h=>e9 ab 1 h rfl fun f h=>wpIn_ret (ck (bK (aH rfl h s rfl (by show _=_;unfold AR rN;rw [k2];rfl))))))))
theorem qP (m:Mg) (vs:Value) (w:World) (hV:dM w vs m.l) (hml:m.l.length≤1000) (h1:1≤m.l.length):Calls Tryz.prog 74 [.agg (aP m vs)].toArray w (cp w (is (.tuple #[.agg (aA (bk (bJ m)).2.1),.bool (decide ((bk (bJ m)).1=1))]))):=by
 refine bF Tryz.func74 rfl Tryz.ntmps74 rfl fun f h s=>qr (aZ (aP m vs) h s rfl rfl rfl fun f w1 b1 h s=>aK (aA 0#256) h s dS rfl rfl fun f w1 b2 h s=>e9 ab 1 h rfl fun f h=>bZ ab 2 h rfl fun f h=>ag (ac (aG.of_own s 1 rfl) 67 (dq _ _)) h cG rfl rfl fun f h=>ae h (a7 (hV.keep s.ext) (0) Tryz.underlying29 fp (h.ev rfl) (h.ev rfl) (rfl) (by omega)) rfl fun f h=>ar ((hV.keep s.ext).el (0) (by omega) (by decide) (D:=bg (bk (bJ m))) (pX m.l 0 (by omega))) h bY rfl (aC _) rfl fun f h=>aK (bg (0,0#256,0)) h s ob rfl rfl fun f w1 b4 h s=>aj 0 h s bY rfl rfl rfl (aC _) (aC _) (fD _) fun w1 s=>nt (al ?_))
 replace s:=s.bring 1 rfl
 replace s:St w [.blk b2 (.cells (aA 0#256) 26),.blk b4 (.cells (bg (bk (bJ m))) 28),.blk b1 (.cells (aP m vs) 95)] _:=s
 refine mW 1 [[],[0],[],[2],[2,3],[0,1],[0,1,2,3,4,5]] [[],[],[],[],[],[7],[]] [[_]] [.v _,.v (.agg (aA (bk (bJ m)).2.1)),.v _,.v (.int .i64 (bk (bJ m)).1),.v _,.m (fun v=>[.blk b2 (.cells (aA (bk (bJ m)).2.1) 26)]),.v _] _ h s rfl (by kernel_rfl) (by kernel_rfl) (by kernel_rfl) (iz ab h rfl rfl rfl (cF ?_ (iz ab h rfl rfl rfl (cF ?_ (iz ab h rfl rfl rfl (cF ?_ (iz ab h rfl rfl rfl (trivial)))))))) [0,1,2,3,4,5,6] (by kernel_rfl) ?_
 ·intro f9 w2 vl2 E9 hs9 hd9 hl hF s
  have h:=dh [(10,_)] h hs9 hd9 ⟨bu hl 10 0 (by kernel_rfl) (hF 0 (by decide)),trivial⟩
  refine ar (aG.subL (aG.of_own s 0 rfl) 1 32 (D:=aA (_)) (fR _)) h aN rfl (by first|exact ai _|exact ah _ _) rfl fun f h=>av ⟨_,bw 11 h rfl rfl,rfl,s⟩
 ·intro f9 w2 vl2 E9 hs9 hd9 hl hF s
  have h:=dh [(12,_)] h hs9 hd9 ⟨bu hl 12 2 (by kernel_rfl) (hF 2 (by decide)),trivial⟩
  refine ag (ac (aG.of_own s 0 rfl) 0 (d7 _)) h bo rfl rfl fun f h=>av ⟨_,bw 13 h rfl rfl,rfl,s⟩
 ·intro f9 w2 vl2 E9 hs9 hd9 hl hF s
  have h:=dh [(2,_),(11,_)] h hs9 hd9 ⟨gN hl 2 (by kernel_rfl) (h.holds 2 _ rfl),bu hl 11 1 (by kernel_rfl) (hF 1 (by decide)),trivial⟩
  refine aj 0 h s aN rfl rfl rfl (by first|exact ai _|exact ah _ _) (by first|exact ai _|exact ah _ _) (by first|exact bE _|exact bc _ _) fun w1 s=>av ⟨undef,iL rfl,trivial,s⟩
 intro f w1 vl2 hs9 hd9 hv hr hF s
 replace h:=ly (ops:=_) [(10,_),(11,_),(12,_),(13,_),(14,_),(3,_)] h hs9 hd9 hr ⟨(hv 0 10 rfl).trans (hF 0 rfl),(hv 1 11 rfl).trans (hF 1 rfl),(hv 2 12 rfl).trans (hF 2 rfl),(hv 3 13 rfl).trans (hF 3 rfl),(hv 4 14 rfl).trans (hF 4 rfl),(hv 6 3 rfl).trans (hF 6 rfl),trivial⟩ (by kernel_rfl)
 refine aE (wpIn_ret (cY 0 rfl h s aN rfl rfl (by first|exact ai _|exact ah _ _) rfl (rfl)))
theorem sk (p:Pk) (vs:Value) (w:World) (hP:dM w vs p.1):Calls Tryz.prog 75 [.agg (bO vs p.2.1 p.2.2)].toArray w (cp w (is (.agg (aP (bQ p) vs)))):=by
 refine bF Tryz.func75 rfl Tryz.ntmps75 rfl fun f h s=>qr (aZ (bO vs p.2.1 p.2.2) h s rfl rfl rfl fun f w1 b1 h s=>aK (aP mZ aI) h s kQ rfl rfl fun f w1 b2 h s=>nt (bZ ab 1 h rfl fun f h=>ag (V:=vs) (ac (aG.of_own s 1 rfl) 0 (rK _ _ _)) h cG rfl rfl fun f h=>am ab 1 h rfl fun f h=>ag (V:=.int .i64 p.2.1) (ac (aG.of_own s 1 rfl) 1 (rJ _ _ _)) h bo rfl rfl fun f h=>am ab 1 h rfl fun f h=>ag (V:=.string p.2.2) (ac (aG.of_own s 1 rfl) 2 (A9 _ _ _)) h dG rfl rfl fun f h=>ae h (lX (l:=p.1) (gx hP) (eR hP) li rfl (h.ev rfl) (h.ev rfl) (h.ev rfl)) rfl fun f h=>aj 0 h s bL rfl rfl rfl (ax _ _) (ax _ _) (cX _ _ (bs hP)) fun w1 s=>nt (wpIn_ret (cR 0 rfl h s bL rfl rfl (ax _ _) (rfl)))))
theorem Dc (e:cU) (w:World) (hh:e.1=2→0≤e.2.2∧e.2.2≤15):Calls Tryz.prog 76 [.agg (bg e)].toArray w (cp w (is (.int .i64 (iB e)))):=by
 refine bF Tryz.func76 rfl Tryz.ntmps76 rfl fun f h s=>qr (aZ (bg e) h s rfl rfl rfl fun f w1 b1 h s=>e9 ab 1 h rfl fun f h=>al (al ?_))
 refine rs ab 1 h rfl fun f h=>ag (V:=.int .i64 e.1) (ac (aG.of_own s 0 rfl) 0 (d7 _)) h bo rfl rfl fun f h=>cZ ab h rfl (fun k2 f h=>?_) (fun k2 f h=>?_)
 ·refine rH h rfl (bH ab 1 h rfl fun f h=>wpIn_ret (aH rfl h s rfl (by show _=_;unfold iB;rw [k2];rfl)))
 ·refine wy h rfl (bZ ab 1 h rfl fun f h=>ag (V:=.int .i64 e.2.2) (ac (aG.of_own s 0 rfl) 33 (dO _)) h bo rfl rfl fun f h=>c7 h s wa (jO e.2.2 _ (by have:=hh (of_decide_eq_true k2);omega)) rfl rfl fun f w1 h s=>e9 ab 1 h rfl fun f h=>rt (aH rfl h s rfl (by show _=_;unfold iB;rw [k2];rfl)))
theorem Ag (n:Int) (m:Mg) (v:Value) (b:Tg) (w:World):Calls Tryz.prog 78 [.agg (dv n m v b)].toArray w (cp w (is (.bool (decide (m.k=7))))):=by
 refine bF Tryz.func78 rfl Tryz.ntmps78 rfl fun f h s=>qr (aZ (dv n m v b) h s rfl rfl rfl fun f w1 b1 h s=>e9 ab 1 h rfl fun f h=>bZ ab 2 h rfl fun f h=>ag (V:=.int .i64 m.k) (ac (aG.of_own s 0 rfl) 1 (MU _ _ _ _)) h bo rfl rfl fun f h=>e9 ab 2 h rfl fun f h=>wpIn_ret (aH rfl h s rfl (rfl)))
theorem BZ (K:List S2) (vh:Value) (w:World) (hR:bI w vh 139 K.length (aS K)) (hKl:K.length≤2000):Calls Tryz.prog 102 [vh,.func (.func 78) #[] #[]].toArray w (cp w (Pt K)):=by
 refine bF Tryz.func102 rfl Tryz.ntmps102 rfl fun f h s=>bH ab 1 h rfl fun f h=>al (bZ ab 1 h rfl fun f h=>dN h (hR.keep s.ext) Tryz.underlying34 rfl rfl fun f h=>e9 ab 1 h rfl fun f h=>wpIn_block (wpIn_loop_ghost (fun nn aa ww=>∃ k:Nat,Sl 19 aa [(0,vh),(1,.func (.func 78) #[] #[]),(6,vh),(7,.int .i64 (K.length:Int)),(8,.int .i64 (k:Int))]∧St w [] ww∧nn=K.length - k∧k≤K.length∧∀ i,i<k→nL (K.getD i dB)=false) (K.length - (0)) ⟨0,h.only ⟨rfl,rfl,rfl,rfl,aq rfl (by omega),trivial⟩,s.as trivial,rfl,Nat.zero_le _,fun i hi=>absurd hi (Nat.not_lt_zero _)⟩ ?_))
 rintro _ f w1 ⟨k,h,s,hnn,hp0,hp1⟩
 refine bH ab 1 h rfl fun f h=>al (cV h rfl (fun hc=>?_) (fun hc=>?_))
 ·refine kt (al (wpIn_block (bH ab 2 h rfl fun f h=>qr ?_)))
  have hkl:k<K.length:=by omega
  refine am ab 3 h rfl fun f h=>ae h (a7 (hR.keep s.ext) (k) Tryz.underlying34 fN (h.ev rfl) (h.ev rfl) (by omega) (by omega)) rfl fun f h=>ar ((hR.keep s.ext).el (k) (by omega) (by decide) (D:=dv (K.getD k dB).1.1 (K.getD k dB).1.2.1 (K.getD k dB).2 (K.getD k dB).1.2.2) (jK K k hkl)) h Lw rfl (p7 _ _ _ _) rfl fun f h=>nu [.agg (dv (K.getD k dB).1.1 (K.getD k dB).1.2.1 (K.getD k dB).2 (K.getD k dB).1.2.2)] (caps:=[]) h s MX rfl (Ag _ _ _ _ _) rfl rfl ?_;intro f w1 v16 hT hE h s;obtain rfl:=hT
  refine nt (cd h rfl (fun hc=>?_) (fun hc=>?_))
  ·have hc:nL (K.getD k dB)=true:=hc
   refine bH ab 2 h rfl fun f h=>wpIn_ret (ck (bK (bK (ck (bK (aH rfl h s rfl (⟨_,rfl,Mh hkl hc⟩)))))))
  ·have hc:nL (K.getD k dB)=false:=hc
   refine wpIn_skip (ba (aE (aF (ae h (a6 (h.ev rfl) (h.ev rfl) (by omega)) rfl fun f h=>e9 ab 1 h rfl fun f h=>?_))))
   exact ⟨_,by omega,⟨k+1,h.only ⟨rfl,rfl,rfl,rfl,aq rfl (by omega),trivial⟩,St.as s trivial,rfl,by omega,y7 (q:=fun j=>nL (K.getD j dB)) hp1 hc⟩⟩
 ·refine wpIn_exit (aU (aU (bR (aE (bH ab 1 h rfl fun f h=>wpIn_ret (aH rfl h s rfl (⟨_,rfl,Lz (fun i hi=>hp1 i (by omega))⟩)))))))
theorem wV (K:List S2) (vh:Value) (w:World) (hR:bI w vh 139 K.length (aS K)) (hKl:K.length≤2000):Calls Tryz.prog 77 [vh,.func (.func 78) #[] #[]].toArray w (cp w (is (.bool (K.any nL)))):=by
 refine bF Tryz.func77 rfl Tryz.ntmps77 rfl fun f h s=>bH ab 1 h rfl fun f h=>bZ ab 2 h rfl fun f h=>bq h s IX (BZ K vh _ (hR.keep s.ext) hKl) rfl rfl ?_;rintro f w1 v9 ⟨r9,rfl,hr⟩ hE h s
 refine qh ab (.bool (K.any nL)) h rfl (congrArg Value.bool hr) rfl fun f h=>e9 ab 1 h rfl fun f h=>wpIn_ret (aH rfl h s rfl (rfl))
set_option maxHeartbeats 2000000 in
theorem ya (sv:Sv) (vt:Value) (fr:Int) (m:Mg) (vs:Value) (now:Int) (w:World) (hT:dW w vt sv.tb) (htl:sv.tb.length≤1000) (hV:dM w vs m.l) (hml:m.l.length≤1000) (ha:cC m=true) (hn:0≤now∧now≤1099511627776) (h6:decide (m.k=6)=false):Calls Tryz.prog 71 [.agg (aQ sv.no sv.sec vt),.int .i64 fr,.agg (aP m vs),.int .i64 now].toArray w (cp w (vi w vt vs sv.tb m.l ⟨⟨sv.no,sv.sec,lV sv.tb (en m now)⟩,[(fr,iW m,aW)],i4 sv.tb (en m now)⟩)):=by
 obtain ⟨q1,q2⟩:=KY (JS (now:=now) ha h6 (decide_eq_false (by omega)) (decide_eq_false (by omega)))
 refine bF Tryz.func71 rfl Tryz.ntmps71 rfl fun f h s=>qr (aZ (aQ sv.no sv.sec vt) h s rfl rfl rfl fun f w1 b4 h s=>aZ (aP m vs) h s rfl rfl rfl fun f w1 b6 h s=>aK (aQ 0 ByteArray.empty aI) h s ip rfl rfl fun f w1 b8 h s=>e9 ab 2 h rfl fun f h=>qr (ak 1 h s bL rfl rfl (ax _ _) rfl fun f h=>am ab 1 h rfl fun f h=>c7 h s NJ (bG (.tuple #[.agg (aB (en m now)),.int .i64 0]) (AA m vs now _ (hV.keep s.ext) hml) (by rw [q1,q2])) rfl rfl fun f w1 h s=>am ab 3 h rfl fun f h=>aK (aB aW) h s eL rfl rfl fun f w1 b11 h s=>aj 0 h s a8 rfl rfl rfl (ao _) (ao _) (bm _) fun w1 s=>e9 ab 1 h rfl fun f h=>bZ ab 1 h rfl fun f h=>ag (V:=vt) (ac (aG.of_own s 3 rfl) 2 (lZ _ _ _)) h eO rfl rfl fun f h=>ak 0 h s a8 rfl rfl (ao _) rfl fun f h=>bq h s LH (D6 sv.tb vt (en m now) _ (hT.keep s.ext) htl) rfl rfl ?_));rintro f w1 v25 ⟨va,kva,rfl,hG⟩ hE h sq;replace s:=s.add hG;clear hG
 have hva1:=bs (((s.getG 0 rfl) (hT.keep s.ext)))
 refine e9 ab 5 h rfl fun f h=>bZ ab 2 h rfl fun f h=>bN 4 h s eO rfl rfl rfl (by rw [ap];omega) (bs (((s.getG 0 rfl) (hT.keep s.ext)))) fun w1 s=>?_
 replace s:=s.recell (D:=aQ sv.no sv.sec va) 4 rfl (rfl)
 refine nt (al ?_)
 replace s:=s.bring 2 rfl
 replace s:St w [.blk b8 (.cells (aQ 0 ByteArray.empty aI) 24),(.grp kva (fun w9=>dW w9 vt sv.tb→dW w9 va (lV sv.tb (en m now)))),.blk b11 (.cells (aB (en m now)) 67),.blk b6 (.cells (aP m vs) 31),.blk b4 (.cells (aQ sv.no sv.sec va) 24)] _:=s
 refine mW 1 [[],[],[],[2],[],[4],[2,3,4,5],[1,2,3,4,5,6],[1,2,3,4,5,6,7],[],[0],[0,1,2,3,4,5,6,7,8,10],[0,1,2,3,4,5,6,7,8,9,10,11]] [[],[],[],[],[],[],[],[],[],[],[13],[8],[]] [[_]] [.v (.agg (aQ sv.no sv.sec va)),.v _,.v _,.v (.agg (aA m.i)),.v _,.v (.agg (bg m.t)),.v (.agg (aP (iW m) aI)),.v (.agg (dv fr (iW m) aI aW)),.m (fun v=>[.sl (v 8) 71 139 [(((fr,iW m,aW),aI):S2)].length (aS [(((fr,iW m,aW),aI):S2)])]),.v _,.m (fun v=>[.blk b8 (.cells (aQ sv.no sv.sec va) 24)]),.m (fun v=>[.sl (v 11) 71 139 [(((fr,iW m,aW),aI):S2)].length (aS [(((fr,iW m,aW),aI):S2)])]),.v _] _ h s rfl (by kernel_rfl) (by kernel_rfl) (by kernel_rfl) (cF ?_ (iz ab h rfl rfl rfl (iz ab h rfl rfl rfl (cF ?_ (iz ab h rfl rfl rfl (cF ?_ (cF ?_ (cF ?_ (cF ?_ (iz ab h rfl rfl rfl (cF ?_ (cF ?_ (iz ab h rfl rfl rfl (trivial)))))))))))))) [0,1,2,3,4,5,6,7,9,10,11,12] (by kernel_rfl) ?_
 ·intro f9 w2 vl4 E9 hs9 hd9 hl hF s
  have h:=dh [(4,_)] h hs9 hd9 ⟨gN hl 4 (by kernel_rfl) (h.holds 4 _ rfl),trivial⟩
  refine ak 3 h s bp rfl rfl (ap _ _ _) rfl fun f h=>av ⟨_,bw 30 h rfl rfl,rfl,s⟩
 ·intro f9 w2 vl4 E9 hs9 hd9 hl hF s
  have h:=dh [(32,_)] h hs9 hd9 ⟨bu hl 32 2 (by kernel_rfl) (hF 2 (by decide)),trivial⟩
  refine ar (aG.subL (aG.of_own s 2 rfl) 1 32 (D:=aA m.i) (cQ _ _)) h aN rfl (by first|exact ai _|exact ah _ _) rfl fun f h=>av ⟨_,bw 33 h rfl rfl,rfl,s⟩
 ·intro f9 w2 vl4 E9 hs9 hd9 hl hF s
  have h:=dh [(34,_)] h hs9 hd9 ⟨bu hl 34 4 (by kernel_rfl) (hF 4 (by decide)),trivial⟩
  refine ar (aG.subL (aG.of_own s 2 rfl) 33 34 (D:=bg m.t) (cI _ _)) h bY rfl (aC _) rfl fun f h=>av ⟨_,bw 35 h rfl rfl,rfl,s⟩
 ·intro f9 w2 vl4 E9 hs9 hd9 hl hF s
  have h:=dh [(33,_),(35,_)] h hs9 hd9 ⟨bu hl 33 3 (by kernel_rfl) (hF 3 (by decide)),bu hl 35 5 (by kernel_rfl) (hF 5 (by decide)),trivial⟩
  refine ae h (mC li rfl (h.ev rfl) (h.ev rfl)) rfl fun f h=>av ⟨_,bw 36 h rfl rfl,rfl,s⟩
 ·intro f9 w2 vl4 E9 hs9 hd9 hl hF s
  have h:=dh [(31,_),(36,_)] h hs9 hd9 ⟨bu hl 31 1 (by kernel_rfl) (hF 1 (by decide)),bu hl 36 6 (by kernel_rfl) (hF 6 (by decide)),trivial⟩
  refine ae h (gz qk (h.ev rfl) (h.ev rfl)) rfl fun f h=>av ⟨_,bw 37 h rfl rfl,rfl,s⟩
 ·intro f9 w2 vl4 E9 hs9 hd9 hl hF s
  have h:=dh [(37,_)] h hs9 hd9 ⟨bu hl 37 7 (by kernel_rfl) (hF 7 (by decide)),trivial⟩
  refine bn (vs:=[.agg (dv fr (iW m) aI aW)]) [.tmp 37] h s Tryz.underlying34 kW rfl rfl (qg (((fr,iW m,aW),aI):S2)) rfl rfl rfl fun f w1 v38 h s=>?_
  replace s:=s.resl (m:=[(((fr,iW m,aW),aI):S2)].length) (ys:=aS [(((fr,iW m,aW),aI):S2)]) 0 rfl rfl (by exact mR [] (((fr,iW m,aW),aI):S2))
  exact av ⟨_,bw 38 h rfl rfl,trivial,s⟩
 ·intro f9 w2 vl4 E9 hs9 hd9 hl hF s
  have h:=dh [(8,_),(30,_)] h hs9 hd9 ⟨gN hl 8 (by kernel_rfl) (h.holds 8 _ rfl),bu hl 30 0 (by kernel_rfl) (hF 0 (by decide)),trivial⟩
  refine aj 0 h s bp rfl rfl rfl (ap _ _ _) (ap _ _ _) (bP _ _ hva1) fun w1 s=>av ⟨undef,iL rfl,trivial,s⟩
 ·intro f9 w2 vl4 E9 hs9 hd9 hl hF s
  have e38:f9.tmps.getD 38 undef=(vl4 8):=dK hl 38 8 (by kernel_rfl) (by kernel_rfl)
  have h:=aD [(38,(vl4 8))] (hs9.trans h.size) (hd9.trans h.defers) (holds_lk ⟨e38,trivial⟩)
  refine am ab 1 h rfl fun f h=>av ⟨_,bw 9 h rfl rfl,trivial,s⟩
 intro f w1 vl4 hs9 hd9 hv hr hF s
 replace h:=ly (ops:=_) [(30,_),(31,_),(32,_),(33,_),(34,_),(35,_),(36,_),(37,_),(38,(vl4 8)),(39,_),(9,(vl4 11)),(10,_)] h hs9 hd9 hr ⟨(hv 0 30 rfl).trans (hF 0 rfl),(hv 1 31 rfl).trans (hF 1 rfl),(hv 2 32 rfl).trans (hF 2 rfl),(hv 3 33 rfl).trans (hF 3 rfl),(hv 4 34 rfl).trans (hF 4 rfl),(hv 5 35 rfl).trans (hF 5 rfl),(hv 6 36 rfl).trans (hF 6 rfl),(hv 7 37 rfl).trans (hF 7 rfl),hv 8 38 rfl,(hv 9 39 rfl).trans (hF 9 rfl),hv 11 9 rfl,(hv 12 10 rfl).trans (hF 12 rfl),trivial⟩ (by kernel_rfl)
 replace s:St w [.blk b8 (.cells (aQ sv.no sv.sec va) 24),.sl (vl4 11) 71 139 [(((fr,iW m,aW),aI):S2)].length (aS [(((fr,iW m,aW),aI):S2)]),(.grp kva (fun w9=>dW w9 vt sv.tb→dW w9 va (lV sv.tb (en m now)))),.blk b11 (.cells (aB (en m now)) 67),.blk b6 (.cells (aP m vs) 31),.blk b4 (.cells (aQ sv.no sv.sec va) 24)] _:=s
 refine aE (wpIn_ret ?_)
 exact cm 0 rfl h s bp rfl rfl (ap _ _ _) rfl rfl (GU rfl rfl (s.sel [1,2] rfl (by decide)))
set_option maxHeartbeats 4000000 in
theorem xu (sv:Sv) (vt:Value) (fr:Int) (m:Mg) (vs:Value) (now:Int) (w:World) (hT:dW w vt sv.tb) (htl:sv.tb.length≤1000) (hV:dM w vs m.l) (hml:m.l.length≤1000) (ha:cC m=true) (hn:0≤now∧now≤1099511627776) (hsz:sv.sec.size≤64) (hH:ff w 0 (wF jp 8)) (hK:ff w 1 (wF iJ 64)):Calls Tryz.prog 47 [.agg (aQ sv.no sv.sec vt),.int .i64 fr,.agg (aP m vs),.int .i64 now].toArray w (cp w (vi w vt vs sv.tb m.l (lj sv fr m now))):=by
 obtain ⟨p1,p2,p3⟩:=In (s:=sv.sec) ha hsz
 obtain ⟨hh1,hh2⟩:=oH (fP ha).1
 refine bF Tryz.func47 rfl Tryz.ntmps47 rfl fun f h s=>qr (aZ (aQ sv.no sv.sec vt) h s rfl rfl rfl fun f w1 b4 h s=>aZ (aP m vs) h s rfl rfl rfl fun f w1 b6 h s=>aK (aQ 0 ByteArray.empty aI) h s ip rfl rfl fun f w1 b8 h s=>e9 ab 2 h rfl fun f h=>bZ ab 1 h rfl fun f h=>ag (V:=.string sv.sec) (ac (aG.of_own s 2 rfl) 1 (rz _ _ _)) h dG rfl rfl fun f h=>ak 1 h s bL rfl rfl (ax _ _) rfl fun f h=>bq h s LT (xj sv.sec (by omega) m vs _ (hV.keep s.ext) hml (hH.keep s.ext) (hK.keep s.ext)) rfl rfl ?_);rintro f w1 v20 ⟨ua,kua,rfl,hG⟩ hE h sq;replace s:=s.add hG;clear hG
 rw [p1,p2,p3] at h
 rw [p3] at s
 have hua1:=bs ((s.getG 0 rfl) (hV.keep s.ext))
 refine am ab 4 h rfl fun f h=>aK (aP mZ aI) h s kQ rfl rfl fun f w1 b12 h s=>am ab 1 h rfl fun f h=>aj 0 h s bL rfl rfl rfl (ax _ _) (ax _ _) (cX _ _ hua1) fun w1 s=>e9 ab 1 h rfl fun f h=>al (bH ab 1 h rfl fun f h=>wpIn_block (al ?_))
 refine aF (cZ ab h rfl (fun j1 f h=>?_) (fun j1 f h=>?_))
 ·refine e9 ab 1 h rfl fun f h=>ij h rfl (al ?_)
  refine aF (cZ ab h rfl (fun j2 f h=>?_) (fun j2 f h=>?_))
  ·refine e9 ab 1 h rfl fun f h=>ij h rfl (al ?_)
   refine aF (cZ ab h rfl (fun j3 f h=>?_) (fun j3 f h=>?_))
   ·refine e9 ab 1 h rfl fun f h=>ij h rfl (wpIn_skip (ba (aE (qr (ak 4 h s bp rfl rfl (ap _ _ _) rfl fun f h=>aj 2 h s bp rfl rfl rfl (ap _ _ _) (ap _ _ _) (bP _ _ (bs hT)) fun w1 s=>e9 ab 2 h rfl fun f h=>wpIn_ret ?_)))))
    exact cm 2 rfl h s bp rfl rfl (ap _ _ _) rfl rfl (BM (HM j1 j2 j3) (s.pick _ (List.nil_sublist _)))
   ·refine e9 ab 1 h rfl fun f h=>cy h rfl (bZ ab 1 h rfl fun f h=>ag (V:=vt) (ac (aG.of_own s 4 rfl) 2 (lZ _ _ _)) h eO rfl rfl fun f h=>am ab 1 h rfl fun f h=>ar (aG.subL (aG.of_own s 3 rfl) 1 32 (D:=aA m.i) (cQ _ _)) h aN rfl (by first|exact ai _|exact ah _ _) rfl fun f h=>am ab 1 h rfl fun f h=>ar (aG.subL (aG.of_own s 3 rfl) 33 34 (D:=bg m.t) (cI _ _)) h bY rfl (aC _) rfl fun f h=>bq h s Ms (A6 sv.tb vt m.i m.t _ (hT.keep s.ext) htl) rfl rfl ?_);rintro f w1 v54 ⟨va,kva,rfl,hG⟩ hE h sq;replace s:=s.add hG;clear hG
    have hva1:=bs ((s.getG 0 rfl) (hT.keep s.ext))
    refine e9 ab 5 h rfl fun f h=>bZ ab 2 h rfl fun f h=>bN 5 h s eO rfl rfl rfl (by rw [ap];omega) (bs (((s.getG 0 rfl) (hT.keep s.ext)))) fun w1 s=>?_
    replace s:=s.recell (D:=aQ sv.no sv.sec va) 5 rfl (rfl)
    refine nt (qr (ak 5 h s bp rfl rfl (ap _ _ _) rfl fun f h=>am ab 1 h rfl fun f h=>aj 3 h s bp rfl rfl rfl (ap _ _ _) (ap _ _ _) (bP _ _ hva1) fun w1 s=>e9 ab 2 h rfl fun f h=>wpIn_ret (ck (bK ?_))))
    exact cm 3 rfl h s bp rfl rfl (ap _ _ _) rfl rfl (Fn (Dw j1 j2 j3) (s.sel [0] rfl (by decide)))
  ·refine e9 ab 1 h rfl fun f h=>cy h rfl (qr (ak 4 h s bp rfl rfl (ap _ _ _) rfl fun f h=>am ab 1 h rfl fun f h=>ak 3 h s bL rfl rfl (ax _ _) rfl fun f h=>am ab 1 h rfl fun f h=>bq h s MQ (ya sv vt fr m vs now _ (hT.keep s.ext) htl (hV.keep s.ext) hml ha hn (yO j2)) rfl rfl ?_));rintro f w1 v41 ⟨tub,ub,Kub,kub,rfl,hub,hG⟩ hE h sq;replace s:=s.add hG;clear hG
   have hub1:=bs (((s.getG 0 rfl) (hT.keep s.ext) (hV.keep s.ext)).1)
   refine am ab 3 h rfl fun f h=>aj 3 h s bp rfl rfl rfl (ap _ _ _) (ap _ _ _) (bP _ _ hub1) fun w1 s=>e9 ab 2 h rfl fun f h=>wpIn_ret (ck (bK ?_))
   exact cm 3 rfl h s bp rfl rfl (ap _ _ _) rfl rfl (by rw [D7 j1 j2];exact ⟨tub,ub,Kub,kub,rfl,hub,s.sel [0] rfl (by decide)⟩)
 ·refine e9 ab 1 h rfl fun f h=>cy h rfl (al ?_)
  replace s:=s.bring 2 rfl
  replace s:St w [.blk b8 (.cells (aQ 0 ByteArray.empty aI) 24),.blk b12 (.cells (aP (dC sv.sec m) ua) 31),(.grp kua (fun w9=>dM w9 vs m.l→dM w9 ua (dC sv.sec m).l)),.blk b6 (.cells (aP m vs) 31),.blk b4 (.cells (aQ sv.no sv.sec vt) 24)] _:=s
  refine mW 1 [[],[],[1],[1,2],[1,2,3],[],[1,2,3,4,5],[1,2,3,4,5,6],[0,1,2,3,4],[0,1,2,3,4,5,6,7,8],[0,1,2,3,4,5,6,7,8,9]] [[],[],[],[],[],[],[],[],[11],[7],[]] [[_]] [.v (.agg (aQ sv.no sv.sec vt)),.v _,.v _,.v (.int .i64 m.t.2.2),.v (.int .i64 (16+m.t.2.2)),.v (.agg (aP (dC sv.sec m) ua)),.v (.agg (dv (16+m.t.2.2) (dC sv.sec m) ua aW)),.m (fun v=>[.sl (v 7) 71 139 [(((16+m.t.2.2,(dC sv.sec m),aW),ua):S2)].length (aS [(((16+m.t.2.2,(dC sv.sec m),aW),ua):S2)])]),.m (fun v=>[.blk b8 (.cells (aQ sv.no sv.sec vt) 24)]),.m (fun v=>[.sl (v 9) 71 139 [(((16+m.t.2.2,(dC sv.sec m),aW),ua):S2)].length (aS [(((16+m.t.2.2,(dC sv.sec m),aW),ua):S2)])]),.v _] _ h s rfl (by kernel_rfl) (by kernel_rfl) (by kernel_rfl) (cF ?_ (iz ab h rfl rfl rfl (iz ab h rfl rfl rfl (cF ?_ (cF ?_ (cF ?_ (cF ?_ (cF ?_ (cF ?_ (cF ?_ (iz ab h rfl rfl rfl (trivial)))))))))))) [0,1,2,3,4,5,6,8,9,10] (by kernel_rfl) ?_
  ·intro f9 w2 vl4 E9 hs9 hd9 hl hF s
   have h:=dh [(4,_)] h hs9 hd9 ⟨gN hl 4 (by kernel_rfl) (h.holds 4 _ rfl),trivial⟩
   refine ak 3 h s bp rfl rfl (ap _ _ _) rfl fun f h=>av ⟨_,bw 27 h rfl rfl,rfl,s⟩
  ·intro f9 w2 vl4 E9 hs9 hd9 hl hF s
   have h:=dh [(29,_)] h hs9 hd9 ⟨bu hl 29 2 (by kernel_rfl) (hF 2 (by decide)),trivial⟩
   refine ag (ac (aG.of_own s 2 rfl) 66 (pJ _ _)) h bo rfl rfl fun f h=>av ⟨_,bw 30 h rfl rfl,rfl,s⟩
  ·intro f9 w2 vl4 E9 hs9 hd9 hl hF s
   have h:=dh [(30,_)] h hs9 hd9 ⟨bu hl 30 3 (by kernel_rfl) (hF 3 (by decide)),trivial⟩
   refine c7 h s wa (jO m.t.2.2 _ (by omega)) rfl rfl fun f w1 h s=>av ⟨_,bw 31 h rfl rfl,rfl,s⟩
  ·intro f9 w2 vl4 E9 hs9 hd9 hl hF s
   have h:=dh [(12,_)] h hs9 hd9 ⟨gN hl 12 (by kernel_rfl) (h.holds 12 _ rfl),trivial⟩
   refine ak 0 h s bL rfl rfl (ax _ _) rfl fun f h=>av ⟨_,bw 32 h rfl rfl,rfl,s⟩
  ·intro f9 w2 vl4 E9 hs9 hd9 hl hF s
   have h:=dh [(31,_),(32,_)] h hs9 hd9 ⟨bu hl 31 4 (by kernel_rfl) (hF 4 (by decide)),bu hl 32 5 (by kernel_rfl) (hF 5 (by decide)),trivial⟩
   refine ae h (gz qk (h.ev rfl) (h.ev rfl)) rfl fun f h=>av ⟨_,bw 33 h rfl rfl,rfl,s⟩
  ·intro f9 w2 vl4 E9 hs9 hd9 hl hF s
   have h:=dh [(33,_)] h hs9 hd9 ⟨bu hl 33 6 (by kernel_rfl) (hF 6 (by decide)),trivial⟩
   refine bn (vs:=[.agg (dv (16+m.t.2.2) (dC sv.sec m) ua aW)]) [.tmp 33] h s Tryz.underlying34 kW rfl rfl (qg (((16+m.t.2.2,(dC sv.sec m),aW),ua):S2)) rfl rfl rfl fun f w1 v34 h s=>?_
   replace s:=s.resl (m:=[(((16+m.t.2.2,(dC sv.sec m),aW),ua):S2)].length) (ys:=aS [(((16+m.t.2.2,(dC sv.sec m),aW),ua):S2)]) 0 rfl rfl (by exact mR [] (((16+m.t.2.2,(dC sv.sec m),aW),ua):S2))
   exact av ⟨_,bw 34 h rfl rfl,trivial,s⟩
  ·intro f9 w2 vl4 E9 hs9 hd9 hl hF s
   have h:=dh [(8,_),(27,_)] h hs9 hd9 ⟨gN hl 8 (by kernel_rfl) (h.holds 8 _ rfl),bu hl 27 0 (by kernel_rfl) (hF 0 (by decide)),trivial⟩
   refine aj 0 h s bp rfl rfl rfl (ap _ _ _) (ap _ _ _) (bP _ _ (bs hT)) fun w1 s=>av ⟨undef,iL rfl,trivial,s⟩
  ·intro f9 w2 vl4 E9 hs9 hd9 hl hF s
   have e34:f9.tmps.getD 34 undef=(vl4 7):=dK hl 34 7 (by kernel_rfl) (by kernel_rfl)
   have h:=aD [(34,(vl4 7))] (hs9.trans h.size) (hd9.trans h.defers) (holds_lk ⟨e34,trivial⟩)
   refine am ab 1 h rfl fun f h=>av ⟨_,bw 9 h rfl rfl,trivial,s⟩
  intro f w1 vl4 hs9 hd9 hv hr hF s
  replace h:=ly (ops:=_) [(27,_),(28,_),(29,_),(30,_),(31,_),(32,_),(33,_),(34,(vl4 7)),(9,(vl4 9)),(10,_)] h hs9 hd9 hr ⟨(hv 0 27 rfl).trans (hF 0 rfl),(hv 1 28 rfl).trans (hF 1 rfl),(hv 2 29 rfl).trans (hF 2 rfl),(hv 3 30 rfl).trans (hF 3 rfl),(hv 4 31 rfl).trans (hF 4 rfl),(hv 5 32 rfl).trans (hF 5 rfl),(hv 6 33 rfl).trans (hF 6 rfl),hv 7 34 rfl,hv 9 9 rfl,(hv 10 10 rfl).trans (hF 10 rfl),trivial⟩ (by kernel_rfl)
  replace s:St w [.blk b8 (.cells (aQ sv.no sv.sec vt) 24),.sl (vl4 9) 71 139 [(((16+m.t.2.2,(dC sv.sec m),aW),ua):S2)].length (aS [(((16+m.t.2.2,(dC sv.sec m),aW),ua):S2)]),.blk b12 (.cells (aP (dC sv.sec m) ua) 31),(.grp kua (fun w9=>dM w9 vs m.l→dM w9 ua (dC sv.sec m).l)),.blk b6 (.cells (aP m vs) 31),.blk b4 (.cells (aQ sv.no sv.sec vt) 24)] _:=s
  refine aE (wpIn_ret (ck (bK ?_)))
  exact cm 0 rfl h s bp rfl rfl (ap _ _ _) rfl rfl (HC (Ie j1) (s.sel [1,3] rfl (by decide)))
set_option maxHeartbeats 8000000 in
theorem uG (sv:Sv) (vt:Value) (fr:Int) (m:Mg) (vs:Value) (w:World) (hT:dW w vt sv.tb) (htl:sv.tb.length≤1000) (hV:dM w vs m.l) (hml:m.l.length≤1000) (hr:dJ sv=true) (hM:bD m=true) (hk1:m.k=1):Calls Tryz.prog 48 [.agg (aQ sv.no sv.sec vt),.int .i64 fr,.agg (aP m vs)].toArray w (cp w (Pf w vs m.l (iG sv fr m))):=by
 have hpk:=ig hM hk1
 have hrt:=(dz.1 hr).2.2.2
 obtain ⟨hl1,hfk⟩:=dT hpk
 obtain ⟨_,hh1,hh2,_⟩:=dI.1 hpk
 replace hl1:1≤m.l.length:=hl1
 obtain ⟨e0,l0⟩:=CE (t:=sv.tb) hpk hrt
 refine bF Tryz.func48 rfl Tryz.ntmps48 rfl fun f h s=>qr (aZ (aQ sv.no sv.sec vt) h s rfl rfl rfl fun f w1 b3 h s=>aZ (aP m vs) h s rfl rfl rfl fun f w1 b5 h s=>e9 ab 1 h rfl fun f h=>bZ ab 2 h rfl fun f h=>ag (V:=vs) (ac (aG.of_own s 0 rfl) 67 (dq _ _)) h cG rfl rfl fun f h=>am ab 2 h rfl fun f h=>ag (V:=.int .i64 m.n) (ac (aG.of_own s 0 rfl) 68 (ee _ _)) h bo rfl rfl fun f h=>ae h (aV (.int .i64 (min m.n 64)) (lU (h.ev rfl) (h.ev rfl)) (congrArg (Value.int .i64) (by split<;>omega))) rfl fun f h=>am ab 2 h rfl fun f h=>ag (V:=.string m.d) (ac (aG.of_own s 0 rfl) 70 (fx _ _)) h dG rfl rfl fun f h=>ae h (iD E3 (gx (hV.keep s.ext)) (eR (hV.keep s.ext)) (h.ev rfl) (h.ev rfl) (h.ev rfl)) rfl fun f h=>aK (bO aI 0 ByteArray.empty) h s sM rfl rfl fun f w1 b7 h s=>aj 0 h s fc rfl rfl rfl (cf _ _ _) (cf _ _ _) (kR _ _ (bs (hV.keep s.ext))) fun w1 s=>nt (bZ ab 1 h rfl fun f h=>ag (V:=vt) (ac (aG.of_own s 2 rfl) 2 (lZ _ _ _)) h eO rfl rfl fun f h=>ak 0 h s fc rfl rfl (cf _ _ _) rfl fun f h=>bq h s LE (AP sv.tb vt (bJ m) vs _ (hT.keep s.ext) htl (hV.keep s.ext) hml) rfl rfl ?_));rintro f w1 v31 ⟨uo,K,kb,rfl,hKb,hG⟩ hE h sq;replace s:=s.add hG;clear hG
 rw [l0] at hKb
 have hKn:K.length≤1000:=by have h9:=(qs (t:=sv.tb) (p:=(bJ m))).2;rw [← hKb,fi] at h9;omega
 refine e9 ab 5 h rfl fun f h=>qr (ak 2 h s BL rfl rfl (ax _ _) rfl fun f h=>c7 h s Ej (qP m vs _ (hV.keep s.ext) hml hl1) rfl rfl fun f w1 h s=>am ab 3 h rfl fun f h=>aK (aA 0#256) h s dS rfl rfl fun f w1 b10 h s=>aj 0 h s aN rfl rfl rfl (by first|exact ai _|exact ah _ _) (by first|exact ai _|exact ah _ _) (by first|exact bE _|exact bc _ _) fun w1 s=>e9 ab 1 h rfl fun f h=>bZ ab 1 h rfl fun f h=>c7 h s wa (bG (.int .i64 16) (jO 0 _ (by omega)) (rfl)) rfl rfl fun f w1 h s=>qh ab (.bool (decide (16≤fr))) h rfl (rfl) rfl fun f h=>e9 ab 1 h rfl fun f h=>bH ab 1 h rfl fun f h=>al (bZ ab 1 h rfl fun f h=>dN h (((s.getG 1 rfl) (hV.keep s.ext)).1) Tryz.underlying104 rfl rfl fun f h=>?_))
 replace s:=s.nilSl 71 139
 refine e9 ab 1 h rfl fun f h=>wpIn_block (wpIn_loop_ghost (fun nn aa ww=>∃ k:Nat,∃ ul:Value,∃ KS:List S2,Sl 115 aa [(0,.agg (aQ sv.no sv.sec vt)),(2,.agg (aP m vs)),(3,.pointer (some ⟨b3,0,none⟩)),(5,.pointer (some ⟨b5,0,none⟩)),(7,.pointer (some ⟨b7,0,none⟩)),(10,.pointer (some ⟨b10,0,none⟩)),(1,.int .i64 fr),(11,.bool (decide ((bk (bJ m)).1=1))),(12,.bool (decide (16≤fr))),(13,ul),(42,uo),(43,.int .i64 (K.length:Int)),(44,.int .i64 (k:Int))]∧St w [.sl ul 71 139 KS.length (aS KS),.blk b10 (.cells (aA (bk (bJ m)).2.1) 26),(.grp kb (fun w9=>dM w9 vs (bJ m).1→Bi w9 uo K)),.blk b7 (.cells (bO vs (min m.n 64) m.d) 103),.blk b5 (.cells (aP m vs) 95),.blk b3 (.cells (aQ sv.no sv.sec vt) 24)] ww∧nn=K.length - k∧k≤K.length∧cJ KS=j5 fr (bJ m) ((eN K).take k)∧(∀ w9,kM K w9→kr KS w9)∧KS.length≤k) (K.length - (0)) ⟨0,aI,[],h.only ⟨rfl,rfl,rfl,rfl,rfl,rfl,rfl,rfl,rfl,rfl,rfl,rfl,aq rfl (by omega),trivial⟩,s.as ⟨rfl,rfl,rfl,rfl,rfl,rfl,trivial⟩,rfl,Nat.zero_le _,rfl,fun w9 _=>ja w9,Nat.le_refl _⟩ ?_)
 rintro _ f w1 ⟨k,ul,KS,h,s,hnn,hp0,hp1,hp2,hp3⟩
 refine bH ab 1 h rfl fun f h=>al (cV h rfl (fun hc=>?_) (fun hc=>?_))
 ·refine kt (al (wpIn_block (qr ?_)))
  have hkk:k<K.length:=by omega
  have hmo:(K.getD k aX).1∈cL sv.tb (bJ m):=by rw [← hKb];exact List.mem_map.2 ⟨_,cO hkk,rfl⟩
  refine ae h (a7 (((s.getG 2 rfl) (hV.keep s.ext)).1) (k) Tryz.underlying104 Ch (h.ev rfl) (h.ev rfl) (by omega) (by omega)) rfl fun f h=>ar ((((s.getG 2 rfl) (hV.keep s.ext)).1).el (k) (by omega) (by decide) (D:=cu (K.getD k aX).1.k (K.getD k aX).1.h (K.getD k aX).2 (K.getD k aX).1.p.2.1 (K.getD k aX).1.p.2.2 (K.getD k aX).1.t (K.getD k aX).1.y) (Ia K k hkk)) h lJ rfl (dH _ _ _ _ _ _ _) rfl fun f h=>aK (cu 0 0 aI 0 ByteArray.empty aW 0) h s pK rfl rfl fun f w1 b15 h s=>aj 0 h s lJ rfl rfl rfl (dH _ _ _ _ _ _ _) (dH _ _ _ _ _ _ _) (eE _ _ _ _ _ _ (bs ((((s.getG 3 rfl) (hV.keep s.ext)).2 _ (cO hkk))))) fun w1 s=>nt (wpIn_block (al ?_))
  refine rs ab 1 h rfl fun f h=>ag (V:=.int .i64 (K.getD k aX).1.k) (ac (aG.of_own s 0 rfl) 0 (oc _ _ _ _ _ _ _)) h bo rfl rfl fun f h=>cZ ab h rfl (fun k1 f h=>?_) (fun k1 f h=>?_)
  ·refine e9 ab 1 h rfl fun f h=>ij h rfl (al ?_)
   refine rs ab 1 h rfl fun f h=>ag (V:=.int .i64 (K.getD k aX).1.k) (ac (aG.of_own s 0 rfl) 0 (oc _ _ _ _ _ _ _)) h bo rfl rfl fun f h=>cZ ab h rfl (fun k2 f h=>?_) (fun k2 f h=>?_)
   ·refine e9 ab 1 h rfl fun f h=>ij h rfl (al ?_)
    refine rs ab 1 h rfl fun f h=>ag (V:=.int .i64 (K.getD k aX).1.y) (ac (aG.of_own s 0 rfl) 72 (MJ _ _ _ _ _ _ _)) h nG rfl rfl fun f h=>cZ ab h rfl (fun k4 f h=>?_) (fun k4 f h=>?_)
    ·refine e9 ab 4 h rfl fun f h=>ij h rfl (wpIn_skip (ba (ba (aE (aF (ae h (a6 (h.ev rfl) (h.ev rfl) (by omega)) rfl fun f h=>?_))))))
     replace s:=s.nilSl 71 139
     refine e9 ab 1 h rfl fun f h=>?_
     obtain ⟨hs8,hs9⟩:=L7 (fr:=fr) (p:=(bJ m)) k1 k2 k4
     exact ⟨_,by omega,⟨k+1,ul,KS,h.only ⟨rfl,rfl,rfl,rfl,rfl,rfl,rfl,rfl,rfl,rfl,rfl,rfl,aq rfl (by omega),trivial⟩,St.as (s.pick _ (List.Sublist.cons _ (List.Sublist.cons _ (List.Sublist.cons_cons _ (List.Sublist.cons_cons _ (List.Sublist.cons_cons _ (List.Sublist.cons_cons _ (List.Sublist.cons_cons _ (List.Sublist.cons_cons _ (List.nil_sublist _)))))))))) ⟨rfl,rfl,rfl,rfl,rfl,rfl,trivial⟩,rfl,by omega,pF hkk hp1 hs8,hp2,Nat.le_succ_of_le hp3⟩⟩
    ·skip
     refine am ab 1 h rfl fun f h=>bf h rfl (cZ ab h rfl (fun k5 f h=>?_) (fun k5 f h=>?_))
     ·refine e9 ab 2 h rfl fun f h=>ij h rfl (wpIn_skip (ba (ba (aE (aF (ae h (a6 (h.ev rfl) (h.ev rfl) (by omega)) rfl fun f h=>?_))))))
      replace s:=s.nilSl 71 139
      refine e9 ab 1 h rfl fun f h=>?_
      obtain ⟨hs8,hs9⟩:=Mi (fr:=fr) (p:=(bJ m)) k1 k2 k5
      exact ⟨_,by omega,⟨k+1,ul,KS,h.only ⟨rfl,rfl,rfl,rfl,rfl,rfl,rfl,rfl,rfl,rfl,rfl,rfl,aq rfl (by omega),trivial⟩,St.as (s.pick _ (List.Sublist.cons _ (List.Sublist.cons _ (List.Sublist.cons_cons _ (List.Sublist.cons_cons _ (List.Sublist.cons_cons _ (List.Sublist.cons_cons _ (List.Sublist.cons_cons _ (List.Sublist.cons_cons _ (List.nil_sublist _)))))))))) ⟨rfl,rfl,rfl,rfl,rfl,rfl,trivial⟩,rfl,by omega,pF hkk hp1 hs8,hp2,Nat.le_succ_of_le hp3⟩⟩
     ·refine e9 ab 2 h rfl fun f h=>cy h rfl (aF ?_)
      have hon9:∀ u∈aS [(((fr,(iA (gG (bJ m))),aW),aI):S2)],u.oneCell'=true:=iI (oZ (fF w rfl rfl))
      refine am ab 2 h rfl fun f h=>ak 2 h s aN rfl rfl (by first|exact ai _|exact ah _ _) rfl fun f h=>ae h (nO li rfl (h.ev rfl)) rfl fun f h=>ae h (gz qk (h.ev rfl) (h.ev rfl)) rfl fun f h=>bn (vs:=[.agg (dv fr (iA (gG (bJ m))) aI aW)]) [.tmp 92] h s Tryz.underlying34 kW rfl rfl (qg (((fr,(iA (gG (bJ m))),aW),aI):S2)) rfl rfl rfl fun f w1 v93 h s=>?_
      replace s:=s.resl (m:=[(((fr,(iA (gG (bJ m))),aW),aI):S2)].length) (ys:=aS [(((fr,(iA (gG (bJ m))),aW),aI):S2)]) 0 rfl rfl (by exact mR [] (((fr,(iA (gG (bJ m))),aW),aI):S2))
      refine cq 2 0 h s Tryz.underlying34 kW rfl rfl rfl rfl (Nat.le_refl _) (hon9) (by show KS.length+1≤_;unfold maxLen;omega) (by show (KS.length+1)*_≤_;omega) rfl fun f w1 v94 h s=>?_
      replace s:=s.pick _ (List.sublist_cons_self _ _)
      replace s:=s.resl (m:=(KS++[(((fr,(iA (gG (bJ m))),aW),aI):S2)]).length) (ys:=aS (KS++[(((fr,(iA (gG (bJ m))),aW),aI):S2)])) 1 rfl (List.length_append ..).symm (ic ..).symm
      refine am ab 1 h rfl fun f h=>av (ba (ba (aE (aF (ae h (a6 (h.ev rfl) (h.ev rfl) (by omega)) rfl fun f h=>?_)))))
      replace s:=s.nilSl 71 139
      refine e9 ab 1 h rfl fun f h=>?_
      obtain ⟨hs8,hs9⟩:=MG (fr:=fr) (p:=(bJ m)) k1 k2 (by have:=ms hmo;have:=of_decide_eq_false k1;have:=of_decide_eq_false k2;omega) k4 k5
      exact ⟨_,by omega,⟨k+1,v94,(KS++[(((fr,(iA (gG (bJ m))),aW),aI):S2)]),h.only ⟨rfl,rfl,rfl,rfl,rfl,rfl,rfl,rfl,rfl,rfl,rfl,rfl,aq rfl (by omega),trivial⟩,St.as (s.pick _ (List.Sublist.cons _ (List.Sublist.cons _ (List.Sublist.cons_cons _ (List.Sublist.cons_cons _ (List.Sublist.cons_cons _ (List.Sublist.cons_cons _ (List.Sublist.cons_cons _ (List.Sublist.cons_cons _ (List.nil_sublist _)))))))))) ⟨rfl,rfl,rfl,rfl,rfl,rfl,trivial⟩,rfl,by omega,mQ hkk hp1 hs8,km hp2 (fun w9 h9=>fF w9 rfl rfl),iQ hp3⟩⟩
   ·refine e9 ab 1 h rfl fun f h=>cy h rfl ?_
    have hx:=j6 hpk hrt hmo (of_decide_eq_true k2)
    have hx1:=(dT hx.1).1
    have hon9:∀ u∈aS [((((iB (bk (K.getD k aX).1.p)),(bQ (K.getD k aX).1.p),(K.getD k aX).1.t),(K.getD k aX).2):S2)],u.oneCell'=true:=iI (oZ (((s.getG 3 rfl) (hV.keep s.ext)).2 _ (cO hkk)))
    replace s:=s.bring 1 rfl
    replace s:St w [.sl ul 71 139 KS.length (aS KS),.blk b15 (.cells (cu (K.getD k aX).1.k (K.getD k aX).1.h (K.getD k aX).2 (K.getD k aX).1.p.2.1 (K.getD k aX).1.p.2.2 (K.getD k aX).1.t (K.getD k aX).1.y) 107),.blk b10 (.cells (aA (bk (bJ m)).2.1) 26),(.grp kb (fun w9=>dM w9 vs (bJ m).1→Bi w9 uo K)),.blk b7 (.cells (bO vs (min m.n 64) m.d) 103),.blk b5 (.cells (aP m vs) 95),.blk b3 (.cells (aQ sv.no sv.sec vt) 24)] _:=s
    refine mW 1 [[],[],[1],[1,2],[1,2,3],[1,2,3,4],[1,2,3,4,5],[],[7],[1,2,3,4,5,6,7,8],[],[10],[1,2,3,4,5,6,7,8,9,10,11],[1,2,3,4,5,6,7,8,9,10,11,12],[0,1,2,3,4,5,6,7,8,9,10,11,12,13],[0,1,2,3,4,5,6,7,8,9,10,11,12,13,14]] [[16],[],[],[],[],[],[],[],[],[],[],[],[],[],[0,13],[14]] [[_]] [.m (fun v=>[.sl (v 0) 71 139 KS.length (aS KS)]),.v _,.v _,.v ((K.getD k aX).2),.v (.pointer (some (dy (K.getD k aX).2 (0*34)))),.v (.agg (bg (bk (K.getD k aX).1.p))),.v (.int .i64 (iB (bk (K.getD k aX).1.p))),.v _,.v (.agg (bO (K.getD k aX).2 (K.getD k aX).1.p.2.1 (K.getD k aX).1.p.2.2)),.v (.agg (aP (bQ (K.getD k aX).1.p) (K.getD k aX).2)),.v _,.v (.agg (aB (K.getD k aX).1.t)),.v (.agg (dv (iB (bk (K.getD k aX).1.p)) (bQ (K.getD k aX).1.p) (K.getD k aX).2 (K.getD k aX).1.t)),.m (fun v=>[.sl (v 13) 71 139 [((((iB (bk (K.getD k aX).1.p)),(bQ (K.getD k aX).1.p),(K.getD k aX).1.t),(K.getD k aX).2):S2)].length (aS [((((iB (bk (K.getD k aX).1.p)),(bQ (K.getD k aX).1.p),(K.getD k aX).1.t),(K.getD k aX).2):S2)])]),.m (fun v=>[.sl (v 14) 71 139 (KS++[((((iB (bk (K.getD k aX).1.p)),(bQ (K.getD k aX).1.p),(K.getD k aX).1.t),(K.getD k aX).2):S2)]).length (aS (KS++[((((iB (bk (K.getD k aX).1.p)),(bQ (K.getD k aX).1.p),(K.getD k aX).1.t),(K.getD k aX).2):S2)]))]),.m (fun v=>[.sl (v 15) 71 139 (KS++[((((iB (bk (K.getD k aX).1.p)),(bQ (K.getD k aX).1.p),(K.getD k aX).1.t),(K.getD k aX).2):S2)]).length (aS (KS++[((((iB (bk (K.getD k aX).1.p)),(bQ (K.getD k aX).1.p),(K.getD k aX).1.t),(K.getD k aX).2):S2)]))])] _ h s rfl (by kernel_rfl) (by kernel_rfl) (by kernel_rfl) (cF ?_ (iz ab h rfl rfl rfl (iz ab h rfl rfl rfl (cF ?_ (cF ?_ (cF ?_ (cF ?_ (iz ab h rfl rfl rfl (cF ?_ (cF ?_ (iz ab h rfl rfl rfl (cF ?_ (cF ?_ (cF ?_ (cF ?_ (cF ?_ (trivial))))))))))))))))) [1,2,3,4,5,6,7,8,9,10,11,12,15] (by kernel_rfl) ?_
    ·intro f9 w2 vl12 E9 hs9 hd9 hl hF s
     have h:=dh [(13,_)] h hs9 hd9 ⟨gN hl 13 (by kernel_rfl) (h.holds 13 _ rfl),trivial⟩
     refine am ab 1 h rfl fun f h=>av ⟨_,bw 66 h rfl rfl,trivial,s⟩
    ·intro f9 w2 vl12 E9 hs9 hd9 hl hF s
     have h:=dh [(68,_)] h hs9 hd9 ⟨bu hl 68 2 (by kernel_rfl) (hF 2 (by decide)),trivial⟩
     refine ag (V:=(K.getD k aX).2) (ac (aG.of_own s 0 rfl) 2 (z4 _ _ _ _ _ _ _)) h cG rfl rfl fun f h=>av ⟨_,bw 69 h rfl rfl,rfl,s⟩
    ·intro f9 w2 vl12 E9 hs9 hd9 hl hF s
     have h:=dh [(69,_)] h hs9 hd9 ⟨bu hl 69 3 (by kernel_rfl) (hF 3 (by decide)),trivial⟩
     refine ae h (a7 ((((s.getG 2 rfl) (hV.keep s.ext)).2 _ (cO hkk))) (0) Tryz.underlying29 fp (h.ev rfl) (h.ev rfl) (rfl) (by omega)) rfl fun f h=>av ⟨_,bw 70 h rfl rfl,rfl,s⟩
    ·intro f9 w2 vl12 E9 hs9 hd9 hl hF s
     have h:=dh [(70,_)] h hs9 hd9 ⟨bu hl 70 4 (by kernel_rfl) (hF 4 (by decide)),trivial⟩
     refine ar (((((s.getG 2 rfl) (hV.keep s.ext)).2 _ (cO hkk))).el (0) (by omega) (by decide) (D:=bg (bk (K.getD k aX).1.p)) (pX (K.getD k aX).1.p.1 0 (by omega))) h bY rfl (aC _) rfl fun f h=>av ⟨_,bw 71 h rfl rfl,rfl,s⟩
    ·intro f9 w2 vl12 E9 hs9 hd9 hl hF s
     have h:=dh [(71,_)] h hs9 hd9 ⟨bu hl 71 5 (by kernel_rfl) (hF 5 (by decide)),trivial⟩
     refine c7 h s LW (Dc (bk (K.getD k aX).1.p) _ (fun e2=>qY hx.1 e2)) rfl rfl fun f w1 h s=>av ⟨_,bw 72 h rfl rfl,rfl,s⟩
    ·intro f9 w2 vl12 E9 hs9 hd9 hl hF s
     have h:=dh [(73,_)] h hs9 hd9 ⟨bu hl 73 7 (by kernel_rfl) (hF 7 (by decide)),trivial⟩
     refine ar (aG.subL (aG.of_own s 0 rfl) 2 3 (D:=bO (K.getD k aX).2 (K.getD k aX).1.p.2.1 (K.getD k aX).1.p.2.2) (Cw _ _ _ _ _ _ _)) h fc rfl (cf _ _ _) rfl fun f h=>av ⟨_,bw 74 h rfl rfl,rfl,s⟩
    ·intro f9 w2 vl12 E9 hs9 hd9 hl hF s
     have h:=dh [(74,_)] h hs9 hd9 ⟨bu hl 74 8 (by kernel_rfl) (hF 8 (by decide)),trivial⟩
     refine c7 h s Il (sk (K.getD k aX).1.p (K.getD k aX).2 _ (((s.getG 2 rfl) (hV.keep s.ext)).2 _ (cO hkk))) rfl rfl fun f w1 h s=>av ⟨_,bw 75 h rfl rfl,rfl,s⟩
    ·intro f9 w2 vl12 E9 hs9 hd9 hl hF s
     have h:=dh [(76,_)] h hs9 hd9 ⟨bu hl 76 10 (by kernel_rfl) (hF 10 (by decide)),trivial⟩
     refine ar (aG.subL (aG.of_own s 0 rfl) 5 67 (D:=aB (K.getD k aX).1.t) (Jc _ _ _ _ _ _ _)) h a8 rfl (ao _) rfl fun f h=>av ⟨_,bw 77 h rfl rfl,rfl,s⟩
    ·intro f9 w2 vl12 E9 hs9 hd9 hl hF s
     have h:=dh [(72,_),(75,_),(77,_)] h hs9 hd9 ⟨bu hl 72 6 (by kernel_rfl) (hF 6 (by decide)),bu hl 75 9 (by kernel_rfl) (hF 9 (by decide)),bu hl 77 11 (by kernel_rfl) (hF 11 (by decide)),trivial⟩
     refine ae h (oT qk (h.ev rfl) (h.ev rfl) (h.ev rfl)) rfl fun f h=>av ⟨_,bw 78 h rfl rfl,rfl,s⟩
    ·intro f9 w2 vl12 E9 hs9 hd9 hl hF s
     have h:=dh [(78,_)] h hs9 hd9 ⟨bu hl 78 12 (by kernel_rfl) (hF 12 (by decide)),trivial⟩
     refine bn (vs:=[.agg (dv (iB (bk (K.getD k aX).1.p)) (bQ (K.getD k aX).1.p) (K.getD k aX).2 (K.getD k aX).1.t)]) [.tmp 78] h s Tryz.underlying34 kW rfl rfl (qg ((((iB (bk (K.getD k aX).1.p)),(bQ (K.getD k aX).1.p),(K.getD k aX).1.t),(K.getD k aX).2):S2)) rfl rfl rfl fun f w1 v79 h s=>?_
     replace s:=s.resl (m:=[((((iB (bk (K.getD k aX).1.p)),(bQ (K.getD k aX).1.p),(K.getD k aX).1.t),(K.getD k aX).2):S2)].length) (ys:=aS [((((iB (bk (K.getD k aX).1.p)),(bQ (K.getD k aX).1.p),(K.getD k aX).1.t),(K.getD k aX).2):S2)]) 0 rfl rfl (by exact mR [] ((((iB (bk (K.getD k aX).1.p)),(bQ (K.getD k aX).1.p),(K.getD k aX).1.t),(K.getD k aX).2):S2))
     exact av ⟨_,bw 79 h rfl rfl,trivial,s⟩
    ·intro f9 w2 vl12 E9 hs9 hd9 hl hF s
     have e66:f9.tmps.getD 66 undef=(vl12 0):=dK hl 66 0 (by kernel_rfl) (by kernel_rfl)
     have e79:f9.tmps.getD 79 undef=(vl12 13):=dK hl 79 13 (by kernel_rfl) (by kernel_rfl)
     have h:=aD [(66,(vl12 0)),(79,(vl12 13))] (hs9.trans h.size) (hd9.trans h.defers) (holds_lk ⟨e66,e79,trivial⟩)
     refine cq 0 1 h s Tryz.underlying34 kW rfl rfl rfl rfl (Nat.le_refl _) (hon9) (by show KS.length+1≤_;unfold maxLen;omega) (by show (KS.length+1)*_≤_;omega) rfl fun f w1 v80 h s=>?_
     replace s:=s.resl (m:=(KS++[((((iB (bk (K.getD k aX).1.p)),(bQ (K.getD k aX).1.p),(K.getD k aX).1.t),(K.getD k aX).2):S2)]).length) (ys:=aS (KS++[((((iB (bk (K.getD k aX).1.p)),(bQ (K.getD k aX).1.p),(K.getD k aX).1.t),(K.getD k aX).2):S2)])) 0 rfl (List.length_append ..).symm (ic ..).symm
     exact av ⟨_,bw 80 h rfl rfl,trivial,(s.pick _ (List.Sublist.cons_cons _ (List.Sublist.cons _ (List.Sublist.cons_cons _ (List.Sublist.cons_cons _ (List.Sublist.cons_cons _ (List.Sublist.cons_cons _ (List.Sublist.cons_cons _ (List.Sublist.cons_cons _ (List.Sublist.refl _))))))))))⟩
    ·intro f9 w2 vl12 E9 hs9 hd9 hl hF s
     have e80:f9.tmps.getD 80 undef=(vl12 14):=dK hl 80 14 (by kernel_rfl) (by kernel_rfl)
     have h:=aD [(80,(vl12 14))] (hs9.trans h.size) (hd9.trans h.defers) (holds_lk ⟨e80,trivial⟩)
     refine am ab 1 h rfl fun f h=>av ⟨_,bw 13 h rfl rfl,trivial,s⟩
    intro f w1 vl12 hs9 hd9 hv hr hF s
    replace h:=ly (ops:=_) [(66,(vl12 0)),(67,_),(68,_),(69,_),(70,_),(71,_),(72,_),(73,_),(74,_),(75,_),(76,_),(77,_),(78,_),(79,(vl12 13)),(80,(vl12 14)),(13,(vl12 15))] h hs9 hd9 hr ⟨hv 0 66 rfl,(hv 1 67 rfl).trans (hF 1 rfl),(hv 2 68 rfl).trans (hF 2 rfl),(hv 3 69 rfl).trans (hF 3 rfl),(hv 4 70 rfl).trans (hF 4 rfl),(hv 5 71 rfl).trans (hF 5 rfl),(hv 6 72 rfl).trans (hF 6 rfl),(hv 7 73 rfl).trans (hF 7 rfl),(hv 8 74 rfl).trans (hF 8 rfl),(hv 9 75 rfl).trans (hF 9 rfl),(hv 10 76 rfl).trans (hF 10 rfl),(hv 11 77 rfl).trans (hF 11 rfl),(hv 12 78 rfl).trans (hF 12 rfl),hv 13 79 rfl,hv 14 80 rfl,hv 15 13 rfl,trivial⟩ (by kernel_rfl)
    replace s:St w [.sl (vl12 15) 71 139 (KS++[((((iB (bk (K.getD k aX).1.p)),(bQ (K.getD k aX).1.p),(K.getD k aX).1.t),(K.getD k aX).2):S2)]).length (aS (KS++[((((iB (bk (K.getD k aX).1.p)),(bQ (K.getD k aX).1.p),(K.getD k aX).1.t),(K.getD k aX).2):S2)])),.blk b15 (.cells (cu (K.getD k aX).1.k (K.getD k aX).1.h (K.getD k aX).2 (K.getD k aX).1.p.2.1 (K.getD k aX).1.p.2.2 (K.getD k aX).1.t (K.getD k aX).1.y) 107),.blk b10 (.cells (aA (bk (bJ m)).2.1) 26),(.grp kb (fun w9=>dM w9 vs (bJ m).1→Bi w9 uo K)),.blk b7 (.cells (bO vs (min m.n 64) m.d) 103),.blk b5 (.cells (aP m vs) 95),.blk b3 (.cells (aQ sv.no sv.sec vt) 24)] _:=s
    refine ba (ba (aE (aF (ae h (a6 (h.ev rfl) (h.ev rfl) (by omega)) rfl fun f h=>?_))))
    replace s:=s.nilSl 71 139
    refine e9 ab 1 h rfl fun f h=>?_
    obtain ⟨hs8,hs9⟩:=O1 (fr:=fr) (p:=(bJ m)) k1 k2
    exact ⟨_,by omega,⟨k+1,(vl12 15),(KS++[((((iB (bk (K.getD k aX).1.p)),(bQ (K.getD k aX).1.p),(K.getD k aX).1.t),(K.getD k aX).2):S2)]),h.only ⟨rfl,rfl,rfl,rfl,rfl,rfl,rfl,rfl,rfl,rfl,rfl,rfl,aq rfl (by omega),trivial⟩,St.as (s.pick _ (List.Sublist.cons _ (List.Sublist.cons_cons _ (List.Sublist.cons _ (List.Sublist.cons_cons _ (List.Sublist.cons_cons _ (List.Sublist.cons_cons _ (List.Sublist.cons_cons _ (List.Sublist.cons_cons _ (List.nil_sublist _)))))))))) ⟨rfl,rfl,rfl,rfl,rfl,rfl,trivial⟩,rfl,by omega,mQ hkk hp1 hs8,km hp2 (fun w9 h9=>h9 _ (cO hkk)),iQ hp3⟩⟩
  ·refine e9 ab 1 h rfl fun f h=>cy h rfl ?_
   have hon9:∀ u∈aS [((((16+(K.getD k aX).1.h),(bQ (K.getD k aX).1.p),aW),(K.getD k aX).2):S2)],u.oneCell'=true:=iI (oZ (((s.getG 3 rfl) (hV.keep s.ext)).2 _ (cO hkk)))
   replace s:=s.bring 1 rfl
   replace s:St w [.sl ul 71 139 KS.length (aS KS),.blk b15 (.cells (cu (K.getD k aX).1.k (K.getD k aX).1.h (K.getD k aX).2 (K.getD k aX).1.p.2.1 (K.getD k aX).1.p.2.2 (K.getD k aX).1.t (K.getD k aX).1.y) 107),.blk b10 (.cells (aA (bk (bJ m)).2.1) 26),(.grp kb (fun w9=>dM w9 vs (bJ m).1→Bi w9 uo K)),.blk b7 (.cells (bO vs (min m.n 64) m.d) 103),.blk b5 (.cells (aP m vs) 95),.blk b3 (.cells (aQ sv.no sv.sec vt) 24)] _:=s
   refine mW 1 [[],[],[1],[1,2],[],[4],[1,2,3,4,5],[1,2,3,4,5,6],[1,2,3,4,5,6,7],[0,1,2,3,4,5,6,7,8],[0,1,2,3,4,5,6,7,8,9]] [[11],[],[],[],[],[],[],[],[],[0,8],[9]] [[_]] [.m (fun v=>[.sl (v 0) 71 139 KS.length (aS KS)]),.v _,.v (.int .i64 (K.getD k aX).1.h),.v (.int .i64 (16+(K.getD k aX).1.h)),.v _,.v (.agg (bO (K.getD k aX).2 (K.getD k aX).1.p.2.1 (K.getD k aX).1.p.2.2)),.v (.agg (aP (bQ (K.getD k aX).1.p) (K.getD k aX).2)),.v (.agg (dv (16+(K.getD k aX).1.h) (bQ (K.getD k aX).1.p) (K.getD k aX).2 aW)),.m (fun v=>[.sl (v 8) 71 139 [((((16+(K.getD k aX).1.h),(bQ (K.getD k aX).1.p),aW),(K.getD k aX).2):S2)].length (aS [((((16+(K.getD k aX).1.h),(bQ (K.getD k aX).1.p),aW),(K.getD k aX).2):S2)])]),.m (fun v=>[.sl (v 9) 71 139 (KS++[((((16+(K.getD k aX).1.h),(bQ (K.getD k aX).1.p),aW),(K.getD k aX).2):S2)]).length (aS (KS++[((((16+(K.getD k aX).1.h),(bQ (K.getD k aX).1.p),aW),(K.getD k aX).2):S2)]))]),.m (fun v=>[.sl (v 10) 71 139 (KS++[((((16+(K.getD k aX).1.h),(bQ (K.getD k aX).1.p),aW),(K.getD k aX).2):S2)]).length (aS (KS++[((((16+(K.getD k aX).1.h),(bQ (K.getD k aX).1.p),aW),(K.getD k aX).2):S2)]))])] _ h s rfl (by kernel_rfl) (by kernel_rfl) (by kernel_rfl) (cF ?_ (iz ab h rfl rfl rfl (cF ?_ (cF ?_ (iz ab h rfl rfl rfl (cF ?_ (cF ?_ (cF ?_ (cF ?_ (cF ?_ (cF ?_ (trivial)))))))))))) [1,2,3,4,5,6,7,10] (by kernel_rfl) ?_
   ·intro f9 w2 vl10 E9 hs9 hd9 hl hF s
    have h:=dh [(13,_)] h hs9 hd9 ⟨gN hl 13 (by kernel_rfl) (h.holds 13 _ rfl),trivial⟩
    refine am ab 1 h rfl fun f h=>av ⟨_,bw 52 h rfl rfl,trivial,s⟩
   ·intro f9 w2 vl10 E9 hs9 hd9 hl hF s
    have h:=dh [(53,_)] h hs9 hd9 ⟨bu hl 53 1 (by kernel_rfl) (hF 1 (by decide)),trivial⟩
    refine ag (V:=.int .i64 (K.getD k aX).1.h) (ac (aG.of_own s 0 rfl) 1 (Ls _ _ _ _ _ _ _)) h bo rfl rfl fun f h=>av ⟨_,bw 54 h rfl rfl,rfl,s⟩
   ·intro f9 w2 vl10 E9 hs9 hd9 hl hF s
    have h:=dh [(54,_)] h hs9 hd9 ⟨bu hl 54 2 (by kernel_rfl) (hF 2 (by decide)),trivial⟩
    refine c7 h s wa (jO (K.getD k aX).1.h _ (by have:=mS hpk hmo (of_decide_eq_true k1);omega)) rfl rfl fun f w1 h s=>av ⟨_,bw 55 h rfl rfl,rfl,s⟩
   ·intro f9 w2 vl10 E9 hs9 hd9 hl hF s
    have h:=dh [(56,_)] h hs9 hd9 ⟨bu hl 56 4 (by kernel_rfl) (hF 4 (by decide)),trivial⟩
    refine ar (aG.subL (aG.of_own s 0 rfl) 2 3 (D:=bO (K.getD k aX).2 (K.getD k aX).1.p.2.1 (K.getD k aX).1.p.2.2) (Cw _ _ _ _ _ _ _)) h fc rfl (cf _ _ _) rfl fun f h=>av ⟨_,bw 57 h rfl rfl,rfl,s⟩
   ·intro f9 w2 vl10 E9 hs9 hd9 hl hF s
    have h:=dh [(57,_)] h hs9 hd9 ⟨bu hl 57 5 (by kernel_rfl) (hF 5 (by decide)),trivial⟩
    refine c7 h s Il (sk (K.getD k aX).1.p (K.getD k aX).2 _ (((s.getG 2 rfl) (hV.keep s.ext)).2 _ (cO hkk))) rfl rfl fun f w1 h s=>av ⟨_,bw 58 h rfl rfl,rfl,s⟩
   ·intro f9 w2 vl10 E9 hs9 hd9 hl hF s
    have h:=dh [(55,_),(58,_)] h hs9 hd9 ⟨bu hl 55 3 (by kernel_rfl) (hF 3 (by decide)),bu hl 58 6 (by kernel_rfl) (hF 6 (by decide)),trivial⟩
    refine ae h (gz qk (h.ev rfl) (h.ev rfl)) rfl fun f h=>av ⟨_,bw 59 h rfl rfl,rfl,s⟩
   ·intro f9 w2 vl10 E9 hs9 hd9 hl hF s
    have h:=dh [(59,_)] h hs9 hd9 ⟨bu hl 59 7 (by kernel_rfl) (hF 7 (by decide)),trivial⟩
    refine bn (vs:=[.agg (dv (16+(K.getD k aX).1.h) (bQ (K.getD k aX).1.p) (K.getD k aX).2 aW)]) [.tmp 59] h s Tryz.underlying34 kW rfl rfl (qg ((((16+(K.getD k aX).1.h),(bQ (K.getD k aX).1.p),aW),(K.getD k aX).2):S2)) rfl rfl rfl fun f w1 v60 h s=>?_
    replace s:=s.resl (m:=[((((16+(K.getD k aX).1.h),(bQ (K.getD k aX).1.p),aW),(K.getD k aX).2):S2)].length) (ys:=aS [((((16+(K.getD k aX).1.h),(bQ (K.getD k aX).1.p),aW),(K.getD k aX).2):S2)]) 0 rfl rfl (by exact mR [] ((((16+(K.getD k aX).1.h),(bQ (K.getD k aX).1.p),aW),(K.getD k aX).2):S2))
    exact av ⟨_,bw 60 h rfl rfl,trivial,s⟩
   ·intro f9 w2 vl10 E9 hs9 hd9 hl hF s
    have e52:f9.tmps.getD 52 undef=(vl10 0):=dK hl 52 0 (by kernel_rfl) (by kernel_rfl)
    have e60:f9.tmps.getD 60 undef=(vl10 8):=dK hl 60 8 (by kernel_rfl) (by kernel_rfl)
    have h:=aD [(52,(vl10 0)),(60,(vl10 8))] (hs9.trans h.size) (hd9.trans h.defers) (holds_lk ⟨e52,e60,trivial⟩)
    refine cq 0 1 h s Tryz.underlying34 kW rfl rfl rfl rfl (Nat.le_refl _) (hon9) (by show KS.length+1≤_;unfold maxLen;omega) (by show (KS.length+1)*_≤_;omega) rfl fun f w1 v61 h s=>?_
    replace s:=s.resl (m:=(KS++[((((16+(K.getD k aX).1.h),(bQ (K.getD k aX).1.p),aW),(K.getD k aX).2):S2)]).length) (ys:=aS (KS++[((((16+(K.getD k aX).1.h),(bQ (K.getD k aX).1.p),aW),(K.getD k aX).2):S2)])) 0 rfl (List.length_append ..).symm (ic ..).symm
    exact av ⟨_,bw 61 h rfl rfl,trivial,(s.pick _ (List.Sublist.cons_cons _ (List.Sublist.cons _ (List.Sublist.cons_cons _ (List.Sublist.cons_cons _ (List.Sublist.cons_cons _ (List.Sublist.cons_cons _ (List.Sublist.cons_cons _ (List.Sublist.cons_cons _ (List.Sublist.refl _))))))))))⟩
   ·intro f9 w2 vl10 E9 hs9 hd9 hl hF s
    have e61:f9.tmps.getD 61 undef=(vl10 9):=dK hl 61 9 (by kernel_rfl) (by kernel_rfl)
    have h:=aD [(61,(vl10 9))] (hs9.trans h.size) (hd9.trans h.defers) (holds_lk ⟨e61,trivial⟩)
    refine am ab 1 h rfl fun f h=>av ⟨_,bw 13 h rfl rfl,trivial,s⟩
   intro f w1 vl10 hs9 hd9 hv hr hF s
   replace h:=ly (ops:=_) [(52,(vl10 0)),(53,_),(54,_),(55,_),(56,_),(57,_),(58,_),(59,_),(60,(vl10 8)),(61,(vl10 9)),(13,(vl10 10))] h hs9 hd9 hr ⟨hv 0 52 rfl,(hv 1 53 rfl).trans (hF 1 rfl),(hv 2 54 rfl).trans (hF 2 rfl),(hv 3 55 rfl).trans (hF 3 rfl),(hv 4 56 rfl).trans (hF 4 rfl),(hv 5 57 rfl).trans (hF 5 rfl),(hv 6 58 rfl).trans (hF 6 rfl),(hv 7 59 rfl).trans (hF 7 rfl),hv 8 60 rfl,hv 9 61 rfl,hv 10 13 rfl,trivial⟩ (by kernel_rfl)
   replace s:St w [.sl (vl10 10) 71 139 (KS++[((((16+(K.getD k aX).1.h),(bQ (K.getD k aX).1.p),aW),(K.getD k aX).2):S2)]).length (aS (KS++[((((16+(K.getD k aX).1.h),(bQ (K.getD k aX).1.p),aW),(K.getD k aX).2):S2)])),.blk b15 (.cells (cu (K.getD k aX).1.k (K.getD k aX).1.h (K.getD k aX).2 (K.getD k aX).1.p.2.1 (K.getD k aX).1.p.2.2 (K.getD k aX).1.t (K.getD k aX).1.y) 107),.blk b10 (.cells (aA (bk (bJ m)).2.1) 26),(.grp kb (fun w9=>dM w9 vs (bJ m).1→Bi w9 uo K)),.blk b7 (.cells (bO vs (min m.n 64) m.d) 103),.blk b5 (.cells (aP m vs) 95),.blk b3 (.cells (aQ sv.no sv.sec vt) 24)] _:=s
   refine ba (ba (aE (aF (ae h (a6 (h.ev rfl) (h.ev rfl) (by omega)) rfl fun f h=>?_))))
   replace s:=s.nilSl 71 139
   refine e9 ab 1 h rfl fun f h=>?_
   obtain ⟨hs8,hs9⟩:=LO (fr:=fr) (p:=(bJ m)) k1
   exact ⟨_,by omega,⟨k+1,(vl10 10),(KS++[((((16+(K.getD k aX).1.h),(bQ (K.getD k aX).1.p),aW),(K.getD k aX).2):S2)]),h.only ⟨rfl,rfl,rfl,rfl,rfl,rfl,rfl,rfl,rfl,rfl,rfl,rfl,aq rfl (by omega),trivial⟩,St.as (s.pick _ (List.Sublist.cons _ (List.Sublist.cons_cons _ (List.Sublist.cons _ (List.Sublist.cons_cons _ (List.Sublist.cons_cons _ (List.Sublist.cons_cons _ (List.Sublist.cons_cons _ (List.Sublist.cons_cons _ (List.nil_sublist _)))))))))) ⟨rfl,rfl,rfl,rfl,rfl,rfl,trivial⟩,rfl,by omega,mQ hkk hp1 hs8,km hp2 (fun w9 h9=>h9 _ (cO hkk)),iQ hp3⟩⟩
 ·refine wpIn_exit (aU (aU (bR (aE (al (al ?_))))))
  refine aF (cZ ab h rfl (fun q0 f h=>?_) (fun q0 f h=>?_))
  ·refine e9 ab 8 h rfl fun f h=>iU h rfl (bH ab 2 h rfl fun f h=>wpIn_ret (aH rfl h s rfl (by obtain rfl:k=K.length:=(by omega);exact pN (wC hKb hp1 (by rw [q0];rfl)) hp2 (s.sel [0,2] rfl (by decide)))))
  ·skip
   refine am ab 1 h rfl fun f h=>bf h rfl (cZ ab h rfl (fun q1 f h=>?_) (fun q1 f h=>?_))
   ·refine e9 ab 6 h rfl fun f h=>iU h rfl (bH ab 2 h rfl fun f h=>wpIn_ret (aH rfl h s rfl (by obtain rfl:k=K.length:=(by omega);exact pN (wC hKb hp1 (by rw [q0,q1];rfl)) hp2 (s.sel [0,2] rfl (by decide)))))
   ·skip
    refine am ab 3 h rfl fun f h=>bf h rfl (gg h s Li (wV KS ul _ (bI.of_own (s.getSl 0 rfl)) (by omega)) rfl rfl (fun q2 f w1 h s=>?_) (fun q2 f w1 h s=>?_))
    ·refine e9 ab 2 h rfl fun f h=>cy h rfl (aF ?_)
     have hon9:∀ u∈aS [(((fr,(iw (gG (bJ m)) sv.no),aW),aI):S2)],u.oneCell'=true:=iI (oZ (fF w rfl rfl))
     refine am ab 2 h rfl fun f h=>ak 1 h s aN rfl rfl (by first|exact ai _|exact ah _ _) rfl fun f h=>am ab 1 h rfl fun f h=>ag (V:=.int .i64 sv.no) (ac (aG.of_own s 5 rfl) 0 (sN _ _ _)) h bo rfl rfl fun f h=>ae h (mI li rfl (h.ev rfl) (h.ev rfl)) rfl fun f h=>ae h (gz qk (h.ev rfl) (h.ev rfl)) rfl fun f h=>bn (vs:=[.agg (dv fr (iw (gG (bJ m)) sv.no) aI aW)]) [.tmp 111] h s Tryz.underlying34 kW rfl rfl (qg (((fr,(iw (gG (bJ m)) sv.no),aW),aI):S2)) rfl rfl rfl fun f w1 v112 h s=>?_
     replace s:=s.resl (m:=[(((fr,(iw (gG (bJ m)) sv.no),aW),aI):S2)].length) (ys:=aS [(((fr,(iw (gG (bJ m)) sv.no),aW),aI):S2)]) 0 rfl rfl (by exact mR [] (((fr,(iw (gG (bJ m)) sv.no),aW),aI):S2))
     refine cq 1 0 h s Tryz.underlying34 kW rfl rfl rfl rfl (Nat.le_refl _) (hon9) (by show KS.length+1≤_;unfold maxLen;omega) (by show (KS.length+1)*_≤_;omega) rfl fun f w1 v113 h s=>?_
     replace s:=s.pick _ (List.sublist_cons_self _ _)
     replace s:=s.resl (m:=(KS++[(((fr,(iw (gG (bJ m)) sv.no),aW),aI):S2)]).length) (ys:=aS (KS++[(((fr,(iw (gG (bJ m)) sv.no),aW),aI):S2)])) 0 rfl (List.length_append ..).symm (ic ..).symm
     refine e9 ab 1 h rfl fun f h=>bH ab 2 h rfl fun f h=>wpIn_ret (aH rfl h s rfl (by obtain rfl:k=K.length:=(by omega);exact pN (Ko hKb hp1 q0 q1 q2) (fun w9 h9=>rb (hp2 w9 h9) (fF w9 rfl rfl)) (s.sel [0,2] rfl (by decide))))
    ·refine e9 ab 2 h rfl fun f h=>iU h rfl (bH ab 2 h rfl fun f h=>wpIn_ret (aH rfl h s rfl (by obtain rfl:k=K.length:=(by omega);exact pN (wC hKb hp1 (by rw [q0,q1,q2];rfl)) hp2 (s.sel [0,2] rfl (by decide)))))
theorem Mf (v:Value) (w:World):(Instr.typeAssert (.iface 94 v) 63 94 true).run Tryz.prog w=.ok (.tuple #[v,.bool true]) w:=by kernel_rfl
theorem Mj (v:Value) (w:World):(Instr.typeAssert (.iface 95 v) 63 95 true).run Tryz.prog w=.ok (.tuple #[v,.bool true]) w:=by kernel_rfl
theorem Lx (v:Value) (w:World):(Instr.typeAssert (.iface 95 v) 63 94 true).run Tryz.prog w=.ok (.tuple #[(.agg (aP mZ aI)),.bool false]) w:=by kernel_rfl
theorem Ng (v:Value) (w:World):(Instr.typeAssert (.iface 99 v) 63 94 true).run Tryz.prog w=.ok (.tuple #[(.agg (aP mZ aI)),.bool false]) w:=by kernel_rfl
theorem LI (v:Value) (w:World):(Instr.typeAssert (.iface 99 v) 63 95 true).run Tryz.prog w=.ok (.tuple #[(.agg (aP mZ aI)),.bool false]) w:=by kernel_rfl
theorem yi (sv:Sv) (vt:Value) (fr:Int) (m:Mg) (vs:Value) (now:Int) (w:World) (hT:dW w vt sv.tb) (htl:sv.tb.length≤1000) (hV:dM w vs m.l) (hml:m.l.length≤1000) (ha:cC m=true) (hn:0≤now∧now≤1099511627776) (hsz:sv.sec.size≤64) (hH:ff w 0 (wF jp 8)) (hK:ff w 1 (wF iJ 64)):Calls Tryz.prog 24 [.agg (aQ sv.no sv.sec vt),.int .i64 fr,.iface 94 (.agg (aP m vs)),.int .i64 now].toArray w (cp w (vi w vt vs sv.tb m.l (lj sv fr m now))):=by
 refine bF Tryz.func24 rfl Tryz.ntmps24 rfl fun f h s=>qr (aZ (aQ sv.no sv.sec vt) h s rfl rfl rfl fun f w1 b4 h s=>aK (aQ 0 ByteArray.empty aI) h s ip rfl rfl fun f w1 b8 h s=>e9 ab 2 h rfl fun f h=>al (bH ab 1 h rfl fun f h=>wpIn_block (qr (ae h (jL (V:=.tuple #[.agg (aP m vs),.bool true]) (Mf _) (h.ev rfl)) rfl fun f h=>ae h (aV (.bool true) (dR (h.ev rfl) rfl) (congrArg Value.bool (rfl))) rfl fun f h=>e9 ab 1 h rfl fun f h=>cy h rfl (qr (aK (aP mZ aI) h s K1 rfl rfl fun f w1 b11 h s=>aj 0 h s MW rfl rfl rfl (ax _ _) (ax _ _) (cX _ _ (bs hV)) fun w1 s=>nt (qr (ak 2 h s bp rfl rfl (ap _ _ _) rfl fun f h=>am ab 2 h rfl fun f h=>ar (aG.subL (aG.of_own s 0 rfl) 0 71 (D:=aP m vs) (xl _ _)) h bL rfl (ax _ _) rfl fun f h=>am ab 1 h rfl fun f h=>bq h s LU (xu sv vt fr m vs now _ (hT.keep s.ext) htl (hV.keep s.ext) hml ha hn hsz (hH.keep s.ext) (hK.keep s.ext)) rfl rfl ?_))))))));rintro f w1 v22 ⟨tub,ub,Kub,kub,rfl,hub,hG⟩ hE h sq;replace s:=s.add hG;clear hG
 have hub1:=bs (((s.getG 0 rfl) (hT.keep s.ext) (hV.keep s.ext)).1)
 refine am ab 3 h rfl fun f h=>aj 2 h s bp rfl rfl rfl (ap _ _ _) (ap _ _ _) (bP _ _ hub1) fun w1 s=>e9 ab 2 h rfl fun f h=>wpIn_ret (ck (bK ?_))
 exact cm 2 rfl h s bp rfl rfl (ap _ _ _) rfl rfl (⟨tub,ub,Kub,kub,rfl,hub,s.sel [0] rfl (by decide)⟩)
theorem xN (sv:Sv) (vt:Value) (fr:Int) (m:Mg) (vs:Value) (now:Int) (w:World) (hT:dW w vt sv.tb) (htl:sv.tb.length≤1000) (hV:dM w vs m.l) (hml:m.l.length≤1000) (hr:dJ sv=true) (hM:bD m=true) (hk1:m.k=1):Calls Tryz.prog 24 [.agg (aQ sv.no sv.sec vt),.int .i64 fr,.iface 95 (.agg (aP m vs)),.int .i64 now].toArray w (cp w (vi w vt vs sv.tb m.l ⟨sv,iG sv fr m,0⟩)):=by
 refine bF Tryz.func24 rfl Tryz.ntmps24 rfl fun f h s=>qr (aZ (aQ sv.no sv.sec vt) h s rfl rfl rfl fun f w1 b4 h s=>aK (aQ 0 ByteArray.empty aI) h s ip rfl rfl fun f w1 b8 h s=>e9 ab 2 h rfl fun f h=>al (bH ab 1 h rfl fun f h=>wpIn_block (qr (ae h (jL (V:=.tuple #[(.agg (aP mZ aI)),.bool false]) (Lx _) (h.ev rfl)) rfl fun f h=>ae h (aV (.bool false) (dR (h.ev rfl) rfl) (congrArg Value.bool (rfl))) rfl fun f h=>e9 ab 1 h rfl fun f h=>ij h rfl (qr (ae h (jL (V:=.tuple #[.agg (aP m vs),.bool true]) (Mj _) (h.ev rfl)) rfl fun f h=>ae h (aV (.bool true) (dR (h.ev rfl) rfl) (congrArg Value.bool (rfl))) rfl fun f h=>e9 ab 1 h rfl fun f h=>cy h rfl (qr (aK (aP mZ aI) h s Ky rfl rfl fun f w1 b12 h s=>aj 0 h s BL rfl rfl rfl (ax _ _) (ax _ _) (cX _ _ (bs hV)) fun w1 s=>nt (al ?_)))))))))
 replace s:=s.bring 1 rfl
 replace s:St w [.blk b8 (.cells (aQ 0 ByteArray.empty aI) 24),.blk b12 (.cells (aP m vs) 95),.blk b4 (.cells (aQ sv.no sv.sec vt) 24)] _:=s
 refine xB (γ:=List Nat × List S2) 1 [[],[],[],[],[1,2,3],[0,1,2,3,4],[0,1,2,3,4,5],[0,1,2,3,4,5,6]] [[],[],[],[],[],[8],[],[]] [[_]] [.v (.agg (aQ sv.no sv.sec vt)),.v (.agg (aQ sv.no sv.sec vt)),.v _,.v (.agg (aP m vs)),.m (fun v=>[.grp (v 4).2.1 (fun w9=>cJ (v 4).2.2=iG sv fr m∧(dM w9 vs m.l→bI w9 (v 4).1 139 (v 4).2.2.length (aS (v 4).2.2)∧kr (v 4).2.2 w9))]),.m (fun v=>[.blk b8 (.cells (aQ sv.no sv.sec vt) 24)]),.f (fun v=>(v 6).1=(v 4).1),.v _] _ h s rfl (by kernel_rfl) (by kernel_rfl) (by kernel_rfl) (cF ?_ (cF ?_ (Fy ab h rfl rfl rfl (cF ?_ (cF ?_ (cF ?_ (cF ?_ (Fy ab h rfl rfl rfl (trivial))))))))) [0,1,2,3,4,5,6,7] (by kernel_rfl) ?_
 ·intro f9 w2 vl7 E9 hs9 hd9 hl hF s
  have h:=dh [(4,_)] h hs9 hd9 ⟨gN hl 4 (by kernel_rfl) (h.holds 4 _ rfl),trivial⟩
  refine ak 1 h s bp rfl rfl (ap _ _ _) rfl fun f h=>av ⟨(_,default),bw 29 h rfl rfl,rfl,s⟩
 ·intro f9 w2 vl7 E9 hs9 hd9 hl hF s
  have h:=dh [(4,_)] h hs9 hd9 ⟨gN hl 4 (by kernel_rfl) (h.holds 4 _ rfl),trivial⟩
  refine ak 1 h s bp rfl rfl (ap _ _ _) rfl fun f h=>av ⟨(_,default),bw 30 h rfl rfl,rfl,s⟩
 ·intro f9 w2 vl7 E9 hs9 hd9 hl hF s
  have h:=dh [(12,_)] h hs9 hd9 ⟨gN hl 12 (by kernel_rfl) (h.holds 12 _ rfl),trivial⟩
  refine ak 0 h s BL rfl rfl (ax _ _) rfl fun f h=>av ⟨(_,default),bw 32 h rfl rfl,rfl,s⟩
 ·intro f9 w2 vl7 E9 hs9 hd9 hl hF s
  have h:=dh [(30,_),(31,_),(32,_)] h hs9 hd9 ⟨bu hl 30 1 (by kernel_rfl) (hF 1 (by decide)),bu hl 31 2 (by kernel_rfl) (hF 2 (by decide)),bu hl 32 3 (by kernel_rfl) (hF 3 (by decide)),trivial⟩
  refine bq h s Nl (uG sv vt fr m vs _ (hT.keep s.ext) htl (hV.keep s.ext) hml hr hM hk1) rfl rfl ?_;rintro f w1 v33 ⟨K9,ks9,hK9,hG⟩ hE h sq;replace s:=s.add hG;clear hG
  replace s:=s.weak (S':=fun w9=>cJ K9=iG sv fr m∧(dM w9 vs m.l→bI w9 v33 139 K9.length (aS K9)∧kr K9 w9)) (fun w9 h9=>⟨hK9,h9⟩)
  exact av ⟨(_,(ks9,K9)),bw 33 h rfl rfl,trivial,s⟩
 ·intro f9 w2 vl7 E9 hs9 hd9 hl hF s
  have h:=dh [(8,_),(29,_)] h hs9 hd9 ⟨gN hl 8 (by kernel_rfl) (h.holds 8 _ rfl),bu hl 29 0 (by kernel_rfl) (hF 0 (by decide)),trivial⟩
  refine aj 0 h s bp rfl rfl rfl (ap _ _ _) (ap _ _ _) (bP _ _ (bs hT)) fun w1 s=>av ⟨(undef,default),iL rfl,trivial,s⟩
 ·intro f9 w2 vl7 E9 hs9 hd9 hl hF s
  have e33:f9.tmps.getD 33 undef=(vl7 4).1:=dK hl 33 4 (by kernel_rfl) (by kernel_rfl)
  have h:=aD [(33,(vl7 4).1)] (hs9.trans h.size) (hd9.trans h.defers) (holds_lk ⟨e33,trivial⟩)
  refine am ab 1 h rfl fun f h=>av ⟨(_,default),bw 9 h rfl rfl,rfl,s⟩
 intro f w1 vl7 hs9 hd9 hv hr hF s
 replace h:=ly (ops:=_) [(29,_),(30,_),(31,_),(32,_),(33,(vl7 4).1),(9,(vl7 4).1),(10,_)] h hs9 hd9 hr ⟨(hv 0 29 rfl).trans (hF 0 rfl),(hv 1 30 rfl).trans (hF 1 rfl),(hv 2 31 rfl).trans (hF 2 rfl),(hv 3 32 rfl).trans (hF 3 rfl),hv 4 33 rfl,(hv 6 9 rfl).trans (hF 6 rfl),(hv 7 10 rfl).trans (hF 7 rfl),trivial⟩ (by kernel_rfl)
 replace s:St w [.grp (vl7 4).2.1 (fun w9=>cJ (vl7 4).2.2=iG sv fr m∧(dM w9 vs m.l→bI w9 (vl7 4).1 139 (vl7 4).2.2.length (aS (vl7 4).2.2)∧kr (vl7 4).2.2 w9)),.blk b8 (.cells (aQ sv.no sv.sec vt) 24),.blk b12 (.cells (aP m vs) 95),.blk b4 (.cells (aQ sv.no sv.sec vt) 24)] _:=s
 refine aE (wpIn_ret (ck (bK ?_)))
 exact cm 1 rfl h s bp rfl rfl (ap _ _ _) rfl rfl (FA rfl (s.sel [0] rfl (by decide)))
theorem xb (sv:Sv) (vt:Value) (fr:Int) (m:Mg) (vs:Value) (now:Int) (w:World) (hT:dW w vt sv.tb) (htl:sv.tb.length≤1000) (hV:dM w vs m.l) (hml:m.l.length≤1000):Calls Tryz.prog 24 [.agg (aQ sv.no sv.sec vt),.int .i64 fr,.iface 99 (.agg #[]),.int .i64 now].toArray w (cp w (vi w vt vs sv.tb m.l ⟨K5,[],1⟩)):=by
 refine bF Tryz.func24 rfl Tryz.ntmps24 rfl fun f h s=>qr (aZ (aQ sv.no sv.sec vt) h s rfl rfl rfl fun f w1 b4 h s=>aK (aQ 0 ByteArray.empty aI) h s ip rfl rfl fun f w1 b8 h s=>e9 ab 2 h rfl fun f h=>al (bH ab 1 h rfl fun f h=>wpIn_block (qr (ae h (jL (V:=.tuple #[(.agg (aP mZ aI)),.bool false]) (Ng _) (h.ev rfl)) rfl fun f h=>ae h (aV (.bool false) (dR (h.ev rfl) rfl) (congrArg Value.bool (rfl))) rfl fun f h=>e9 ab 1 h rfl fun f h=>ij h rfl (qr (ae h (jL (V:=.tuple #[(.agg (aP mZ aI)),.bool false]) (LI _) (h.ev rfl)) rfl fun f h=>ae h (aV (.bool false) (dR (h.ev rfl) rfl) (congrArg Value.bool (rfl))) rfl fun f h=>e9 ab 1 h rfl fun f h=>ij h rfl (wpIn_skip (ba (aE (qr (ae h (dp ji) rfl fun f h=>aj 0 h s bp rfl rfl rfl (ap _ _ _) (ap _ _ _) (bP _ _ (rfl)) fun w1 s=>e9 ab 2 h rfl fun f h=>wpIn_ret ?_)))))))))))
 exact cm 0 rfl h s bp rfl rfl (ap _ _ _) rfl rfl (ta rfl rfl (s.pick _ (List.nil_sublist _)))
theorem Bf (sv:Sv) (vt:Value) (fr:Int) (m:Mg) (vs:Value) (now:Int) (w:World) (hT:dW w vt sv.tb) (htl:sv.tb.length≤1000) (hV:dM w vs m.l) (hml:m.l.length≤1000) (hr:dJ sv=true) (hM:bD m=true) (hn:0≤now∧now≤1099511627776) (hH:ff w 0 (wF jp 8)) (hK:ff w 1 (wF iJ 64)):Calls Tryz.prog 24 [.agg (aQ sv.no sv.sec vt),.int .i64 fr,(AR 94 95 99 m vs),.int .i64 now].toArray w (cp w (vi w vt vs sv.tb m.l (cT sv fr m now))):=by
 unfold AR cT
 cases hc:rN m with
 |true=>exact yi sv vt fr m vs now w hT htl hV hml (mn hc hM) hn (dz.1 hr).2.2.1 hH hK
 |false=>
  cases hd:decide (m.k=1) with
  |true=>exact xN sv vt fr m vs now w hT htl hV hml hr hM (of_decide_eq_true hd)
  |false=>exact xb sv vt fr m vs now w hT htl hV hml
set_option maxHeartbeats 8000000 in
theorem pa (sv:Sv) (vt:Value) (fr:Int) (m:Mg) (vs:Value) (now:Int) (w:World) (hT:dW w vt sv.tb) (htl:sv.tb.length≤1000) (hV:dM w vs m.l) (hml:m.l.length≤1000) (hH:ff w 0 (wF jp 8)) (hK:ff w 1 (wF iJ 64)):Calls Tryz.prog 7 [.agg (aQ sv.no sv.sec vt),.int .i64 fr,.agg (aP m vs),.int .i64 now].toArray w (cp w (vi w vt vs sv.tb m.l (df sv fr m now))):=by
 refine bF Tryz.func7 rfl Tryz.ntmps7 rfl fun f h s=>qr (aZ (aQ sv.no sv.sec vt) h s rfl rfl rfl fun f w1 b4 h s=>aZ (aP m vs) h s rfl rfl rfl fun f w1 b6 h s=>aK (aQ 0 ByteArray.empty aI) h s ip rfl rfl fun f w1 b8 h s=>e9 ab 2 h rfl fun f h=>al ?_)
 refine rs ab 1 h rfl fun f h=>cZ ab h rfl (fun r2 f h=>?_) (fun r2 f h=>?_)
 ·refine e9 ab 6 h rfl fun f h=>al (al ?_)
  refine aF (ak 2 h s bp rfl rfl (ap _ _ _) rfl fun f h=>gg h s Fe (kE sv vt _ (hT.keep s.ext) htl) rfl rfl (fun r0 f w1 h s=>?_) (fun r0 f w1 h s=>?_))
  ·refine e9 ab 18 h rfl fun f h=>cy h rfl (qr (ae h (dp ji) rfl fun f h=>aj 0 h s bp rfl rfl rfl (ap _ _ _) (ap _ _ _) (bP _ _ (rfl)) fun w1 s=>e9 ab 2 h rfl fun f h=>rt ?_))
   exact cm 0 rfl h s bp rfl rfl (ap _ _ _) rfl rfl (gZ (Bx fun ⟨a0,a1,a2,a3,a4,a5⟩=>absurd a2 (of_decide_eq_false r2)) (s.pick _ (List.nil_sublist _)))
  ·skip
   refine am ab 2 h rfl fun f h=>bf h rfl (ak 1 h s bL rfl rfl (ax _ _) rfl fun f h=>bf h rfl (gg h s qW (gh m vs _ (hV.keep s.ext) (by omega)) rfl rfl (fun r1 f w1 h s=>?_) (fun r1 f w1 h s=>?_)))
   ·refine e9 ab 14 h rfl fun f h=>cy h rfl (qr (ae h (dp ji) rfl fun f h=>aj 0 h s bp rfl rfl rfl (ap _ _ _) (ap _ _ _) (bP _ _ (rfl)) fun w1 s=>e9 ab 2 h rfl fun f h=>rt ?_))
    exact cm 0 rfl h s bp rfl rfl (ap _ _ _) rfl rfl (gZ (Bx fun ⟨a0,a1,a2,a3,a4,a5⟩=>absurd a2 (of_decide_eq_false r2)) (s.pick _ (List.nil_sublist _)))
   ·refine e9 ab 14 h rfl fun f h=>cy h rfl (qr (ae h (dp ji) rfl fun f h=>aj 0 h s bp rfl rfl rfl (ap _ _ _) (ap _ _ _) (bP _ _ (rfl)) fun w1 s=>e9 ab 2 h rfl fun f h=>rt ?_))
    exact cm 0 rfl h s bp rfl rfl (ap _ _ _) rfl rfl (gZ (Bx fun ⟨a0,a1,a2,a3,a4,a5⟩=>absurd a2 (of_decide_eq_false r2)) (s.pick _ (List.nil_sublist _)))
 ·skip
  refine am ab 2 h rfl fun f h=>bf h rfl (c7 h s wa (bG (.int .i64 32) (jO 16 _ (by omega)) (rfl)) rfl rfl fun f w1 h s=>bf h rfl (cZ ab h rfl (fun r3 f h=>?_) (fun r3 f h=>?_)))
  ·refine e9 ab 2 h rfl fun f h=>al (al ?_)
   refine aF (ak 2 h s bp rfl rfl (ap _ _ _) rfl fun f h=>gg h s Fe (kE sv vt _ (hT.keep s.ext) htl) rfl rfl (fun r0 f w1 h s=>?_) (fun r0 f w1 h s=>?_))
   ·refine e9 ab 18 h rfl fun f h=>cy h rfl (qr (ae h (dp ji) rfl fun f h=>aj 0 h s bp rfl rfl rfl (ap _ _ _) (ap _ _ _) (bP _ _ (rfl)) fun w1 s=>e9 ab 2 h rfl fun f h=>rt ?_))
    exact cm 0 rfl h s bp rfl rfl (ap _ _ _) rfl rfl (gZ (Bx fun ⟨a0,a1,a2,a3,a4,a5⟩=>absurd a3 (by have:=of_decide_eq_false r3;omega)) (s.pick _ (List.nil_sublist _)))
   ·skip
    refine am ab 2 h rfl fun f h=>bf h rfl (ak 1 h s bL rfl rfl (ax _ _) rfl fun f h=>bf h rfl (gg h s qW (gh m vs _ (hV.keep s.ext) (by omega)) rfl rfl (fun r1 f w1 h s=>?_) (fun r1 f w1 h s=>?_)))
    ·refine e9 ab 14 h rfl fun f h=>cy h rfl (qr (ae h (dp ji) rfl fun f h=>aj 0 h s bp rfl rfl rfl (ap _ _ _) (ap _ _ _) (bP _ _ (rfl)) fun w1 s=>e9 ab 2 h rfl fun f h=>rt ?_))
     exact cm 0 rfl h s bp rfl rfl (ap _ _ _) rfl rfl (gZ (Bx fun ⟨a0,a1,a2,a3,a4,a5⟩=>absurd a3 (by have:=of_decide_eq_false r3;omega)) (s.pick _ (List.nil_sublist _)))
    ·refine e9 ab 14 h rfl fun f h=>cy h rfl (qr (ae h (dp ji) rfl fun f h=>aj 0 h s bp rfl rfl rfl (ap _ _ _) (ap _ _ _) (bP _ _ (rfl)) fun w1 s=>e9 ab 2 h rfl fun f h=>rt ?_))
     exact cm 0 rfl h s bp rfl rfl (ap _ _ _) rfl rfl (gZ (Bx fun ⟨a0,a1,a2,a3,a4,a5⟩=>absurd a3 (by have:=of_decide_eq_false r3;omega)) (s.pick _ (List.nil_sublist _)))
  ·refine e9 ab 2 h rfl fun f h=>al (al ?_)
   refine aF (ak 2 h s bp rfl rfl (ap _ _ _) rfl fun f h=>gg h s Fe (kE sv vt _ (hT.keep s.ext) htl) rfl rfl (fun r0 f w1 h s=>?_) (fun r0 f w1 h s=>?_))
   ·refine e9 ab 18 h rfl fun f h=>cy h rfl (qr (ae h (dp ji) rfl fun f h=>aj 0 h s bp rfl rfl rfl (ap _ _ _) (ap _ _ _) (bP _ _ (rfl)) fun w1 s=>e9 ab 2 h rfl fun f h=>rt ?_))
    exact cm 0 rfl h s bp rfl rfl (ap _ _ _) rfl rfl (gZ (Bx fun ⟨a0,a1,a2,a3,a4,a5⟩=>by rw [r0] at a0;cases a0) (s.pick _ (List.nil_sublist _)))
   ·skip
    refine am ab 2 h rfl fun f h=>bf h rfl (ak 1 h s bL rfl rfl (ax _ _) rfl fun f h=>bf h rfl (gg h s qW (gh m vs _ (hV.keep s.ext) (by omega)) rfl rfl (fun r1 f w1 h s=>?_) (fun r1 f w1 h s=>?_)))
    ·refine e9 ab 14 h rfl fun f h=>cy h rfl (qr (ae h (dp ji) rfl fun f h=>aj 0 h s bp rfl rfl rfl (ap _ _ _) (ap _ _ _) (bP _ _ (rfl)) fun w1 s=>e9 ab 2 h rfl fun f h=>rt ?_))
     exact cm 0 rfl h s bp rfl rfl (ap _ _ _) rfl rfl (gZ (Bx fun ⟨a0,a1,a2,a3,a4,a5⟩=>by rw [r1] at a1;cases a1) (s.pick _ (List.nil_sublist _)))
    ·skip
     refine am ab 8 h rfl fun f h=>bf h rfl (cZ ab h rfl (fun r4 f h=>?_) (fun r4 f h=>?_))
     ·skip
      refine am ab 3 h rfl fun f h=>bf h rfl (cZ ab h rfl (fun r5 f h=>?_) (fun r5 f h=>?_))
      ·refine e9 ab 1 h rfl fun f h=>iU h rfl (al ?_)
       have hn9:0≤now∧now≤1099511627776:=⟨by have:=of_decide_eq_false r4;omega,by have:=of_decide_eq_false r5;omega⟩
       have hbk:Gi sv fr m now:=⟨r0,r1,of_decide_eq_true r2,(by have:=of_decide_eq_true r3;omega),hn9.1,hn9.2⟩
       have hxl:(cg sv now).tb.length≤1000:=Nat.le_trans (List.length_filter_le _ _) htl
       refine xB (γ:=List Nat × Value × Value × List S2) 0 [[],[],[0,1],[],[],[0,1,2,4],[],[0,1,2,3,4,5,6],[0,1,2,3,4,5,6,7],[0,1,2,3,4,5,6,7,8],[0,1,2,3,4,5,6,7,8],[0,1,2,3,4,5,6,7,8],[],[0,1,2,3,4,5,6,7,8,9,12],[0,1,2,3,4,5,6,7,8,9,10,12,13],[0,1,2,3,4,5,6,7,8,9,10,11,12,13,14]] [[],[],[],[],[],[],[],[2],[],[],[],[],[],[12],[],[]] [] [.v (.agg (aQ sv.no sv.sec vt)),.v _,.r (fun v=>[.grp (v 2).2.1 (fun w9=>dW w9 vt sv.tb→dW w9 (pd (v 2).2.2.1) (sL sv.tb now))]) (fun v=>(v 2).1=.agg (aQ sv.no sv.sec (pd (v 2).2.2.1))),.v _,.v (.agg (aP m vs)),.v (AR 94 95 99 m vs),.v _,.r (fun v=>[.grp (v 7).2.1 (fun w9=>cJ (v 7).2.2.2.2=(cT (cg sv now) fr m now).l∧(dW w9 vt sv.tb→dM w9 vs m.l→dW w9 (pd (v 7).2.2.1) (cT (cg sv now) fr m now).s.tb∧bI w9 (v 7).2.2.2.1 139 (v 7).2.2.2.2.length (aS (v 7).2.2.2.2)∧kr (v 7).2.2.2.2 w9))]) (fun v=>(v 7).1=.tuple #[.agg (aQ (cT (cg sv now) fr m now).s.no (cT (cg sv now) fr m now).s.sec (pd (v 7).2.2.1)),(v 7).2.2.2.1,.int .i64 (cT (cg sv now) fr m now).e]),.f (fun v=>(v 8).1=.tuple #[.agg (aQ (cT (cg sv now) fr m now).s.no (cT (cg sv now) fr m now).s.sec (pd (v 7).2.2.1)),(v 7).2.2.2.1,.int .i64 (cT (cg sv now) fr m now).e]),.f (fun v=>(v 9).1=.agg (aQ (cT (cg sv now) fr m now).s.no (cT (cg sv now) fr m now).s.sec (pd (v 7).2.2.1))),.f (fun v=>(v 10).1=(v 7).2.2.2.1),.v (.int .i64 (cT (cg sv now) fr m now).e),.q (fun v=>[.blk (Dz (v 12).1) (.cells (aQ 0 ByteArray.empty aI) 24)]),.m (fun v=>[.blk (Dz (v 12).1) (.cells (aQ (cT (cg sv now) fr m now).s.no (cT (cg sv now) fr m now).s.sec (pd (v 7).2.2.1)) 24)]),.f (fun v=>(v 14).1=(v 7).2.2.2.1),.v _] _ h s rfl (by kernel_rfl) (by kernel_rfl) (by kernel_rfl) (cF ?_ (Fy ab h rfl rfl rfl (cF ?_ (Fy ab h rfl rfl rfl (cF ?_ (cF ?_ (Fy ab h rfl rfl rfl (cF ?_ (cF ?_ (cF ?_ (cF ?_ (cF ?_ (cF ?_ (cF ?_ (cF ?_ (Fy ab h rfl rfl rfl (trivial))))))))))))))))) [0,1,3,4,5,6,7,8,9,10,11,13,14,15] (by kernel_rfl) ?_
       ·intro f9 w2 vl4 E9 hs9 hd9 hl hF s
        have h:=dh [(4,_)] h hs9 hd9 ⟨gN hl 4 (by kernel_rfl) (h.holds 4 _ rfl),trivial⟩
        refine ak 2 h s bp rfl rfl (ap _ _ _) rfl fun f h=>av ⟨(_,default),bw 44 h rfl rfl,rfl,s⟩
       ·intro f9 w2 vl4 E9 hs9 hd9 hl hF s
        have h:=dh [(44,_),(45,_)] h hs9 hd9 ⟨bu hl 44 0 (by kernel_rfl) (hF 0 (by decide)),bu hl 45 1 (by kernel_rfl) (hF 1 (by decide)),trivial⟩
        refine bq h s LS (zZ sv vt now _ (hT.keep s.ext) htl (dz.1 r0).2.2.2) rfl rfl ?_;rintro f w1 v46 ⟨pl,kl,hv46,hG⟩ hE h sq;replace s:=s.add hG;clear hG
        have hp9:=EI ((s.getG 0 rfl) (hT.keep s.ext))
        rw [← hp9] at hv46 s
        exact av ⟨(_,(kl,pl,undef,[])),bw 46 h rfl rfl,hv46,s⟩
       ·intro f9 w2 vl4 E9 hs9 hd9 hl hF s
        have h:=dh [(6,_)] h hs9 hd9 ⟨gN hl 6 (by kernel_rfl) (h.holds 6 _ rfl),trivial⟩
        refine ak 1 h s bL rfl rfl (ax _ _) rfl fun f h=>av ⟨(_,default),bw 48 h rfl rfl,rfl,s⟩
       ·intro f9 w2 vl4 E9 hs9 hd9 hl hF s
        have h:=dh [(48,_)] h hs9 hd9 ⟨bu hl 48 4 (by kernel_rfl) (hF 4 (by decide)),trivial⟩
        refine c7 h s vH (jR m vs _ (hV.keep s.ext) hml) rfl rfl fun f w1 h s=>av ⟨(_,default),bw 49 h rfl rfl,rfl,s⟩
       ·intro f9 w2 vl4 E9 hs9 hd9 hl hF s
        have h:=dh [(46,.agg (aQ sv.no sv.sec (pd (vl4 2).2.2.1))),(47,_),(49,_),(50,_)] h hs9 hd9 ⟨bu hl 46 2 (by kernel_rfl) (hF 2 (by decide)),bu hl 47 3 (by kernel_rfl) (hF 3 (by decide)),bu hl 49 5 (by kernel_rfl) (hF 5 (by decide)),bu hl 50 6 (by kernel_rfl) (hF 6 (by decide)),trivial⟩
        refine bq h s Lj (Bf (cg sv now) (pd (vl4 2).2.2.1) fr m vs now _ ((s.getG 0 rfl) (hT.keep s.ext)) hxl (hV.keep s.ext) hml (gP r0 now) r1 hn9 (hH.keep s.ext) (hK.keep s.ext)) rfl rfl ?_;rintro f w1 v51 ⟨tu,uu,Ku,ku,hv51,hu,hG⟩ hE h sq;replace s:=s.add hG;clear hG
        have hp9:=EI (((s.getG 0 rfl) ((s.getG 1 rfl) (hT.keep s.ext)) (hV.keep s.ext)).1)
        rw [← hp9] at hv51 s
        replace s:=s.merge (S:=fun w9=>cJ Ku=(cT (cg sv now) fr m now).l∧(dW w9 vt sv.tb→dM w9 vs m.l→dW w9 (pd tu) (cT (cg sv now) fr m now).s.tb∧bI w9 uu 139 Ku.length (aS Ku)∧kr Ku w9)) (fun w9 a b=>⟨hu,fun c d=>a (b c) d⟩)
        exact av ⟨(_,(ku++(vl4 2).2.1,tu,uu,Ku)),bw 51 h rfl rfl,hv51,s⟩
       ·intro f9 w2 vl4 E9 hs9 hd9 hl hF s
        have h:=dh [(51,.tuple #[.agg (aQ (cT (cg sv now) fr m now).s.no (cT (cg sv now) fr m now).s.sec (pd (vl4 7).2.2.1)),(vl4 7).2.2.2.1,.int .i64 (cT (cg sv now) fr m now).e])] h hs9 hd9 ⟨bu hl 51 7 (by kernel_rfl) (hF 7 (by decide)),trivial⟩
        refine am ab 1 h rfl fun f h=>av ⟨(_,default),bw 43 h rfl rfl,rfl,s⟩
       ·intro f9 w2 vl4 E9 hs9 hd9 hl hF s
        have h:=dh [(43,.tuple #[.agg (aQ (cT (cg sv now) fr m now).s.no (cT (cg sv now) fr m now).s.sec (pd (vl4 7).2.2.1)),(vl4 7).2.2.2.1,.int .i64 (cT (cg sv now) fr m now).e])] h hs9 hd9 ⟨bu hl 43 8 (by kernel_rfl) (hF 8 (by decide)),trivial⟩
        refine am ab 1 h rfl fun f h=>av ⟨(_,default),bw 52 h rfl rfl,rfl,s⟩
       ·intro f9 w2 vl4 E9 hs9 hd9 hl hF s
        have h:=dh [(43,.tuple #[.agg (aQ (cT (cg sv now) fr m now).s.no (cT (cg sv now) fr m now).s.sec (pd (vl4 7).2.2.1)),(vl4 7).2.2.2.1,.int .i64 (cT (cg sv now) fr m now).e])] h hs9 hd9 ⟨bu hl 43 8 (by kernel_rfl) (hF 8 (by decide)),trivial⟩
        refine am ab 1 h rfl fun f h=>av ⟨(_,default),bw 53 h rfl rfl,rfl,s⟩
       ·intro f9 w2 vl4 E9 hs9 hd9 hl hF s
        have h:=dh [(43,.tuple #[.agg (aQ (cT (cg sv now) fr m now).s.no (cT (cg sv now) fr m now).s.sec (pd (vl4 7).2.2.1)),(vl4 7).2.2.2.1,.int .i64 (cT (cg sv now) fr m now).e])] h hs9 hd9 ⟨bu hl 43 8 (by kernel_rfl) (hF 8 (by decide)),trivial⟩
        refine am ab 1 h rfl fun f h=>av ⟨(_,default),bw 54 h rfl rfl,rfl,s⟩
       ·intro f9 w2 vl4 E9 hs9 hd9 hl hF s
        have h:=aD [] (hs9.trans h.size) (hd9.trans h.defers) (holds_lk trivial)
        refine aK (aQ 0 ByteArray.empty aI) h s ip rfl rfl fun f w1 b12 h s=>av ⟨(_,default),bw 12 h rfl rfl,⟨_,rfl⟩,s⟩
       ·intro f9 w2 vl4 E9 hs9 hd9 hl hF s
        obtain ⟨b12,hb12⟩:∃ b,(vl4 12).1=.pointer (some ⟨b,0,none⟩):=hF 12 (by decide)
        have e12:f9.tmps.getD 12 undef=.pointer (some ⟨b12,0,none⟩):=(dK hl 12 12 (by kernel_rfl) (by kernel_rfl)).trans hb12
        have e52:f9.tmps.getD 52 undef=.agg (aQ (cT (cg sv now) fr m now).s.no (cT (cg sv now) fr m now).s.sec (pd (vl4 7).2.2.1)):=(dK hl 52 9 (by kernel_rfl) (by kernel_rfl)).trans (hF 9 (by decide))
        have h:=aD [(12,.pointer (some ⟨b12,0,none⟩)),(52,.agg (aQ (cT (cg sv now) fr m now).s.no (cT (cg sv now) fr m now).s.sec (pd (vl4 7).2.2.1)))] (hs9.trans h.size) (hd9.trans h.defers) (holds_lk ⟨e12,e52,trivial⟩)
        replace s:St w (.blk (Dz (vl4 12).1) (.cells (aQ 0 ByteArray.empty aI) 24)::.blk b8 (.cells (aQ 0 ByteArray.empty aI) 24)::.blk b6 (.cells (aP m vs) 31)::.blk b4 (.cells (aQ sv.no sv.sec vt) 24)::E9) _:=s
        rw [hb12] at s
        replace s:St w (.blk b12 (.cells (aQ 0 ByteArray.empty aI) 24)::.blk b8 (.cells (aQ 0 ByteArray.empty aI) 24)::.blk b6 (.cells (aP m vs) 31)::.blk b4 (.cells (aQ sv.no sv.sec vt) 24)::E9) _:=s
        refine aj 0 h s bp rfl rfl rfl (ap _ _ _) (ap _ _ _) (bP _ _ (zA _)) fun w1 s=>av ⟨(undef,default),iL rfl,trivial,?_⟩
        have z:=s
        rw [← show Dz (vl4 12).1=b12 from by rw [hb12];rfl] at z
        exact z
       ·intro f9 w2 vl4 E9 hs9 hd9 hl hF s
        have h:=dh [(53,(vl4 7).2.2.2.1)] h hs9 hd9 ⟨bu hl 53 10 (by kernel_rfl) (hF 10 (by decide)),trivial⟩
        refine am ab 1 h rfl fun f h=>av ⟨(_,default),bw 13 h rfl rfl,rfl,s⟩
       intro f w1 vl4 hs9 hd9 hv hr hF s
       obtain ⟨b12,hb12⟩:∃ b,(vl4 12).1=.pointer (some ⟨b,0,none⟩):=hF 12 (by kernel_rfl)
       replace h:=ly (ops:=_) [(44,_),(45,_),(46,.agg (aQ sv.no sv.sec (pd (vl4 2).2.2.1))),(47,_),(48,_),(49,_),(50,_),(51,.tuple #[.agg (aQ (cT (cg sv now) fr m now).s.no (cT (cg sv now) fr m now).s.sec (pd (vl4 7).2.2.1)),(vl4 7).2.2.2.1,.int .i64 (cT (cg sv now) fr m now).e]),(43,.tuple #[.agg (aQ (cT (cg sv now) fr m now).s.no (cT (cg sv now) fr m now).s.sec (pd (vl4 7).2.2.1)),(vl4 7).2.2.2.1,.int .i64 (cT (cg sv now) fr m now).e]),(52,.agg (aQ (cT (cg sv now) fr m now).s.no (cT (cg sv now) fr m now).s.sec (pd (vl4 7).2.2.1))),(53,(vl4 7).2.2.2.1),(54,_),(12,.pointer (some ⟨b12,0,none⟩)),(13,(vl4 7).2.2.2.1),(14,_)] h hs9 hd9 hr ⟨(hv 0 44 rfl).trans (hF 0 rfl),(hv 1 45 rfl).trans (hF 1 rfl),(hv 2 46 rfl).trans (hF 2 rfl),(hv 3 47 rfl).trans (hF 3 rfl),(hv 4 48 rfl).trans (hF 4 rfl),(hv 5 49 rfl).trans (hF 5 rfl),(hv 6 50 rfl).trans (hF 6 rfl),(hv 7 51 rfl).trans (hF 7 rfl),(hv 8 43 rfl).trans (hF 8 rfl),(hv 9 52 rfl).trans (hF 9 rfl),(hv 10 53 rfl).trans (hF 10 rfl),(hv 11 54 rfl).trans (hF 11 rfl),(hv 12 12 rfl).trans hb12,(hv 14 13 rfl).trans (hF 14 rfl),(hv 15 14 rfl).trans (hF 15 rfl),trivial⟩ (by kernel_rfl)
       replace s:St w [.grp (vl4 7).2.1 (fun w9=>cJ (vl4 7).2.2.2.2=(cT (cg sv now) fr m now).l∧(dW w9 vt sv.tb→dM w9 vs m.l→dW w9 (pd (vl4 7).2.2.1) (cT (cg sv now) fr m now).s.tb∧bI w9 (vl4 7).2.2.2.1 139 (vl4 7).2.2.2.2.length (aS (vl4 7).2.2.2.2)∧kr (vl4 7).2.2.2.2 w9)),.blk (Dz (vl4 12).1) (.cells (aQ (cT (cg sv now) fr m now).s.no (cT (cg sv now) fr m now).s.sec (pd (vl4 7).2.2.1)) 24),.blk b8 (.cells (aQ 0 ByteArray.empty aI) 24),.blk b6 (.cells (aP m vs) 31),.blk b4 (.cells (aQ sv.no sv.sec vt) 24)] _:=s
       rw [hb12] at s
       replace s:St w [.grp (vl4 7).2.1 (fun w9=>cJ (vl4 7).2.2.2.2=(cT (cg sv now) fr m now).l∧(dW w9 vt sv.tb→dM w9 vs m.l→dW w9 (pd (vl4 7).2.2.1) (cT (cg sv now) fr m now).s.tb∧bI w9 (vl4 7).2.2.2.1 139 (vl4 7).2.2.2.2.length (aS (vl4 7).2.2.2.2)∧kr (vl4 7).2.2.2.2 w9)),.blk b12 (.cells (aQ (cT (cg sv now) fr m now).s.no (cT (cg sv now) fr m now).s.sec (pd (vl4 7).2.2.1)) 24),.blk b8 (.cells (aQ 0 ByteArray.empty aI) 24),.blk b6 (.cells (aP m vs) 31),.blk b4 (.cells (aQ sv.no sv.sec vt) 24)] _:=s
       refine aE (al (bH ab 2 h rfl fun f h=>cd h rfl (fun hc=>?_) (fun hc=>?_)))
       ·have e1:=of_decide_eq_true hc
        refine qr (ae h (dp ji) rfl fun f h=>am ab 1 h rfl fun f h=>aj 2 h s bp rfl rfl rfl (ap _ _ _) (ap _ _ _) (bP _ _ (rfl)) fun w1 s=>e9 ab 2 h rfl fun f h=>rt ?_)
        exact cm 2 rfl h s bp rfl rfl (ap _ _ _) rfl rfl (NB hbk e1 (s.pick _ (List.nil_sublist _)))
       ·have e1:=of_decide_eq_false hc
        refine kt (al (bH ab 2 h rfl fun f h=>cd h rfl (fun hc=>?_) (fun hc=>?_)))
        ·have e0:=of_decide_eq_true hc
         refine bZ ab 1 h rfl fun f h=>ag (V:=vt) (ac (aG.of_own s 4 rfl) 2 (lZ _ _ _)) h eO rfl rfl fun f h=>bq h s HI (p6 sv.tb htl vt _ (hT.keep s.ext)) rfl rfl ?_;intro f w1 v63 hT9 hE h sq;replace s:=s.sl_new hE hT9
         refine am ab 1 h rfl fun f h=>bN 5 h s eO rfl rfl rfl (by rw [ap];omega) (dm (s.getSl 0 rfl)) fun w1 s=>?_
         replace s:=s.recell (D:=aQ sv.no sv.sec v63) 5 rfl (rfl)
         refine nt (qr (ak 5 h s bp rfl rfl (ap _ _ _) rfl fun f h=>am ab 1 h rfl fun f h=>aj 3 h s bp rfl rfl rfl (ap _ _ _) (ap _ _ _) (bP _ _ (dm (s.getSl 0 rfl))) fun w1 s=>e9 ab 2 h rfl fun f h=>rt ?_))
         exact cm 3 rfl h s bp rfl rfl (ap _ _ _) rfl rfl (Lk hbk e1 e0 (s.sel [0] rfl (by decide)))
        ·have e0:=Decidable.of_not_not (of_decide_eq_false hc)
         refine kt (qr (ak 1 h s bp rfl rfl (ap _ _ _) rfl fun f h=>am ab 1 h rfl fun f h=>aj 2 h s bp rfl rfl rfl (ap _ _ _) (ap _ _ _) (bP _ _ (zA _)) fun w1 s=>e9 ab 2 h rfl fun f h=>wpIn_ret ?_))
         exact cm 2 rfl h s bp rfl rfl (ap _ _ _) rfl rfl (Ma hbk e0 (s.sel [0] rfl (by decide)))
      ·refine e9 ab 1 h rfl fun f h=>cy h rfl (qr (ae h (dp ji) rfl fun f h=>aj 0 h s bp rfl rfl rfl (ap _ _ _) (ap _ _ _) (bP _ _ (rfl)) fun w1 s=>e9 ab 2 h rfl fun f h=>rt ?_))
       exact cm 0 rfl h s bp rfl rfl (ap _ _ _) rfl rfl (gZ (Bx fun ⟨a0,a1,a2,a3,a4,a5⟩=>by have:=of_decide_eq_true r5;omega) (s.pick _ (List.nil_sublist _)))
     ·refine e9 ab 5 h rfl fun f h=>cy h rfl (qr (ae h (dp ji) rfl fun f h=>aj 0 h s bp rfl rfl rfl (ap _ _ _) (ap _ _ _) (bP _ _ (rfl)) fun w1 s=>e9 ab 2 h rfl fun f h=>rt ?_))
      exact cm 0 rfl h s bp rfl rfl (ap _ _ _) rfl rfl (gZ (Bx fun ⟨a0,a1,a2,a3,a4,a5⟩=>by have:=of_decide_eq_true r4;omega) (s.pick _ (List.nil_sublist _)))
end Go.Proofs.YtobfeflheaobiaaGreatDoor
