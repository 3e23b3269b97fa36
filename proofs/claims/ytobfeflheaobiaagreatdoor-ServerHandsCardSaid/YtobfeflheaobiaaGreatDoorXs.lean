/- What package server makes of a message: what it is to it, what is judged, what is sent on, Handle. -/
import Derived.Test.YtobfeflheaobiaaGreatDoorXg
set_option linter.unusedVariables false
set_option linter.unusedSimpArgs false
set_option linter.unusedSectionVars false
namespace Go.Proofs.YtobfeflheaobiaaGreatDoor
open Go.RowKit
theorem gA (x:Int) (w:World) (hx:0≤x∧x≤1000):Calls Tryz.prog 22 [.int .i64 x].toArray w (bT w (is (.int .i64 (16+x)))):=by
 refine br Tryz.func22 rfl Tryz.ntmps22 rfl fun f h s=>bG ac 1 h rfl fun f h=>cd ac 1 h rfl fun f h=>ag h (bh (h.ev rfl) (h.ev rfl) (by omega)) rfl fun f h=>e9 ac 1 h rfl fun f h=>wpIn_ret (aI rfl h s rfl (rfl))
theorem fV (sv:Sv) (vt:Value) (w:World) (hT:cK w vt sv.tb) (htl:sv.tb.length≤1000):Calls Tryz.prog 9 [.agg (aC sv.no sv.sec vt)].toArray w (bT w (is (.bool (bO sv)))):=by
 refine br Tryz.func9 rfl Tryz.ntmps9 rfl fun f h s=>qr (aR (aC sv.no sv.sec vt) h s rfl rfl rfl fun f w1 b1 h s=>e9 ac 1 h rfl fun f h=>al ?_)
 refine rs ac 1 h rfl fun f h=>ap (V:=.int .i64 sv.no) (ae (aO.of_own s 0 rfl) 0 (so _ _ _)) h bJ rfl rfl fun f h=>da ac h rfl (fun h0 f h=>?_) (fun h0 f h=>?_)
 ·refine e9 ac 17 h rfl fun f h=>wpIn_ret (aI rfl h s rfl (by show _=_;unfold bO;rw [h0];rfl))
 ·skip
  refine aq ac 2 h rfl fun f h=>ca h rfl (ap (V:=.int .i64 sv.no) (ae (aO.of_own s 0 rfl) 0 (so _ _ _)) h bJ rfl rfl fun f h=>ca h rfl (sg ac (decide (sv.no≤15)) h rfl ((decide_eq_decide.2 (by omega))) (fun h1 f h=>?_) (fun h1 f h=>?_)))
  ·refine e9 ac 13 h rfl fun f h=>wpIn_ret (aI rfl h s rfl (by show _=_;unfold bO;rw [h0,h1];rfl))
  ·skip
   refine aq ac 3 h rfl fun f h=>ca h rfl (ap (V:=.string sv.sec) (ae (aO.of_own s 0 rfl) 1 (pX _ _ _)) h fa rfl rfl fun f h=>ca h rfl (ag h (cA Tryz.underlying9 (h.ev rfl)) rfl fun f h=>ca h rfl (sg ac (decide (sv.sec.size≤64)) h rfl ((decide_eq_decide.2 (by omega))) (fun h2 f h=>?_) (fun h2 f h=>?_))))
   ·refine e9 ac 7 h rfl fun f h=>wpIn_ret (aI rfl h s rfl (by show _=_;unfold bO;rw [h0,h1,h2];rfl))
   ·refine aq ac 3 h rfl fun f h=>ca h rfl (ap (V:=vt) (ae (aO.of_own s 0 rfl) 2 (im _ _ _)) h di rfl rfl fun f h=>ca h rfl (cn h s iW (c0 sv.tb vt _ (hT.keep s.ext) htl) rfl rfl fun f w1 h s=>e9 ac 2 h rfl fun f h=>wpIn_ret (aI rfl h s rfl (by show _=_;unfold bO;rw [h0,h1,h2];rfl))))
theorem wQ (sv:Sv) (vt:Value) (now:Int) (w:World) (hT:cK w vt sv.tb) (htl:sv.tb.length≤1000) (hr:bp sv.tb=true):Calls Tryz.prog 25 [.agg (aC sv.no sv.sec vt),.int .i64 now].toArray w (bT w (Lc w sv vt (xx sv.tb now))):=by
 refine br Tryz.func25 rfl Tryz.ntmps25 rfl fun f h s=>qr (aR (aC sv.no sv.sec vt) h s rfl rfl rfl fun f w1 b2 h s=>aJ (aC 0 ByteArray.empty aM) h s dZ rfl rfl fun f w1 b4 h s=>nt (cd ac 1 h rfl fun f h=>ap (V:=vt) (ae (aO.of_own s 1 rfl) 2 (im _ _ _)) h di rfl rfl fun f h=>aq ac 1 h rfl fun f h=>bk h s In (Ad sv.tb vt now _ (hT.keep s.ext) htl) rfl rfl ?_));rintro f w1 v9 ⟨va,kva,rfl,hG⟩ hE h sq;replace s:=s.add hG;clear hG
 rw [Gj hr now] at s
 refine aq ac 4 h rfl fun f h=>bD 2 h s di rfl rfl rfl (by rw [ak];omega) (bV (((s.getG 0 rfl) (hT.keep s.ext)))) fun w1 s=>?_
 replace s:=s.recell (D:=aC sv.no sv.sec va) 2 rfl (rfl)
 refine nt (qr (aj 2 h s a6 rfl rfl (ak _ _ _) rfl fun f h=>ao 1 h s a6 rfl rfl rfl (ak _ _ _) (ak _ _ _) (a7 _ _ (bV (((s.getG 0 rfl) (hT.keep s.ext))))) fun w1 s=>nt (wpIn_ret (fI 1 rfl h s a6 rfl rfl (ak _ _ _) (⟨va,kva,rfl,s.sel [0] rfl (by decide)⟩)))))
theorem xq (m:Mg) (vs:Value) (w:World) (hV:eg w vs m.l) (hml:m.l.length≤1000):Calls Tryz.prog 26 [.agg (a8 m vs)].toArray w (bT w (is (CV 94 95 99 m vs))):=by
 refine br Tryz.func26 rfl Tryz.ntmps26 rfl fun f h s=>qr (aR (a8 m vs) h s rfl rfl rfl fun f w1 b1 h s=>e9 ac 1 h rfl fun f h=>al (cd ac 1 h rfl fun f h=>ap (ae (aO.of_own s 0 rfl) 0 (lD _ _)) h bJ rfl rfl fun f h=>nt (wpIn_block (al (al ?_)))))
 refine az (da ac h rfl (fun k2 f h=>?_) (fun k2 f h=>?_))
 ·refine e9 ac 1 h rfl fun f h=>hI h rfl (al ?_)
  refine az (da ac h rfl (fun k4 f h=>?_) (fun k4 f h=>?_))
  ·refine e9 ac 1 h rfl fun f h=>hI h rfl ?_
   refine az (da ac h rfl (fun k6 f h=>?_) (fun k6 f h=>?_))
   ·refine e9 ac 1 h rfl fun f h=>hI h rfl (al ?_)
    refine az (da ac h rfl (fun k1 f h=>?_) (fun k1 f h=>?_))
    ·refine e9 ac 1 h rfl fun f h=>hI h rfl (wpIn_skip (bg (aH (qr (ag h (pn ID) rfl fun f h=>ag h (eP Tryz.underlying99 rfl (h.ev rfl)) rfl fun f h=>e9 ac 1 h rfl fun f h=>wpIn_ret (aI rfl h s rfl (by show _=_;unfold CV sy;rw [k2,k4,k6,k1];rfl)))))))
    ·refine e9 ac 1 h rfl fun f h=>cv h rfl (qr (aj 0 h s ck rfl rfl (aF _ _) rfl fun f h=>ag h (gf Hy (h.ev rfl)) rfl fun f h=>ag h (eP Tryz.underlying95 rfl (h.ev rfl)) rfl fun f h=>e9 ac 1 h rfl fun f h=>wpIn_ret (cp (bL (aI rfl h s rfl (by show _=_;unfold CV sy;rw [k2,k4,k6,k1];rfl))))))
   ·refine e9 ac 1 h rfl fun f h=>cv h rfl (qr (aj 0 h s ck rfl rfl (aF _ _) rfl fun f h=>ag h (gf yt (h.ev rfl)) rfl fun f h=>ag h (eP Tryz.underlying94 rfl (h.ev rfl)) rfl fun f h=>e9 ac 1 h rfl fun f h=>wpIn_ret (cp (bL (aI rfl h s rfl (by show _=_;unfold CV sy;rw [k2,k4,k6];rfl))))))
  ·refine e9 ac 1 h rfl fun f h=>cv h rfl (kt (cv h rfl (qr (aj 0 h s ck rfl rfl (aF _ _) rfl fun f h=>ag h (gf yt (h.ev rfl)) rfl fun f h=>ag h (eP Tryz.underlying94 rfl (h.ev rfl)) rfl fun f h=>e9 ac 1 h rfl fun f h=>wpIn_ret (cp (bL (aI rfl h s rfl (by show _=_;unfold CV sy;rw [k2,k4];rfl))))))))
 ·refine e9 ac 1 h rfl fun f h=>cv h rfl (kt (cv h rfl (qr (aj 0 h s ck rfl rfl (aF _ _) rfl fun f h=>ag h (gf yt (h.ev rfl)) rfl fun f h=>ag h (eP Tryz.underlying94 rfl (h.ev rfl)) rfl fun f h=>e9 ac 1 h rfl fun f h=>wpIn_ret (cp (bL (aI rfl h s rfl (by show _=_;unfold CV sy;rw [k2];rfl))))))))
theorem zI (m:Mg) (vs:Value) (w:World) (hV:eg w vs m.l) (hml:m.l.length≤1000) (h1:1≤m.l.length):Calls Tryz.prog 74 [.agg (a8 m vs)].toArray w (bT w (is (.tuple #[.agg (aw (bo (ce m)).2.1),.bool (decide ((bo (ce m)).1=1))]))):=by
 refine br Tryz.func74 rfl Tryz.ntmps74 rfl fun f h s=>qr (aR (a8 m vs) h s rfl rfl rfl fun f w1 b1 h s=>aJ (aw 0#256) h s fD rfl rfl fun f w1 b2 h s=>e9 ac 1 h rfl fun f h=>cd ac 2 h rfl fun f h=>ap (ae (aO.of_own s 1 rfl) 67 (fF _ _)) h eE rfl rfl fun f h=>ag h (bW (hV.keep s.ext) (0) Tryz.underlying29 l6 (h.ev rfl) (h.ev rfl) (rfl) (by omega)) rfl fun f h=>aE ((hV.keep s.ext).el (0) (by omega) (by decide) (D:=bc (bo (ce m))) (AD m.l 0 (by omega))) h cy rfl (aK _) rfl fun f h=>aJ (bc (0,0#256,0)) h s sG rfl rfl fun f w1 b4 h s=>ao 0 h s cy rfl rfl rfl (aK _) (aK _) (fO _) fun w1 s=>nt (al ?_))
 replace s:=s.bring 1 rfl
 replace s:St w [.blk b2 (.cells (aw 0#256) 26),.blk b4 (.cells (bc (bo (ce m))) 28),.blk b1 (.cells (a8 m vs) 95)] _:=s
 refine nI 1 [[],[0],[],[2],[2,3],[0,1],[0,1,2,3,4,5]] [[],[],[],[],[],[7],[]] [[_]] [.v _,.v (.agg (aw (bo (ce m)).2.1)),.v _,.v (.int .i64 (bo (ce m)).1),.v _,.m (fun v=>[.blk b2 (.cells (aw (bo (ce m)).2.1) 26)]),.v _] _ h s rfl (by kernel_rfl) (by kernel_rfl) (by kernel_rfl) (ii ac h rfl rfl rfl (cu ?_ (ii ac h rfl rfl rfl (cu ?_ (ii ac h rfl rfl rfl (cu ?_ (ii ac h rfl rfl rfl (trivial)))))))) [0,1,2,3,4,5,6] (by kernel_rfl) ?_
 ·intro f9 w2 vl2 E9 hs9 hd9 hl hF s
  have h:=cS [(10,_)] h hs9 hd9 ⟨bu hl 10 0 (by kernel_rfl) (hF 0 (by decide)),trivial⟩
  refine aE (aO.subL (aO.of_own s 0 rfl) 1 32 (D:=aw (_)) (gh _)) h aP rfl (by first|exact am _|exact ah _ _) rfl fun f h=>aB ⟨_,bv 11 h rfl rfl,rfl,s⟩
 ·intro f9 w2 vl2 E9 hs9 hd9 hl hF s
  have h:=cS [(12,_)] h hs9 hd9 ⟨bu hl 12 2 (by kernel_rfl) (hF 2 (by decide)),trivial⟩
  refine ap (ae (aO.of_own s 0 rfl) 0 (dC _)) h bJ rfl rfl fun f h=>aB ⟨_,bv 13 h rfl rfl,rfl,s⟩
 ·intro f9 w2 vl2 E9 hs9 hd9 hl hF s
  have h:=cS [(2,_),(11,_)] h hs9 hd9 ⟨fY hl 2 (by kernel_rfl) (h.holds 2 _ rfl),bu hl 11 1 (by kernel_rfl) (hF 1 (by decide)),trivial⟩
  refine ao 0 h s aP rfl rfl rfl (by first|exact am _|exact ah _ _) (by first|exact am _|exact ah _ _) (by first|exact c8 _|exact bM _ _) fun w1 s=>aB ⟨undef,fk rfl,trivial,s⟩
 intro f w1 vl2 hs9 hd9 hv hr hF s
 replace h:=j8 (ops:=_) [(10,_),(11,_),(12,_),(13,_),(14,_),(3,_)] h hs9 hd9 hr ⟨(hv 0 10 rfl).trans (hF 0 rfl),(hv 1 11 rfl).trans (hF 1 rfl),(hv 2 12 rfl).trans (hF 2 rfl),(hv 3 13 rfl).trans (hF 3 rfl),(hv 4 14 rfl).trans (hF 4 rfl),(hv 6 3 rfl).trans (hF 6 rfl),trivial⟩ (by kernel_rfl)
 refine aH (wpIn_ret (cU 0 rfl h s aP rfl rfl (by first|exact am _|exact ah _ _) rfl (rfl)))
theorem oG (p:Pk) (vs:Value) (w:World) (hP:eg w vs p.1):Calls Tryz.prog 75 [.agg (bP vs p.2.1 p.2.2)].toArray w (bT w (is (.agg (a8 (bZ p) vs)))):=by
 refine br Tryz.func75 rfl Tryz.ntmps75 rfl fun f h s=>qr (aR (bP vs p.2.1 p.2.2) h s rfl rfl rfl fun f w1 b1 h s=>aJ (a8 mZ aM) h s lF rfl rfl fun f w1 b2 h s=>nt (cd ac 1 h rfl fun f h=>ap (V:=vs) (ae (aO.of_own s 1 rfl) 0 (zr _ _ _)) h eE rfl rfl fun f h=>aq ac 1 h rfl fun f h=>ap (V:=.int .i64 p.2.1) (ae (aO.of_own s 1 rfl) 1 (xP _ _ _)) h bJ rfl rfl fun f h=>aq ac 1 h rfl fun f h=>ap (V:=.string p.2.2) (ae (aO.of_own s 1 rfl) 2 (Cq _ _ _)) h fa rfl rfl fun f h=>ag h (nD (l:=p.1) (f8 hP) (fq hP) ms rfl (h.ev rfl) (h.ev rfl) (h.ev rfl)) rfl fun f h=>ao 0 h s ck rfl rfl rfl (aF _ _) (aF _ _) (cH _ _ (bV hP)) fun w1 s=>nt (wpIn_ret (fI 0 rfl h s ck rfl rfl (aF _ _) (rfl)))))
theorem zE (e:cw) (w:World) (hh:e.1=2→0≤e.2.2∧e.2.2≤15):Calls Tryz.prog 76 [.agg (bc e)].toArray w (bT w (is (.int .i64 (fK e)))):=by
 refine br Tryz.func76 rfl Tryz.ntmps76 rfl fun f h s=>qr (aR (bc e) h s rfl rfl rfl fun f w1 b1 h s=>e9 ac 1 h rfl fun f h=>al (al ?_))
 refine rs ac 1 h rfl fun f h=>ap (V:=.int .i64 e.1) (ae (aO.of_own s 0 rfl) 0 (dC _)) h bJ rfl rfl fun f h=>da ac h rfl (fun k2 f h=>?_) (fun k2 f h=>?_)
 ·refine tY h rfl (bG ac 1 h rfl fun f h=>wpIn_ret (aI rfl h s rfl (by show _=_;unfold fK;rw [k2];rfl)))
 ·refine A4 h rfl (cd ac 1 h rfl fun f h=>ap (V:=.int .i64 e.2.2) (ae (aO.of_own s 0 rfl) 33 (df _)) h bJ rfl rfl fun f h=>cn h s qK (gA e.2.2 _ (by have:=hh (of_decide_eq_true k2);omega)) rfl rfl fun f w1 h s=>e9 ac 1 h rfl fun f h=>rt (aI rfl h s rfl (by show _=_;unfold fK;rw [k2];rfl)))
theorem wG (n:Int) (m:Mg) (v:Value) (b:Tg) (w:World):Calls Tryz.prog 78 [.agg (dy n m v b)].toArray w (bT w (is (.bool (decide (m.k=7))))):=by
 refine br Tryz.func78 rfl Tryz.ntmps78 rfl fun f h s=>qr (aR (dy n m v b) h s rfl rfl rfl fun f w1 b1 h s=>e9 ac 1 h rfl fun f h=>cd ac 2 h rfl fun f h=>ap (V:=.int .i64 m.k) (ae (aO.of_own s 0 rfl) 1 (GI _ _ _ _)) h bJ rfl rfl fun f h=>e9 ac 2 h rfl fun f h=>wpIn_ret (aI rfl h s rfl (rfl)))
theorem AS (K:List S2) (vh:Value) (w:World) (hR:bK w vh 139 K.length (aU K)) (hKl:K.length≤2000):Calls Tryz.prog 102 [vh,.func (.func 78) #[] #[]].toArray w (bT w (K7 K)):=by
 refine br Tryz.func102 rfl Tryz.ntmps102 rfl fun f h s=>bG ac 1 h rfl fun f h=>al (cd ac 1 h rfl fun f h=>eh h (hR.keep s.ext) Tryz.underlying34 rfl rfl fun f h=>e9 ac 1 h rfl fun f h=>wpIn_block (wpIn_loop_ghost (fun nn aa ww=>∃ k:Nat,Sl 19 aa [(0,vh),(1,.func (.func 78) #[] #[]),(6,vh),(7,.int .i64 (K.length:Int)),(8,.int .i64 (k:Int))]∧St w [] ww∧nn=K.length - k∧k≤K.length∧∀ i,i<k→j7 (K.getD i nH)=false) (K.length - (0)) ⟨0,h.only ⟨rfl,rfl,rfl,rfl,ar rfl (by omega),trivial⟩,s.as trivial,rfl,Nat.zero_le _,fun i hi=>absurd hi (Nat.not_lt_zero _)⟩ ?_))
 rintro _ f w1 ⟨k,h,s,hnn,hp0,hp1⟩
 refine bG ac 1 h rfl fun f h=>al (cL h rfl (fun hc=>?_) (fun hc=>?_))
 ·refine kt (al (wpIn_block (bG ac 2 h rfl fun f h=>qr ?_)))
  have hkl:k<K.length:=by omega
  refine aq ac 3 h rfl fun f h=>ag h (bW (hR.keep s.ext) (k) Tryz.underlying34 yz (h.ev rfl) (h.ev rfl) (by omega) (by omega)) rfl fun f h=>aE ((hR.keep s.ext).el (k) (by omega) (by decide) (D:=dy (K.getD k nH).1.1 (K.getD k nH).1.2.1 (K.getD k nH).2 (K.getD k nH).1.2.2) (zY K k hkl)) h HC rfl (nA _ _ _ _) rfl fun f h=>ja [.agg (dy (K.getD k nH).1.1 (K.getD k nH).1.2.1 (K.getD k nH).2 (K.getD k nH).1.2.2)] (caps:=[]) h s Ih rfl (wG _ _ _ _ _) rfl rfl ?_;intro f w1 v16 hT hE h s;obtain rfl:=hT
  refine nt (cq h rfl (fun hc=>?_) (fun hc=>?_))
  ·have hc:j7 (K.getD k nH)=true:=hc
   refine bG ac 2 h rfl fun f h=>wpIn_ret (cp (bL (bL (cp (bL (aI rfl h s rfl (⟨_,rfl,HT hkl hc⟩)))))))
  ·have hc:j7 (K.getD k nH)=false:=hc
   refine wpIn_skip (bg (aH (az (ag h (bh (h.ev rfl) (h.ev rfl) (by omega)) rfl fun f h=>e9 ac 1 h rfl fun f h=>?_))))
   exact ⟨_,by omega,⟨k+1,h.only ⟨rfl,rfl,rfl,rfl,ar rfl (by omega),trivial⟩,St.as s trivial,rfl,by omega,u1 (q:=fun j=>j7 (K.getD j nH)) hp1 hc⟩⟩
 ·refine wpIn_exit (aZ (aZ (bQ (aH (bG ac 1 h rfl fun f h=>wpIn_ret (aI rfl h s rfl (⟨_,rfl,Hd (fun i hi=>hp1 i (by omega))⟩)))))))
theorem sI (K:List S2) (vh:Value) (w:World) (hR:bK w vh 139 K.length (aU K)) (hKl:K.length≤2000):Calls Tryz.prog 77 [vh,.func (.func 78) #[] #[]].toArray w (bT w (is (.bool (K.any j7)))):=by
 refine br Tryz.func77 rfl Tryz.ntmps77 rfl fun f h s=>bG ac 1 h rfl fun f h=>cd ac 2 h rfl fun f h=>bk h s Gm (AS K vh _ (hR.keep s.ext) hKl) rfl rfl ?_;rintro f w1 v9 ⟨r9,rfl,hr⟩ hE h s
 refine lg ac (.bool (K.any j7)) h rfl (congrArg Value.bool hr) rfl fun f h=>e9 ac 1 h rfl fun f h=>wpIn_ret (aI rfl h s rfl (rfl))
set_option maxHeartbeats 2000000 in
theorem sD (sv:Sv) (vt:Value) (fr:Int) (m:Mg) (vs:Value) (now:Int) (w:World) (hT:cK w vt sv.tb) (htl:sv.tb.length≤1000) (hV:eg w vs m.l) (hml:m.l.length≤1000) (ha:cr m=true) (hn:0≤now∧now≤1099511627776) (h6:decide (m.k=6)=false):Calls Tryz.prog 71 [.agg (aC sv.no sv.sec vt),.int .i64 fr,.agg (a8 m vs),.int .i64 now].toArray w (bT w (rQ w vt vs sv.tb m.l ⟨⟨sv.no,sv.sec,ip sv.tb (f7 m now)⟩,[(fr,ir m,aN)],fW sv.tb (f7 m now)⟩)):=by
 obtain ⟨q1,q2⟩:=Gi (Es (now:=now) ha h6 (decide_eq_false (by omega)) (decide_eq_false (by omega)))
 refine br Tryz.func71 rfl Tryz.ntmps71 rfl fun f h s=>qr (aR (aC sv.no sv.sec vt) h s rfl rfl rfl fun f w1 b4 h s=>aR (a8 m vs) h s rfl rfl rfl fun f w1 b6 h s=>aJ (aC 0 ByteArray.empty aM) h s dZ rfl rfl fun f w1 b8 h s=>e9 ac 2 h rfl fun f h=>qr (aj 1 h s ck rfl rfl (aF _ _) rfl fun f h=>aq ac 1 h rfl fun f h=>cn h s H6 (bj (.tuple #[.agg (au (f7 m now)),.int .i64 0]) (xu m vs now _ (hV.keep s.ext) hml) (by rw [q1,q2])) rfl rfl fun f w1 h s=>aq ac 3 h rfl fun f h=>aJ (au aN) h s dM rfl rfl fun f w1 b11 h s=>ao 0 h s aT rfl rfl rfl (ai _) (ai _) (aY _) fun w1 s=>e9 ac 1 h rfl fun f h=>cd ac 1 h rfl fun f h=>ap (V:=vt) (ae (aO.of_own s 3 rfl) 2 (im _ _ _)) h di rfl rfl fun f h=>aj 0 h s aT rfl rfl (ai _) rfl fun f h=>bk h s x5 (m4 sv.tb vt (f7 m now) _ (hT.keep s.ext) htl) rfl rfl ?_));rintro f w1 v25 ⟨va,kva,rfl,hG⟩ hE h sq;replace s:=s.add hG;clear hG
 have hva1:=bV (((s.getG 0 rfl) (hT.keep s.ext)))
 refine e9 ac 5 h rfl fun f h=>cd ac 2 h rfl fun f h=>bD 4 h s di rfl rfl rfl (by rw [ak];omega) (bV (((s.getG 0 rfl) (hT.keep s.ext)))) fun w1 s=>?_
 replace s:=s.recell (D:=aC sv.no sv.sec va) 4 rfl (rfl)
 refine nt (al ?_)
 replace s:=s.bring 2 rfl
 replace s:St w [.blk b8 (.cells (aC 0 ByteArray.empty aM) 24),(.grp kva (fun w9=>cK w9 vt sv.tb→cK w9 va (ip sv.tb (f7 m now)))),.blk b11 (.cells (au (f7 m now)) 67),.blk b6 (.cells (a8 m vs) 31),.blk b4 (.cells (aC sv.no sv.sec va) 24)] _:=s
 refine nI 1 [[],[],[],[2],[],[4],[2,3,4,5],[1,2,3,4,5,6],[1,2,3,4,5,6,7],[],[0],[0,1,2,3,4,5,6,7,8,10],[0,1,2,3,4,5,6,7,8,9,10,11]] [[],[],[],[],[],[],[],[],[],[],[13],[8],[]] [[_]] [.v (.agg (aC sv.no sv.sec va)),.v _,.v _,.v (.agg (aw m.i)),.v _,.v (.agg (bc m.t)),.v (.agg (a8 (ir m) aM)),.v (.agg (dy fr (ir m) aM aN)),.m (fun v=>[.sl (v 8) 71 139 [(((fr,ir m,aN),aM):S2)].length (aU [(((fr,ir m,aN),aM):S2)])]),.v _,.m (fun v=>[.blk b8 (.cells (aC sv.no sv.sec va) 24)]),.m (fun v=>[.sl (v 11) 71 139 [(((fr,ir m,aN),aM):S2)].length (aU [(((fr,ir m,aN),aM):S2)])]),.v _] _ h s rfl (by kernel_rfl) (by kernel_rfl) (by kernel_rfl) (cu ?_ (ii ac h rfl rfl rfl (ii ac h rfl rfl rfl (cu ?_ (ii ac h rfl rfl rfl (cu ?_ (cu ?_ (cu ?_ (cu ?_ (ii ac h rfl rfl rfl (cu ?_ (cu ?_ (ii ac h rfl rfl rfl (trivial)))))))))))))) [0,1,2,3,4,5,6,7,9,10,11,12] (by kernel_rfl) ?_
 ·intro f9 w2 vl4 E9 hs9 hd9 hl hF s
  have h:=cS [(4,_)] h hs9 hd9 ⟨fY hl 4 (by kernel_rfl) (h.holds 4 _ rfl),trivial⟩
  refine aj 3 h s a6 rfl rfl (ak _ _ _) rfl fun f h=>aB ⟨_,bv 30 h rfl rfl,rfl,s⟩
 ·intro f9 w2 vl4 E9 hs9 hd9 hl hF s
  have h:=cS [(32,_)] h hs9 hd9 ⟨bu hl 32 2 (by kernel_rfl) (hF 2 (by decide)),trivial⟩
  refine aE (aO.subL (aO.of_own s 2 rfl) 1 32 (D:=aw m.i) (eM _ _)) h aP rfl (by first|exact am _|exact ah _ _) rfl fun f h=>aB ⟨_,bv 33 h rfl rfl,rfl,s⟩
 ·intro f9 w2 vl4 E9 hs9 hd9 hl hF s
  have h:=cS [(34,_)] h hs9 hd9 ⟨bu hl 34 4 (by kernel_rfl) (hF 4 (by decide)),trivial⟩
  refine aE (aO.subL (aO.of_own s 2 rfl) 33 34 (D:=bc m.t) (dS _ _)) h cy rfl (aK _) rfl fun f h=>aB ⟨_,bv 35 h rfl rfl,rfl,s⟩
 ·intro f9 w2 vl4 E9 hs9 hd9 hl hF s
  have h:=cS [(33,_),(35,_)] h hs9 hd9 ⟨bu hl 33 3 (by kernel_rfl) (hF 3 (by decide)),bu hl 35 5 (by kernel_rfl) (hF 5 (by decide)),trivial⟩
  refine ag h (n5 ms rfl (h.ev rfl) (h.ev rfl)) rfl fun f h=>aB ⟨_,bv 36 h rfl rfl,rfl,s⟩
 ·intro f9 w2 vl4 E9 hs9 hd9 hl hF s
  have h:=cS [(31,_),(36,_)] h hs9 hd9 ⟨bu hl 31 1 (by kernel_rfl) (hF 1 (by decide)),bu hl 36 6 (by kernel_rfl) (hF 6 (by decide)),trivial⟩
  refine ag h (eQ ou (h.ev rfl) (h.ev rfl)) rfl fun f h=>aB ⟨_,bv 37 h rfl rfl,rfl,s⟩
 ·intro f9 w2 vl4 E9 hs9 hd9 hl hF s
  have h:=cS [(37,_)] h hs9 hd9 ⟨bu hl 37 7 (by kernel_rfl) (hF 7 (by decide)),trivial⟩
  refine bF (vs:=[.agg (dy fr (ir m) aM aN)]) [.tmp 37] h s Tryz.underlying34 jA rfl rfl (o4 (((fr,ir m,aN),aM):S2)) rfl rfl rfl fun f w1 v38 h s=>?_
  replace s:=s.resl (m:=[(((fr,ir m,aN),aM):S2)].length) (ys:=aU [(((fr,ir m,aN),aM):S2)]) 0 rfl rfl (by exact lh [] (((fr,ir m,aN),aM):S2))
  exact aB ⟨_,bv 38 h rfl rfl,trivial,s⟩
 ·intro f9 w2 vl4 E9 hs9 hd9 hl hF s
  have h:=cS [(8,_),(30,_)] h hs9 hd9 ⟨fY hl 8 (by kernel_rfl) (h.holds 8 _ rfl),bu hl 30 0 (by kernel_rfl) (hF 0 (by decide)),trivial⟩
  refine ao 0 h s a6 rfl rfl rfl (ak _ _ _) (ak _ _ _) (a7 _ _ hva1) fun w1 s=>aB ⟨undef,fk rfl,trivial,s⟩
 ·intro f9 w2 vl4 E9 hs9 hd9 hl hF s
  have e38:f9.tmps.getD 38 undef=(vl4 8):=cz hl 38 8 (by kernel_rfl) (by kernel_rfl)
  have h:=bI [(38,(vl4 8))] (hs9.trans h.size) (hd9.trans h.defers) (holds_lk ⟨e38,trivial⟩)
  refine aq ac 1 h rfl fun f h=>aB ⟨_,bv 9 h rfl rfl,trivial,s⟩
 intro f w1 vl4 hs9 hd9 hv hr hF s
 replace h:=j8 (ops:=_) [(30,_),(31,_),(32,_),(33,_),(34,_),(35,_),(36,_),(37,_),(38,(vl4 8)),(39,_),(9,(vl4 11)),(10,_)] h hs9 hd9 hr ⟨(hv 0 30 rfl).trans (hF 0 rfl),(hv 1 31 rfl).trans (hF 1 rfl),(hv 2 32 rfl).trans (hF 2 rfl),(hv 3 33 rfl).trans (hF 3 rfl),(hv 4 34 rfl).trans (hF 4 rfl),(hv 5 35 rfl).trans (hF 5 rfl),(hv 6 36 rfl).trans (hF 6 rfl),(hv 7 37 rfl).trans (hF 7 rfl),hv 8 38 rfl,(hv 9 39 rfl).trans (hF 9 rfl),hv 11 9 rfl,(hv 12 10 rfl).trans (hF 12 rfl),trivial⟩ (by kernel_rfl)
 replace s:St w [.blk b8 (.cells (aC sv.no sv.sec va) 24),.sl (vl4 11) 71 139 [(((fr,ir m,aN),aM):S2)].length (aU [(((fr,ir m,aN),aM):S2)]),(.grp kva (fun w9=>cK w9 vt sv.tb→cK w9 va (ip sv.tb (f7 m now)))),.blk b11 (.cells (au (f7 m now)) 67),.blk b6 (.cells (a8 m vs) 31),.blk b4 (.cells (aC sv.no sv.sec va) 24)] _:=s
 refine aH (wpIn_ret ?_)
 exact bs 0 rfl h s a6 rfl rfl (ak _ _ _) rfl rfl (BG rfl rfl (s.sel [1,2] rfl (by decide)))
set_option maxHeartbeats 4000000 in
theorem tt (sv:Sv) (vt:Value) (fr:Int) (m:Mg) (vs:Value) (now:Int) (w:World) (hT:cK w vt sv.tb) (htl:sv.tb.length≤1000) (hV:eg w vs m.l) (hml:m.l.length≤1000) (ha:cr m=true) (hn:0≤now∧now≤1099511627776) (hsz:sv.sec.size≤64) (hH:dB w 0 (wF gF 8)) (hK:dB w 1 (wF gv 64)):Calls Tryz.prog 47 [.agg (aC sv.no sv.sec vt),.int .i64 fr,.agg (a8 m vs),.int .i64 now].toArray w (bT w (rQ w vt vs sv.tb m.l (iq sv fr m now))):=by
 obtain ⟨p1,p2,p3⟩:=D7 (s:=sv.sec) ha hsz
 obtain ⟨hh1,hh2⟩:=tF (gN ha).1
 refine br Tryz.func47 rfl Tryz.ntmps47 rfl fun f h s=>qr (aR (aC sv.no sv.sec vt) h s rfl rfl rfl fun f w1 b4 h s=>aR (a8 m vs) h s rfl rfl rfl fun f w1 b6 h s=>aJ (aC 0 ByteArray.empty aM) h s dZ rfl rfl fun f w1 b8 h s=>e9 ac 2 h rfl fun f h=>cd ac 1 h rfl fun f h=>ap (V:=.string sv.sec) (ae (aO.of_own s 2 rfl) 1 (pX _ _ _)) h fa rfl rfl fun f h=>aj 1 h s ck rfl rfl (aF _ _) rfl fun f h=>bk h s Hm (t4 sv.sec (by omega) m vs _ (hV.keep s.ext) hml (hH.keep s.ext) (hK.keep s.ext)) rfl rfl ?_);rintro f w1 v20 ⟨ua,kua,rfl,hG⟩ hE h sq;replace s:=s.add hG;clear hG
 rw [p1,p2,p3] at h
 rw [p3] at s
 have hua1:=bV ((s.getG 0 rfl) (hV.keep s.ext))
 refine aq ac 4 h rfl fun f h=>aJ (a8 mZ aM) h s lF rfl rfl fun f w1 b12 h s=>aq ac 1 h rfl fun f h=>ao 0 h s ck rfl rfl rfl (aF _ _) (aF _ _) (cH _ _ hua1) fun w1 s=>e9 ac 1 h rfl fun f h=>al (bG ac 1 h rfl fun f h=>wpIn_block (al ?_))
 refine az (da ac h rfl (fun j1 f h=>?_) (fun j1 f h=>?_))
 ·refine e9 ac 1 h rfl fun f h=>hI h rfl (al ?_)
  refine az (da ac h rfl (fun j2 f h=>?_) (fun j2 f h=>?_))
  ·refine e9 ac 1 h rfl fun f h=>hI h rfl (al ?_)
   refine az (da ac h rfl (fun j3 f h=>?_) (fun j3 f h=>?_))
   ·refine e9 ac 1 h rfl fun f h=>hI h rfl (wpIn_skip (bg (aH (qr (aj 4 h s a6 rfl rfl (ak _ _ _) rfl fun f h=>ao 2 h s a6 rfl rfl rfl (ak _ _ _) (ak _ _ _) (a7 _ _ (bV hT)) fun w1 s=>e9 ac 2 h rfl fun f h=>wpIn_ret ?_)))))
    exact bs 2 rfl h s a6 rfl rfl (ak _ _ _) rfl rfl (y9 (Em j1 j2 j3) (s.pick _ (List.nil_sublist _)))
   ·refine e9 ac 1 h rfl fun f h=>cv h rfl (cd ac 1 h rfl fun f h=>ap (V:=vt) (ae (aO.of_own s 4 rfl) 2 (im _ _ _)) h di rfl rfl fun f h=>aq ac 1 h rfl fun f h=>aE (aO.subL (aO.of_own s 3 rfl) 1 32 (D:=aw m.i) (eM _ _)) h aP rfl (by first|exact am _|exact ah _ _) rfl fun f h=>aq ac 1 h rfl fun f h=>aE (aO.subL (aO.of_own s 3 rfl) 33 34 (D:=bc m.t) (dS _ _)) h cy rfl (aK _) rfl fun f h=>bk h s Ic (xb sv.tb vt m.i m.t _ (hT.keep s.ext) htl) rfl rfl ?_);rintro f w1 v54 ⟨va,kva,rfl,hG⟩ hE h sq;replace s:=s.add hG;clear hG
    have hva1:=bV ((s.getG 0 rfl) (hT.keep s.ext))
    refine e9 ac 5 h rfl fun f h=>cd ac 2 h rfl fun f h=>bD 5 h s di rfl rfl rfl (by rw [ak];omega) (bV (((s.getG 0 rfl) (hT.keep s.ext)))) fun w1 s=>?_
    replace s:=s.recell (D:=aC sv.no sv.sec va) 5 rfl (rfl)
    refine nt (qr (aj 5 h s a6 rfl rfl (ak _ _ _) rfl fun f h=>aq ac 1 h rfl fun f h=>ao 3 h s a6 rfl rfl rfl (ak _ _ _) (ak _ _ _) (a7 _ _ hva1) fun w1 s=>e9 ac 2 h rfl fun f h=>wpIn_ret (cp (bL ?_))))
    exact bs 3 rfl h s a6 rfl rfl (ak _ _ _) rfl rfl (Bf (yM j1 j2 j3) (s.sel [0] rfl (by decide)))
  ·refine e9 ac 1 h rfl fun f h=>cv h rfl (qr (aj 4 h s a6 rfl rfl (ak _ _ _) rfl fun f h=>aq ac 1 h rfl fun f h=>aj 3 h s ck rfl rfl (aF _ _) rfl fun f h=>aq ac 1 h rfl fun f h=>bk h s HV (sD sv vt fr m vs now _ (hT.keep s.ext) htl (hV.keep s.ext) hml ha hn (DL j2)) rfl rfl ?_));rintro f w1 v41 ⟨tub,ub,Kub,kub,rfl,hub,hG⟩ hE h sq;replace s:=s.add hG;clear hG
   have hub1:=bV (((s.getG 0 rfl) (hT.keep s.ext) (hV.keep s.ext)).1)
   refine aq ac 3 h rfl fun f h=>ao 3 h s a6 rfl rfl rfl (ak _ _ _) (ak _ _ _) (a7 _ _ hub1) fun w1 s=>e9 ac 2 h rfl fun f h=>wpIn_ret (cp (bL ?_))
   exact bs 3 rfl h s a6 rfl rfl (ak _ _ _) rfl rfl (by rw [zf j1 j2];exact ⟨tub,ub,Kub,kub,rfl,hub,s.sel [0] rfl (by decide)⟩)
 ·refine e9 ac 1 h rfl fun f h=>cv h rfl (al ?_)
  replace s:=s.bring 2 rfl
  replace s:St w [.blk b8 (.cells (aC 0 ByteArray.empty aM) 24),.blk b12 (.cells (a8 (dW sv.sec m) ua) 31),(.grp kua (fun w9=>eg w9 vs m.l→eg w9 ua (dW sv.sec m).l)),.blk b6 (.cells (a8 m vs) 31),.blk b4 (.cells (aC sv.no sv.sec vt) 24)] _:=s
  refine nI 1 [[],[],[1],[1,2],[1,2,3],[],[1,2,3,4,5],[1,2,3,4,5,6],[0,1,2,3,4],[0,1,2,3,4,5,6,7,8],[0,1,2,3,4,5,6,7,8,9]] [[],[],[],[],[],[],[],[],[11],[7],[]] [[_]] [.v (.agg (aC sv.no sv.sec vt)),.v _,.v _,.v (.int .i64 m.t.2.2),.v (.int .i64 (16+m.t.2.2)),.v (.agg (a8 (dW sv.sec m) ua)),.v (.agg (dy (16+m.t.2.2) (dW sv.sec m) ua aN)),.m (fun v=>[.sl (v 7) 71 139 [(((16+m.t.2.2,(dW sv.sec m),aN),ua):S2)].length (aU [(((16+m.t.2.2,(dW sv.sec m),aN),ua):S2)])]),.m (fun v=>[.blk b8 (.cells (aC sv.no sv.sec vt) 24)]),.m (fun v=>[.sl (v 9) 71 139 [(((16+m.t.2.2,(dW sv.sec m),aN),ua):S2)].length (aU [(((16+m.t.2.2,(dW sv.sec m),aN),ua):S2)])]),.v _] _ h s rfl (by kernel_rfl) (by kernel_rfl) (by kernel_rfl) (cu ?_ (ii ac h rfl rfl rfl (ii ac h rfl rfl rfl (cu ?_ (cu ?_ (cu ?_ (cu ?_ (cu ?_ (cu ?_ (cu ?_ (ii ac h rfl rfl rfl (trivial)))))))))))) [0,1,2,3,4,5,6,8,9,10] (by kernel_rfl) ?_
  ·intro f9 w2 vl4 E9 hs9 hd9 hl hF s
   have h:=cS [(4,_)] h hs9 hd9 ⟨fY hl 4 (by kernel_rfl) (h.holds 4 _ rfl),trivial⟩
   refine aj 3 h s a6 rfl rfl (ak _ _ _) rfl fun f h=>aB ⟨_,bv 27 h rfl rfl,rfl,s⟩
  ·intro f9 w2 vl4 E9 hs9 hd9 hl hF s
   have h:=cS [(29,_)] h hs9 hd9 ⟨bu hl 29 2 (by kernel_rfl) (hF 2 (by decide)),trivial⟩
   refine ap (ae (aO.of_own s 2 rfl) 66 (wd _ _)) h bJ rfl rfl fun f h=>aB ⟨_,bv 30 h rfl rfl,rfl,s⟩
  ·intro f9 w2 vl4 E9 hs9 hd9 hl hF s
   have h:=cS [(30,_)] h hs9 hd9 ⟨bu hl 30 3 (by kernel_rfl) (hF 3 (by decide)),trivial⟩
   refine cn h s qK (gA m.t.2.2 _ (by omega)) rfl rfl fun f w1 h s=>aB ⟨_,bv 31 h rfl rfl,rfl,s⟩
  ·intro f9 w2 vl4 E9 hs9 hd9 hl hF s
   have h:=cS [(12,_)] h hs9 hd9 ⟨fY hl 12 (by kernel_rfl) (h.holds 12 _ rfl),trivial⟩
   refine aj 0 h s ck rfl rfl (aF _ _) rfl fun f h=>aB ⟨_,bv 32 h rfl rfl,rfl,s⟩
  ·intro f9 w2 vl4 E9 hs9 hd9 hl hF s
   have h:=cS [(31,_),(32,_)] h hs9 hd9 ⟨bu hl 31 4 (by kernel_rfl) (hF 4 (by decide)),bu hl 32 5 (by kernel_rfl) (hF 5 (by decide)),trivial⟩
   refine ag h (eQ ou (h.ev rfl) (h.ev rfl)) rfl fun f h=>aB ⟨_,bv 33 h rfl rfl,rfl,s⟩
  ·intro f9 w2 vl4 E9 hs9 hd9 hl hF s
   have h:=cS [(33,_)] h hs9 hd9 ⟨bu hl 33 6 (by kernel_rfl) (hF 6 (by decide)),trivial⟩
   refine bF (vs:=[.agg (dy (16+m.t.2.2) (dW sv.sec m) ua aN)]) [.tmp 33] h s Tryz.underlying34 jA rfl rfl (o4 (((16+m.t.2.2,(dW sv.sec m),aN),ua):S2)) rfl rfl rfl fun f w1 v34 h s=>?_
   replace s:=s.resl (m:=[(((16+m.t.2.2,(dW sv.sec m),aN),ua):S2)].length) (ys:=aU [(((16+m.t.2.2,(dW sv.sec m),aN),ua):S2)]) 0 rfl rfl (by exact lh [] (((16+m.t.2.2,(dW sv.sec m),aN),ua):S2))
   exact aB ⟨_,bv 34 h rfl rfl,trivial,s⟩
  ·intro f9 w2 vl4 E9 hs9 hd9 hl hF s
   have h:=cS [(8,_),(27,_)] h hs9 hd9 ⟨fY hl 8 (by kernel_rfl) (h.holds 8 _ rfl),bu hl 27 0 (by kernel_rfl) (hF 0 (by decide)),trivial⟩
   refine ao 0 h s a6 rfl rfl rfl (ak _ _ _) (ak _ _ _) (a7 _ _ (bV hT)) fun w1 s=>aB ⟨undef,fk rfl,trivial,s⟩
  ·intro f9 w2 vl4 E9 hs9 hd9 hl hF s
   have e34:f9.tmps.getD 34 undef=(vl4 7):=cz hl 34 7 (by kernel_rfl) (by kernel_rfl)
   have h:=bI [(34,(vl4 7))] (hs9.trans h.size) (hd9.trans h.defers) (holds_lk ⟨e34,trivial⟩)
   refine aq ac 1 h rfl fun f h=>aB ⟨_,bv 9 h rfl rfl,trivial,s⟩
  intro f w1 vl4 hs9 hd9 hv hr hF s
  replace h:=j8 (ops:=_) [(27,_),(28,_),(29,_),(30,_),(31,_),(32,_),(33,_),(34,(vl4 7)),(9,(vl4 9)),(10,_)] h hs9 hd9 hr ⟨(hv 0 27 rfl).trans (hF 0 rfl),(hv 1 28 rfl).trans (hF 1 rfl),(hv 2 29 rfl).trans (hF 2 rfl),(hv 3 30 rfl).trans (hF 3 rfl),(hv 4 31 rfl).trans (hF 4 rfl),(hv 5 32 rfl).trans (hF 5 rfl),(hv 6 33 rfl).trans (hF 6 rfl),hv 7 34 rfl,hv 9 9 rfl,(hv 10 10 rfl).trans (hF 10 rfl),trivial⟩ (by kernel_rfl)
  replace s:St w [.blk b8 (.cells (aC sv.no sv.sec vt) 24),.sl (vl4 9) 71 139 [(((16+m.t.2.2,(dW sv.sec m),aN),ua):S2)].length (aU [(((16+m.t.2.2,(dW sv.sec m),aN),ua):S2)]),.blk b12 (.cells (a8 (dW sv.sec m) ua) 31),(.grp kua (fun w9=>eg w9 vs m.l→eg w9 ua (dW sv.sec m).l)),.blk b6 (.cells (a8 m vs) 31),.blk b4 (.cells (aC sv.no sv.sec vt) 24)] _:=s
  refine aH (wpIn_ret (cp (bL ?_)))
  exact bs 0 rfl h s a6 rfl rfl (ak _ _ _) rfl rfl (BQ (El j1) (s.sel [1,3] rfl (by decide)))
set_option maxHeartbeats 8000000 in
theorem rp (sv:Sv) (vt:Value) (fr:Int) (m:Mg) (vs:Value) (w:World) (hT:cK w vt sv.tb) (htl:sv.tb.length≤1000) (hV:eg w vs m.l) (hml:m.l.length≤1000) (hr:bO sv=true) (hM:cN m=true) (hk1:m.k=1):Calls Tryz.prog 48 [.agg (aC sv.no sv.sec vt),.int .i64 fr,.agg (a8 m vs)].toArray w (bT w (Kw w vs m.l (iU sv fr m))):=by
 have hpk:=AY hM hk1
 have hrt:=(dq.1 hr).2.2.2
 obtain ⟨hl1,hfk⟩:=ng hpk
 obtain ⟨_,hh1,hh2,_⟩:=dO.1 hpk
 replace hl1:1≤m.l.length:=hl1
 obtain ⟨e0,l0⟩:=zA (t:=sv.tb) hpk hrt
 refine br Tryz.func48 rfl Tryz.ntmps48 rfl fun f h s=>qr (aR (aC sv.no sv.sec vt) h s rfl rfl rfl fun f w1 b3 h s=>aR (a8 m vs) h s rfl rfl rfl fun f w1 b5 h s=>e9 ac 1 h rfl fun f h=>cd ac 2 h rfl fun f h=>ap (V:=vs) (ae (aO.of_own s 0 rfl) 67 (fF _ _)) h eE rfl rfl fun f h=>aq ac 2 h rfl fun f h=>ap (V:=.int .i64 m.n) (ae (aO.of_own s 0 rfl) 68 (eo _ _)) h bJ rfl rfl fun f h=>ag h (bm (.int .i64 (min m.n 64)) (lu (h.ev rfl) (h.ev rfl)) (congrArg (Value.int .i64) (by split<;>omega))) rfl fun f h=>aq ac 2 h rfl fun f h=>ap (V:=.string m.d) (ae (aO.of_own s 0 rfl) 70 (mR _ _)) h fa rfl rfl fun f h=>ag h (kw Ix (f8 (hV.keep s.ext)) (fq (hV.keep s.ext)) (h.ev rfl) (h.ev rfl) (h.ev rfl)) rfl fun f h=>aJ (bP aM 0 ByteArray.empty) h s vN rfl rfl fun f w1 b7 h s=>ao 0 h s gu rfl rfl rfl (cJ _ _ _) (cJ _ _ _) (jN _ _ (bV (hV.keep s.ext))) fun w1 s=>nt (cd ac 1 h rfl fun f h=>ap (V:=vt) (ae (aO.of_own s 2 rfl) 2 (im _ _ _)) h di rfl rfl fun f h=>aj 0 h s gu rfl rfl (cJ _ _ _) rfl fun f h=>bk h s HG (xk sv.tb vt (ce m) vs _ (hT.keep s.ext) htl (hV.keep s.ext) hml) rfl rfl ?_));rintro f w1 v31 ⟨uo,K,kb,rfl,hKb,hG⟩ hE h sq;replace s:=s.add hG;clear hG
 rw [l0] at hKb
 have hKn:K.length≤1000:=by have h9:=(An (t:=sv.tb) (p:=(ce m))).2;rw [← hKb,gG] at h9;omega
 refine e9 ac 5 h rfl fun f h=>qr (aj 2 h s yw rfl rfl (aF _ _) rfl fun f h=>cn h s HS (zI m vs _ (hV.keep s.ext) hml hl1) rfl rfl fun f w1 h s=>aq ac 3 h rfl fun f h=>aJ (aw 0#256) h s fD rfl rfl fun f w1 b10 h s=>ao 0 h s aP rfl rfl rfl (by first|exact am _|exact ah _ _) (by first|exact am _|exact ah _ _) (by first|exact c8 _|exact bM _ _) fun w1 s=>e9 ac 1 h rfl fun f h=>cd ac 1 h rfl fun f h=>cn h s qK (bj (.int .i64 16) (gA 0 _ (by omega)) (rfl)) rfl rfl fun f w1 h s=>lg ac (.bool (decide (16≤fr))) h rfl (rfl) rfl fun f h=>e9 ac 1 h rfl fun f h=>bG ac 1 h rfl fun f h=>al (cd ac 1 h rfl fun f h=>eh h (((s.getG 1 rfl) (hV.keep s.ext)).1) Tryz.underlying104 rfl rfl fun f h=>?_))
 replace s:=s.nilSl 71 139
 refine e9 ac 1 h rfl fun f h=>wpIn_block (wpIn_loop_ghost (fun nn aa ww=>∃ k:Nat,∃ ul:Value,∃ KS:List S2,Sl 115 aa [(0,.agg (aC sv.no sv.sec vt)),(2,.agg (a8 m vs)),(3,.pointer (some ⟨b3,0,none⟩)),(5,.pointer (some ⟨b5,0,none⟩)),(7,.pointer (some ⟨b7,0,none⟩)),(10,.pointer (some ⟨b10,0,none⟩)),(1,.int .i64 fr),(11,.bool (decide ((bo (ce m)).1=1))),(12,.bool (decide (16≤fr))),(13,ul),(42,uo),(43,.int .i64 (K.length:Int)),(44,.int .i64 (k:Int))]∧St w [.sl ul 71 139 KS.length (aU KS),.blk b10 (.cells (aw (bo (ce m)).2.1) 26),(.grp kb (fun w9=>eg w9 vs (ce m).1→xS w9 uo K)),.blk b7 (.cells (bP vs (min m.n 64) m.d) 103),.blk b5 (.cells (a8 m vs) 95),.blk b3 (.cells (aC sv.no sv.sec vt) 24)] ww∧nn=K.length - k∧k≤K.length∧cW KS=jI fr (ce m) ((eL K).take k)∧(∀ w9,ny K w9→lN KS w9)∧KS.length≤k) (K.length - (0)) ⟨0,aM,[],h.only ⟨rfl,rfl,rfl,rfl,rfl,rfl,rfl,rfl,rfl,rfl,rfl,rfl,ar rfl (by omega),trivial⟩,s.as ⟨rfl,rfl,rfl,rfl,rfl,rfl,trivial⟩,rfl,Nat.zero_le _,rfl,fun w9 _=>kE w9,Nat.le_refl _⟩ ?_)
 rintro _ f w1 ⟨k,ul,KS,h,s,hnn,hp0,hp1,hp2,hp3⟩
 refine bG ac 1 h rfl fun f h=>al (cL h rfl (fun hc=>?_) (fun hc=>?_))
 ·refine kt (al (wpIn_block (qr ?_)))
  have hkk:k<K.length:=by omega
  have hmo:(K.getD k bw).1∈cO sv.tb (ce m):=by rw [← hKb];exact List.mem_map.2 ⟨_,gy hkk,rfl⟩
  refine ag h (bW (((s.getG 2 rfl) (hV.keep s.ext)).1) (k) Tryz.underlying104 Fx (h.ev rfl) (h.ev rfl) (by omega) (by omega)) rfl fun f h=>aE ((((s.getG 2 rfl) (hV.keep s.ext)).1).el (k) (by omega) (by decide) (D:=co (K.getD k bw).1.k (K.getD k bw).1.h (K.getD k bw).2 (K.getD k bw).1.p.2.1 (K.getD k bw).1.p.2.2 (K.getD k bw).1.t (K.getD k bw).1.y) (Hg K k hkk)) h pb rfl (eA _ _ _ _ _ _ _) rfl fun f h=>aJ (co 0 0 aM 0 ByteArray.empty aN 0) h s ve rfl rfl fun f w1 b15 h s=>ao 0 h s pb rfl rfl rfl (eA _ _ _ _ _ _ _) (eA _ _ _ _ _ _ _) (jZ _ _ _ _ _ _ (bV ((((s.getG 3 rfl) (hV.keep s.ext)).2 _ (gy hkk))))) fun w1 s=>nt (wpIn_block (al ?_))
  refine rs ac 1 h rfl fun f h=>ap (V:=.int .i64 (K.getD k bw).1.k) (ae (aO.of_own s 0 rfl) 0 (HM _ _ _ _ _ _ _)) h bJ rfl rfl fun f h=>da ac h rfl (fun k1 f h=>?_) (fun k1 f h=>?_)
  ·refine e9 ac 1 h rfl fun f h=>hI h rfl (al ?_)
   refine rs ac 1 h rfl fun f h=>ap (V:=.int .i64 (K.getD k bw).1.k) (ae (aO.of_own s 0 rfl) 0 (HM _ _ _ _ _ _ _)) h bJ rfl rfl fun f h=>da ac h rfl (fun k2 f h=>?_) (fun k2 f h=>?_)
   ·refine e9 ac 1 h rfl fun f h=>hI h rfl (al ?_)
    refine rs ac 1 h rfl fun f h=>ap (V:=.int .i64 (K.getD k bw).1.y) (ae (aO.of_own s 0 rfl) 72 (Jt _ _ _ _ _ _ _)) h Ik rfl rfl fun f h=>da ac h rfl (fun k4 f h=>?_) (fun k4 f h=>?_)
    ·refine e9 ac 4 h rfl fun f h=>hI h rfl (wpIn_skip (bg (bg (aH (az (ag h (bh (h.ev rfl) (h.ev rfl) (by omega)) rfl fun f h=>?_))))))
     replace s:=s.nilSl 71 139
     refine e9 ac 1 h rfl fun f h=>?_
     obtain ⟨hs8,hs9⟩:=JF (fr:=fr) (p:=(ce m)) k1 k2 k4
     exact ⟨_,by omega,⟨k+1,ul,KS,h.only ⟨rfl,rfl,rfl,rfl,rfl,rfl,rfl,rfl,rfl,rfl,rfl,rfl,ar rfl (by omega),trivial⟩,St.as (s.pick _ (List.Sublist.cons _ (List.Sublist.cons _ (List.Sublist.cons_cons _ (List.Sublist.cons_cons _ (List.Sublist.cons_cons _ (List.Sublist.cons_cons _ (List.Sublist.cons_cons _ (List.Sublist.cons_cons _ (List.nil_sublist _)))))))))) ⟨rfl,rfl,rfl,rfl,rfl,rfl,trivial⟩,rfl,by omega,wC hkk hp1 hs8,hp2,Nat.le_succ_of_le hp3⟩⟩
    ·skip
     refine aq ac 1 h rfl fun f h=>ca h rfl (da ac h rfl (fun k5 f h=>?_) (fun k5 f h=>?_))
     ·refine e9 ac 2 h rfl fun f h=>hI h rfl (wpIn_skip (bg (bg (aH (az (ag h (bh (h.ev rfl) (h.ev rfl) (by omega)) rfl fun f h=>?_))))))
      replace s:=s.nilSl 71 139
      refine e9 ac 1 h rfl fun f h=>?_
      obtain ⟨hs8,hs9⟩:=Ja (fr:=fr) (p:=(ce m)) k1 k2 k5
      exact ⟨_,by omega,⟨k+1,ul,KS,h.only ⟨rfl,rfl,rfl,rfl,rfl,rfl,rfl,rfl,rfl,rfl,rfl,rfl,ar rfl (by omega),trivial⟩,St.as (s.pick _ (List.Sublist.cons _ (List.Sublist.cons _ (List.Sublist.cons_cons _ (List.Sublist.cons_cons _ (List.Sublist.cons_cons _ (List.Sublist.cons_cons _ (List.Sublist.cons_cons _ (List.Sublist.cons_cons _ (List.nil_sublist _)))))))))) ⟨rfl,rfl,rfl,rfl,rfl,rfl,trivial⟩,rfl,by omega,wC hkk hp1 hs8,hp2,Nat.le_succ_of_le hp3⟩⟩
     ·refine e9 ac 2 h rfl fun f h=>cv h rfl (az ?_)
      have hon9:∀ u∈aU [(((fr,(iz (f3 (ce m))),aN),aM):S2)],u.oneCell'=true:=mD (oD (kO w rfl rfl))
      refine aq ac 2 h rfl fun f h=>aj 2 h s aP rfl rfl (by first|exact am _|exact ah _ _) rfl fun f h=>ag h (qc ms rfl (h.ev rfl)) rfl fun f h=>ag h (eQ ou (h.ev rfl) (h.ev rfl)) rfl fun f h=>bF (vs:=[.agg (dy fr (iz (f3 (ce m))) aM aN)]) [.tmp 92] h s Tryz.underlying34 jA rfl rfl (o4 (((fr,(iz (f3 (ce m))),aN),aM):S2)) rfl rfl rfl fun f w1 v93 h s=>?_
      replace s:=s.resl (m:=[(((fr,(iz (f3 (ce m))),aN),aM):S2)].length) (ys:=aU [(((fr,(iz (f3 (ce m))),aN),aM):S2)]) 0 rfl rfl (by exact lh [] (((fr,(iz (f3 (ce m))),aN),aM):S2))
      refine dA 2 0 h s Tryz.underlying34 jA rfl rfl rfl rfl (Nat.le_refl _) (hon9) (by show KS.length+1≤_;unfold maxLen;omega) (by show (KS.length+1)*_≤_;omega) rfl fun f w1 v94 h s=>?_
      replace s:=s.pick _ (List.sublist_cons_self _ _)
      replace s:=s.resl (m:=(KS++[(((fr,(iz (f3 (ce m))),aN),aM):S2)]).length) (ys:=aU (KS++[(((fr,(iz (f3 (ce m))),aN),aM):S2)])) 1 rfl (List.length_append ..).symm (ft ..).symm
      refine aq ac 1 h rfl fun f h=>aB (bg (bg (aH (az (ag h (bh (h.ev rfl) (h.ev rfl) (by omega)) rfl fun f h=>?_)))))
      replace s:=s.nilSl 71 139
      refine e9 ac 1 h rfl fun f h=>?_
      obtain ⟨hs8,hs9⟩:=Jj (fr:=fr) (p:=(ce m)) k1 k2 (by have:=oO hmo;have:=of_decide_eq_false k1;have:=of_decide_eq_false k2;omega) k4 k5
      exact ⟨_,by omega,⟨k+1,v94,(KS++[(((fr,(iz (f3 (ce m))),aN),aM):S2)]),h.only ⟨rfl,rfl,rfl,rfl,rfl,rfl,rfl,rfl,rfl,rfl,rfl,rfl,ar rfl (by omega),trivial⟩,St.as (s.pick _ (List.Sublist.cons _ (List.Sublist.cons _ (List.Sublist.cons_cons _ (List.Sublist.cons_cons _ (List.Sublist.cons_cons _ (List.Sublist.cons_cons _ (List.Sublist.cons_cons _ (List.Sublist.cons_cons _ (List.nil_sublist _)))))))))) ⟨rfl,rfl,rfl,rfl,rfl,rfl,trivial⟩,rfl,by omega,tE hkk hp1 hs8,pK hp2 (fun w9 h9=>kO w9 rfl rfl),nQ hp3⟩⟩
   ·refine e9 ac 1 h rfl fun f h=>cv h rfl ?_
    have hx:=Cp hpk hrt hmo (of_decide_eq_true k2)
    have hx1:=(ng hx.1).1
    have hon9:∀ u∈aU [((((fK (bo (K.getD k bw).1.p)),(bZ (K.getD k bw).1.p),(K.getD k bw).1.t),(K.getD k bw).2):S2)],u.oneCell'=true:=mD (oD (((s.getG 3 rfl) (hV.keep s.ext)).2 _ (gy hkk)))
    replace s:=s.bring 1 rfl
    replace s:St w [.sl ul 71 139 KS.length (aU KS),.blk b15 (.cells (co (K.getD k bw).1.k (K.getD k bw).1.h (K.getD k bw).2 (K.getD k bw).1.p.2.1 (K.getD k bw).1.p.2.2 (K.getD k bw).1.t (K.getD k bw).1.y) 107),.blk b10 (.cells (aw (bo (ce m)).2.1) 26),(.grp kb (fun w9=>eg w9 vs (ce m).1→xS w9 uo K)),.blk b7 (.cells (bP vs (min m.n 64) m.d) 103),.blk b5 (.cells (a8 m vs) 95),.blk b3 (.cells (aC sv.no sv.sec vt) 24)] _:=s
    refine nI 1 [[],[],[1],[1,2],[1,2,3],[1,2,3,4],[1,2,3,4,5],[],[7],[1,2,3,4,5,6,7,8],[],[10],[1,2,3,4,5,6,7,8,9,10,11],[1,2,3,4,5,6,7,8,9,10,11,12],[0,1,2,3,4,5,6,7,8,9,10,11,12,13],[0,1,2,3,4,5,6,7,8,9,10,11,12,13,14]] [[16],[],[],[],[],[],[],[],[],[],[],[],[],[],[0,13],[14]] [[_]] [.m (fun v=>[.sl (v 0) 71 139 KS.length (aU KS)]),.v _,.v _,.v ((K.getD k bw).2),.v (.pointer (some (dr (K.getD k bw).2 (0*34)))),.v (.agg (bc (bo (K.getD k bw).1.p))),.v (.int .i64 (fK (bo (K.getD k bw).1.p))),.v _,.v (.agg (bP (K.getD k bw).2 (K.getD k bw).1.p.2.1 (K.getD k bw).1.p.2.2)),.v (.agg (a8 (bZ (K.getD k bw).1.p) (K.getD k bw).2)),.v _,.v (.agg (au (K.getD k bw).1.t)),.v (.agg (dy (fK (bo (K.getD k bw).1.p)) (bZ (K.getD k bw).1.p) (K.getD k bw).2 (K.getD k bw).1.t)),.m (fun v=>[.sl (v 13) 71 139 [((((fK (bo (K.getD k bw).1.p)),(bZ (K.getD k bw).1.p),(K.getD k bw).1.t),(K.getD k bw).2):S2)].length (aU [((((fK (bo (K.getD k bw).1.p)),(bZ (K.getD k bw).1.p),(K.getD k bw).1.t),(K.getD k bw).2):S2)])]),.m (fun v=>[.sl (v 14) 71 139 (KS++[((((fK (bo (K.getD k bw).1.p)),(bZ (K.getD k bw).1.p),(K.getD k bw).1.t),(K.getD k bw).2):S2)]).length (aU (KS++[((((fK (bo (K.getD k bw).1.p)),(bZ (K.getD k bw).1.p),(K.getD k bw).1.t),(K.getD k bw).2):S2)]))]),.m (fun v=>[.sl (v 15) 71 139 (KS++[((((fK (bo (K.getD k bw).1.p)),(bZ (K.getD k bw).1.p),(K.getD k bw).1.t),(K.getD k bw).2):S2)]).length (aU (KS++[((((fK (bo (K.getD k bw).1.p)),(bZ (K.getD k bw).1.p),(K.getD k bw).1.t),(K.getD k bw).2):S2)]))])] _ h s rfl (by kernel_rfl) (by kernel_rfl) (by kernel_rfl) (cu ?_ (ii ac h rfl rfl rfl (ii ac h rfl rfl rfl (cu ?_ (cu ?_ (cu ?_ (cu ?_ (ii ac h rfl rfl rfl (cu ?_ (cu ?_ (ii ac h rfl rfl rfl (cu ?_ (cu ?_ (cu ?_ (cu ?_ (cu ?_ (trivial))))))))))))))))) [1,2,3,4,5,6,7,8,9,10,11,12,15] (by kernel_rfl) ?_
    ·intro f9 w2 vl12 E9 hs9 hd9 hl hF s
     have h:=cS [(13,_)] h hs9 hd9 ⟨fY hl 13 (by kernel_rfl) (h.holds 13 _ rfl),trivial⟩
     refine aq ac 1 h rfl fun f h=>aB ⟨_,bv 66 h rfl rfl,trivial,s⟩
    ·intro f9 w2 vl12 E9 hs9 hd9 hl hF s
     have h:=cS [(68,_)] h hs9 hd9 ⟨bu hl 68 2 (by kernel_rfl) (hF 2 (by decide)),trivial⟩
     refine ap (V:=(K.getD k bw).2) (ae (aO.of_own s 0 rfl) 2 (Kb _ _ _ _ _ _ _)) h eE rfl rfl fun f h=>aB ⟨_,bv 69 h rfl rfl,rfl,s⟩
    ·intro f9 w2 vl12 E9 hs9 hd9 hl hF s
     have h:=cS [(69,_)] h hs9 hd9 ⟨bu hl 69 3 (by kernel_rfl) (hF 3 (by decide)),trivial⟩
     refine ag h (bW ((((s.getG 2 rfl) (hV.keep s.ext)).2 _ (gy hkk))) (0) Tryz.underlying29 l6 (h.ev rfl) (h.ev rfl) (rfl) (by omega)) rfl fun f h=>aB ⟨_,bv 70 h rfl rfl,rfl,s⟩
    ·intro f9 w2 vl12 E9 hs9 hd9 hl hF s
     have h:=cS [(70,_)] h hs9 hd9 ⟨bu hl 70 4 (by kernel_rfl) (hF 4 (by decide)),trivial⟩
     refine aE (((((s.getG 2 rfl) (hV.keep s.ext)).2 _ (gy hkk))).el (0) (by omega) (by decide) (D:=bc (bo (K.getD k bw).1.p)) (AD (K.getD k bw).1.p.1 0 (by omega))) h cy rfl (aK _) rfl fun f h=>aB ⟨_,bv 71 h rfl rfl,rfl,s⟩
    ·intro f9 w2 vl12 E9 hs9 hd9 hl hF s
     have h:=cS [(71,_)] h hs9 hd9 ⟨bu hl 71 5 (by kernel_rfl) (hF 5 (by decide)),trivial⟩
     refine cn h s GW (zE (bo (K.getD k bw).1.p) _ (fun e2=>tT hx.1 e2)) rfl rfl fun f w1 h s=>aB ⟨_,bv 72 h rfl rfl,rfl,s⟩
    ·intro f9 w2 vl12 E9 hs9 hd9 hl hF s
     have h:=cS [(73,_)] h hs9 hd9 ⟨bu hl 73 7 (by kernel_rfl) (hF 7 (by decide)),trivial⟩
     refine aE (aO.subL (aO.of_own s 0 rfl) 2 3 (D:=bP (K.getD k bw).2 (K.getD k bw).1.p.2.1 (K.getD k bw).1.p.2.2) (IK _ _ _ _ _ _ _)) h gu rfl (cJ _ _ _) rfl fun f h=>aB ⟨_,bv 74 h rfl rfl,rfl,s⟩
    ·intro f9 w2 vl12 E9 hs9 hd9 hl hF s
     have h:=cS [(74,_)] h hs9 hd9 ⟨bu hl 74 8 (by kernel_rfl) (hF 8 (by decide)),trivial⟩
     refine cn h s DS (oG (K.getD k bw).1.p (K.getD k bw).2 _ (((s.getG 2 rfl) (hV.keep s.ext)).2 _ (gy hkk))) rfl rfl fun f w1 h s=>aB ⟨_,bv 75 h rfl rfl,rfl,s⟩
    ·intro f9 w2 vl12 E9 hs9 hd9 hl hF s
     have h:=cS [(76,_)] h hs9 hd9 ⟨bu hl 76 10 (by kernel_rfl) (hF 10 (by decide)),trivial⟩
     refine aE (aO.subL (aO.of_own s 0 rfl) 5 67 (D:=au (K.getD k bw).1.t) (JM _ _ _ _ _ _ _)) h aT rfl (ai _) rfl fun f h=>aB ⟨_,bv 77 h rfl rfl,rfl,s⟩
    ·intro f9 w2 vl12 E9 hs9 hd9 hl hF s
     have h:=cS [(72,_),(75,_),(77,_)] h hs9 hd9 ⟨bu hl 72 6 (by kernel_rfl) (hF 6 (by decide)),bu hl 75 9 (by kernel_rfl) (hF 9 (by decide)),bu hl 77 11 (by kernel_rfl) (hF 11 (by decide)),trivial⟩
     refine ag h (rC ou (h.ev rfl) (h.ev rfl) (h.ev rfl)) rfl fun f h=>aB ⟨_,bv 78 h rfl rfl,rfl,s⟩
    ·intro f9 w2 vl12 E9 hs9 hd9 hl hF s
     have h:=cS [(78,_)] h hs9 hd9 ⟨bu hl 78 12 (by kernel_rfl) (hF 12 (by decide)),trivial⟩
     refine bF (vs:=[.agg (dy (fK (bo (K.getD k bw).1.p)) (bZ (K.getD k bw).1.p) (K.getD k bw).2 (K.getD k bw).1.t)]) [.tmp 78] h s Tryz.underlying34 jA rfl rfl (o4 ((((fK (bo (K.getD k bw).1.p)),(bZ (K.getD k bw).1.p),(K.getD k bw).1.t),(K.getD k bw).2):S2)) rfl rfl rfl fun f w1 v79 h s=>?_
     replace s:=s.resl (m:=[((((fK (bo (K.getD k bw).1.p)),(bZ (K.getD k bw).1.p),(K.getD k bw).1.t),(K.getD k bw).2):S2)].length) (ys:=aU [((((fK (bo (K.getD k bw).1.p)),(bZ (K.getD k bw).1.p),(K.getD k bw).1.t),(K.getD k bw).2):S2)]) 0 rfl rfl (by exact lh [] ((((fK (bo (K.getD k bw).1.p)),(bZ (K.getD k bw).1.p),(K.getD k bw).1.t),(K.getD k bw).2):S2))
     exact aB ⟨_,bv 79 h rfl rfl,trivial,s⟩
    ·intro f9 w2 vl12 E9 hs9 hd9 hl hF s
     have e66:f9.tmps.getD 66 undef=(vl12 0):=cz hl 66 0 (by kernel_rfl) (by kernel_rfl)
     have e79:f9.tmps.getD 79 undef=(vl12 13):=cz hl 79 13 (by kernel_rfl) (by kernel_rfl)
     have h:=bI [(66,(vl12 0)),(79,(vl12 13))] (hs9.trans h.size) (hd9.trans h.defers) (holds_lk ⟨e66,e79,trivial⟩)
     refine dA 0 1 h s Tryz.underlying34 jA rfl rfl rfl rfl (Nat.le_refl _) (hon9) (by show KS.length+1≤_;unfold maxLen;omega) (by show (KS.length+1)*_≤_;omega) rfl fun f w1 v80 h s=>?_
     replace s:=s.resl (m:=(KS++[((((fK (bo (K.getD k bw).1.p)),(bZ (K.getD k bw).1.p),(K.getD k bw).1.t),(K.getD k bw).2):S2)]).length) (ys:=aU (KS++[((((fK (bo (K.getD k bw).1.p)),(bZ (K.getD k bw).1.p),(K.getD k bw).1.t),(K.getD k bw).2):S2)])) 0 rfl (List.length_append ..).symm (ft ..).symm
     exact aB ⟨_,bv 80 h rfl rfl,trivial,(s.pick _ (List.Sublist.cons_cons _ (List.Sublist.cons _ (List.Sublist.cons_cons _ (List.Sublist.cons_cons _ (List.Sublist.cons_cons _ (List.Sublist.cons_cons _ (List.Sublist.cons_cons _ (List.Sublist.cons_cons _ (List.Sublist.refl _))))))))))⟩
    ·intro f9 w2 vl12 E9 hs9 hd9 hl hF s
     have e80:f9.tmps.getD 80 undef=(vl12 14):=cz hl 80 14 (by kernel_rfl) (by kernel_rfl)
     have h:=bI [(80,(vl12 14))] (hs9.trans h.size) (hd9.trans h.defers) (holds_lk ⟨e80,trivial⟩)
     refine aq ac 1 h rfl fun f h=>aB ⟨_,bv 13 h rfl rfl,trivial,s⟩
    intro f w1 vl12 hs9 hd9 hv hr hF s
    replace h:=j8 (ops:=_) [(66,(vl12 0)),(67,_),(68,_),(69,_),(70,_),(71,_),(72,_),(73,_),(74,_),(75,_),(76,_),(77,_),(78,_),(79,(vl12 13)),(80,(vl12 14)),(13,(vl12 15))] h hs9 hd9 hr ⟨hv 0 66 rfl,(hv 1 67 rfl).trans (hF 1 rfl),(hv 2 68 rfl).trans (hF 2 rfl),(hv 3 69 rfl).trans (hF 3 rfl),(hv 4 70 rfl).trans (hF 4 rfl),(hv 5 71 rfl).trans (hF 5 rfl),(hv 6 72 rfl).trans (hF 6 rfl),(hv 7 73 rfl).trans (hF 7 rfl),(hv 8 74 rfl).trans (hF 8 rfl),(hv 9 75 rfl).trans (hF 9 rfl),(hv 10 76 rfl).trans (hF 10 rfl),(hv 11 77 rfl).trans (hF 11 rfl),(hv 12 78 rfl).trans (hF 12 rfl),hv 13 79 rfl,hv 14 80 rfl,hv 15 13 rfl,trivial⟩ (by kernel_rfl)
    replace s:St w [.sl (vl12 15) 71 139 (KS++[((((fK (bo (K.getD k bw).1.p)),(bZ (K.getD k bw).1.p),(K.getD k bw).1.t),(K.getD k bw).2):S2)]).length (aU (KS++[((((fK (bo (K.getD k bw).1.p)),(bZ (K.getD k bw).1.p),(K.getD k bw).1.t),(K.getD k bw).2):S2)])),.blk b15 (.cells (co (K.getD k bw).1.k (K.getD k bw).1.h (K.getD k bw).2 (K.getD k bw).1.p.2.1 (K.getD k bw).1.p.2.2 (K.getD k bw).1.t (K.getD k bw).1.y) 107),.blk b10 (.cells (aw (bo (ce m)).2.1) 26),(.grp kb (fun w9=>eg w9 vs (ce m).1→xS w9 uo K)),.blk b7 (.cells (bP vs (min m.n 64) m.d) 103),.blk b5 (.cells (a8 m vs) 95),.blk b3 (.cells (aC sv.no sv.sec vt) 24)] _:=s
    refine bg (bg (aH (az (ag h (bh (h.ev rfl) (h.ev rfl) (by omega)) rfl fun f h=>?_))))
    replace s:=s.nilSl 71 139
    refine e9 ac 1 h rfl fun f h=>?_
    obtain ⟨hs8,hs9⟩:=J7 (fr:=fr) (p:=(ce m)) k1 k2
    exact ⟨_,by omega,⟨k+1,(vl12 15),(KS++[((((fK (bo (K.getD k bw).1.p)),(bZ (K.getD k bw).1.p),(K.getD k bw).1.t),(K.getD k bw).2):S2)]),h.only ⟨rfl,rfl,rfl,rfl,rfl,rfl,rfl,rfl,rfl,rfl,rfl,rfl,ar rfl (by omega),trivial⟩,St.as (s.pick _ (List.Sublist.cons _ (List.Sublist.cons_cons _ (List.Sublist.cons _ (List.Sublist.cons_cons _ (List.Sublist.cons_cons _ (List.Sublist.cons_cons _ (List.Sublist.cons_cons _ (List.Sublist.cons_cons _ (List.nil_sublist _)))))))))) ⟨rfl,rfl,rfl,rfl,rfl,rfl,trivial⟩,rfl,by omega,tE hkk hp1 hs8,pK hp2 (fun w9 h9=>h9 _ (gy hkk)),nQ hp3⟩⟩
  ·refine e9 ac 1 h rfl fun f h=>cv h rfl ?_
   have hon9:∀ u∈aU [((((16+(K.getD k bw).1.h),(bZ (K.getD k bw).1.p),aN),(K.getD k bw).2):S2)],u.oneCell'=true:=mD (oD (((s.getG 3 rfl) (hV.keep s.ext)).2 _ (gy hkk)))
   replace s:=s.bring 1 rfl
   replace s:St w [.sl ul 71 139 KS.length (aU KS),.blk b15 (.cells (co (K.getD k bw).1.k (K.getD k bw).1.h (K.getD k bw).2 (K.getD k bw).1.p.2.1 (K.getD k bw).1.p.2.2 (K.getD k bw).1.t (K.getD k bw).1.y) 107),.blk b10 (.cells (aw (bo (ce m)).2.1) 26),(.grp kb (fun w9=>eg w9 vs (ce m).1→xS w9 uo K)),.blk b7 (.cells (bP vs (min m.n 64) m.d) 103),.blk b5 (.cells (a8 m vs) 95),.blk b3 (.cells (aC sv.no sv.sec vt) 24)] _:=s
   refine nI 1 [[],[],[1],[1,2],[],[4],[1,2,3,4,5],[1,2,3,4,5,6],[1,2,3,4,5,6,7],[0,1,2,3,4,5,6,7,8],[0,1,2,3,4,5,6,7,8,9]] [[11],[],[],[],[],[],[],[],[],[0,8],[9]] [[_]] [.m (fun v=>[.sl (v 0) 71 139 KS.length (aU KS)]),.v _,.v (.int .i64 (K.getD k bw).1.h),.v (.int .i64 (16+(K.getD k bw).1.h)),.v _,.v (.agg (bP (K.getD k bw).2 (K.getD k bw).1.p.2.1 (K.getD k bw).1.p.2.2)),.v (.agg (a8 (bZ (K.getD k bw).1.p) (K.getD k bw).2)),.v (.agg (dy (16+(K.getD k bw).1.h) (bZ (K.getD k bw).1.p) (K.getD k bw).2 aN)),.m (fun v=>[.sl (v 8) 71 139 [((((16+(K.getD k bw).1.h),(bZ (K.getD k bw).1.p),aN),(K.getD k bw).2):S2)].length (aU [((((16+(K.getD k bw).1.h),(bZ (K.getD k bw).1.p),aN),(K.getD k bw).2):S2)])]),.m (fun v=>[.sl (v 9) 71 139 (KS++[((((16+(K.getD k bw).1.h),(bZ (K.getD k bw).1.p),aN),(K.getD k bw).2):S2)]).length (aU (KS++[((((16+(K.getD k bw).1.h),(bZ (K.getD k bw).1.p),aN),(K.getD k bw).2):S2)]))]),.m (fun v=>[.sl (v 10) 71 139 (KS++[((((16+(K.getD k bw).1.h),(bZ (K.getD k bw).1.p),aN),(K.getD k bw).2):S2)]).length (aU (KS++[((((16+(K.getD k bw).1.h),(bZ (K.getD k bw).1.p),aN),(K.getD k bw).2):S2)]))])] _ h s rfl (by kernel_rfl) (by kernel_rfl) (by kernel_rfl) (cu ?_ (ii ac h rfl rfl rfl (cu ?_ (cu ?_ (ii ac h rfl rfl rfl (cu ?_ (cu ?_ (cu ?_ (cu ?_ (cu ?_ (cu ?_ (trivial)))))))))))) [1,2,3,4,5,6,7,10] (by kernel_rfl) ?_
   ·intro f9 w2 vl10 E9 hs9 hd9 hl hF s
    have h:=cS [(13,_)] h hs9 hd9 ⟨fY hl 13 (by kernel_rfl) (h.holds 13 _ rfl),trivial⟩
    refine aq ac 1 h rfl fun f h=>aB ⟨_,bv 52 h rfl rfl,trivial,s⟩
   ·intro f9 w2 vl10 E9 hs9 hd9 hl hF s
    have h:=cS [(53,_)] h hs9 hd9 ⟨bu hl 53 1 (by kernel_rfl) (hF 1 (by decide)),trivial⟩
    refine ap (V:=.int .i64 (K.getD k bw).1.h) (ae (aO.of_own s 0 rfl) 1 (Kc _ _ _ _ _ _ _)) h bJ rfl rfl fun f h=>aB ⟨_,bv 54 h rfl rfl,rfl,s⟩
   ·intro f9 w2 vl10 E9 hs9 hd9 hl hF s
    have h:=cS [(54,_)] h hs9 hd9 ⟨bu hl 54 2 (by kernel_rfl) (hF 2 (by decide)),trivial⟩
    refine cn h s qK (gA (K.getD k bw).1.h _ (by have:=tp hpk hmo (of_decide_eq_true k1);omega)) rfl rfl fun f w1 h s=>aB ⟨_,bv 55 h rfl rfl,rfl,s⟩
   ·intro f9 w2 vl10 E9 hs9 hd9 hl hF s
    have h:=cS [(56,_)] h hs9 hd9 ⟨bu hl 56 4 (by kernel_rfl) (hF 4 (by decide)),trivial⟩
    refine aE (aO.subL (aO.of_own s 0 rfl) 2 3 (D:=bP (K.getD k bw).2 (K.getD k bw).1.p.2.1 (K.getD k bw).1.p.2.2) (IK _ _ _ _ _ _ _)) h gu rfl (cJ _ _ _) rfl fun f h=>aB ⟨_,bv 57 h rfl rfl,rfl,s⟩
   ·intro f9 w2 vl10 E9 hs9 hd9 hl hF s
    have h:=cS [(57,_)] h hs9 hd9 ⟨bu hl 57 5 (by kernel_rfl) (hF 5 (by decide)),trivial⟩
    refine cn h s DS (oG (K.getD k bw).1.p (K.getD k bw).2 _ (((s.getG 2 rfl) (hV.keep s.ext)).2 _ (gy hkk))) rfl rfl fun f w1 h s=>aB ⟨_,bv 58 h rfl rfl,rfl,s⟩
   ·intro f9 w2 vl10 E9 hs9 hd9 hl hF s
    have h:=cS [(55,_),(58,_)] h hs9 hd9 ⟨bu hl 55 3 (by kernel_rfl) (hF 3 (by decide)),bu hl 58 6 (by kernel_rfl) (hF 6 (by decide)),trivial⟩
    refine ag h (eQ ou (h.ev rfl) (h.ev rfl)) rfl fun f h=>aB ⟨_,bv 59 h rfl rfl,rfl,s⟩
   ·intro f9 w2 vl10 E9 hs9 hd9 hl hF s
    have h:=cS [(59,_)] h hs9 hd9 ⟨bu hl 59 7 (by kernel_rfl) (hF 7 (by decide)),trivial⟩
    refine bF (vs:=[.agg (dy (16+(K.getD k bw).1.h) (bZ (K.getD k bw).1.p) (K.getD k bw).2 aN)]) [.tmp 59] h s Tryz.underlying34 jA rfl rfl (o4 ((((16+(K.getD k bw).1.h),(bZ (K.getD k bw).1.p),aN),(K.getD k bw).2):S2)) rfl rfl rfl fun f w1 v60 h s=>?_
    replace s:=s.resl (m:=[((((16+(K.getD k bw).1.h),(bZ (K.getD k bw).1.p),aN),(K.getD k bw).2):S2)].length) (ys:=aU [((((16+(K.getD k bw).1.h),(bZ (K.getD k bw).1.p),aN),(K.getD k bw).2):S2)]) 0 rfl rfl (by exact lh [] ((((16+(K.getD k bw).1.h),(bZ (K.getD k bw).1.p),aN),(K.getD k bw).2):S2))
    exact aB ⟨_,bv 60 h rfl rfl,trivial,s⟩
   ·intro f9 w2 vl10 E9 hs9 hd9 hl hF s
    have e52:f9.tmps.getD 52 undef=(vl10 0):=cz hl 52 0 (by kernel_rfl) (by kernel_rfl)
    have e60:f9.tmps.getD 60 undef=(vl10 8):=cz hl 60 8 (by kernel_rfl) (by kernel_rfl)
    have h:=bI [(52,(vl10 0)),(60,(vl10 8))] (hs9.trans h.size) (hd9.trans h.defers) (holds_lk ⟨e52,e60,trivial⟩)
    refine dA 0 1 h s Tryz.underlying34 jA rfl rfl rfl rfl (Nat.le_refl _) (hon9) (by show KS.length+1≤_;unfold maxLen;omega) (by show (KS.length+1)*_≤_;omega) rfl fun f w1 v61 h s=>?_
    replace s:=s.resl (m:=(KS++[((((16+(K.getD k bw).1.h),(bZ (K.getD k bw).1.p),aN),(K.getD k bw).2):S2)]).length) (ys:=aU (KS++[((((16+(K.getD k bw).1.h),(bZ (K.getD k bw).1.p),aN),(K.getD k bw).2):S2)])) 0 rfl (List.length_append ..).symm (ft ..).symm
    exact aB ⟨_,bv 61 h rfl rfl,trivial,(s.pick _ (List.Sublist.cons_cons _ (List.Sublist.cons _ (List.Sublist.cons_cons _ (List.Sublist.cons_cons _ (List.Sublist.cons_cons _ (List.Sublist.cons_cons _ (List.Sublist.cons_cons _ (List.Sublist.cons_cons _ (List.Sublist.refl _))))))))))⟩
   ·intro f9 w2 vl10 E9 hs9 hd9 hl hF s
    have e61:f9.tmps.getD 61 undef=(vl10 9):=cz hl 61 9 (by kernel_rfl) (by kernel_rfl)
    have h:=bI [(61,(vl10 9))] (hs9.trans h.size) (hd9.trans h.defers) (holds_lk ⟨e61,trivial⟩)
    refine aq ac 1 h rfl fun f h=>aB ⟨_,bv 13 h rfl rfl,trivial,s⟩
   intro f w1 vl10 hs9 hd9 hv hr hF s
   replace h:=j8 (ops:=_) [(52,(vl10 0)),(53,_),(54,_),(55,_),(56,_),(57,_),(58,_),(59,_),(60,(vl10 8)),(61,(vl10 9)),(13,(vl10 10))] h hs9 hd9 hr ⟨hv 0 52 rfl,(hv 1 53 rfl).trans (hF 1 rfl),(hv 2 54 rfl).trans (hF 2 rfl),(hv 3 55 rfl).trans (hF 3 rfl),(hv 4 56 rfl).trans (hF 4 rfl),(hv 5 57 rfl).trans (hF 5 rfl),(hv 6 58 rfl).trans (hF 6 rfl),(hv 7 59 rfl).trans (hF 7 rfl),hv 8 60 rfl,hv 9 61 rfl,hv 10 13 rfl,trivial⟩ (by kernel_rfl)
   replace s:St w [.sl (vl10 10) 71 139 (KS++[((((16+(K.getD k bw).1.h),(bZ (K.getD k bw).1.p),aN),(K.getD k bw).2):S2)]).length (aU (KS++[((((16+(K.getD k bw).1.h),(bZ (K.getD k bw).1.p),aN),(K.getD k bw).2):S2)])),.blk b15 (.cells (co (K.getD k bw).1.k (K.getD k bw).1.h (K.getD k bw).2 (K.getD k bw).1.p.2.1 (K.getD k bw).1.p.2.2 (K.getD k bw).1.t (K.getD k bw).1.y) 107),.blk b10 (.cells (aw (bo (ce m)).2.1) 26),(.grp kb (fun w9=>eg w9 vs (ce m).1→xS w9 uo K)),.blk b7 (.cells (bP vs (min m.n 64) m.d) 103),.blk b5 (.cells (a8 m vs) 95),.blk b3 (.cells (aC sv.no sv.sec vt) 24)] _:=s
   refine bg (bg (aH (az (ag h (bh (h.ev rfl) (h.ev rfl) (by omega)) rfl fun f h=>?_))))
   replace s:=s.nilSl 71 139
   refine e9 ac 1 h rfl fun f h=>?_
   obtain ⟨hs8,hs9⟩:=Kf (fr:=fr) (p:=(ce m)) k1
   exact ⟨_,by omega,⟨k+1,(vl10 10),(KS++[((((16+(K.getD k bw).1.h),(bZ (K.getD k bw).1.p),aN),(K.getD k bw).2):S2)]),h.only ⟨rfl,rfl,rfl,rfl,rfl,rfl,rfl,rfl,rfl,rfl,rfl,rfl,ar rfl (by omega),trivial⟩,St.as (s.pick _ (List.Sublist.cons _ (List.Sublist.cons_cons _ (List.Sublist.cons _ (List.Sublist.cons_cons _ (List.Sublist.cons_cons _ (List.Sublist.cons_cons _ (List.Sublist.cons_cons _ (List.Sublist.cons_cons _ (List.nil_sublist _)))))))))) ⟨rfl,rfl,rfl,rfl,rfl,rfl,trivial⟩,rfl,by omega,tE hkk hp1 hs8,pK hp2 (fun w9 h9=>h9 _ (gy hkk)),nQ hp3⟩⟩
 ·refine wpIn_exit (aZ (aZ (bQ (aH (al (al ?_))))))
  refine az (da ac h rfl (fun q0 f h=>?_) (fun q0 f h=>?_))
  ·refine e9 ac 8 h rfl fun f h=>jw h rfl (bG ac 2 h rfl fun f h=>wpIn_ret (aI rfl h s rfl (by obtain rfl:k=K.length:=(by omega);exact mI (sM hKb hp1 (by rw [q0];rfl)) hp2 (s.sel [0,2] rfl (by decide)))))
  ·skip
   refine aq ac 1 h rfl fun f h=>ca h rfl (da ac h rfl (fun q1 f h=>?_) (fun q1 f h=>?_))
   ·refine e9 ac 6 h rfl fun f h=>jw h rfl (bG ac 2 h rfl fun f h=>wpIn_ret (aI rfl h s rfl (by obtain rfl:k=K.length:=(by omega);exact mI (sM hKb hp1 (by rw [q0,q1];rfl)) hp2 (s.sel [0,2] rfl (by decide)))))
   ·skip
    refine aq ac 3 h rfl fun f h=>ca h rfl (fJ h s GL (sI KS ul _ (bK.of_own (s.getSl 0 rfl)) (by omega)) rfl rfl (fun q2 f w1 h s=>?_) (fun q2 f w1 h s=>?_))
    ·refine e9 ac 2 h rfl fun f h=>cv h rfl (az ?_)
     have hon9:∀ u∈aU [(((fr,(iS (f3 (ce m)) sv.no),aN),aM):S2)],u.oneCell'=true:=mD (oD (kO w rfl rfl))
     refine aq ac 2 h rfl fun f h=>aj 1 h s aP rfl rfl (by first|exact am _|exact ah _ _) rfl fun f h=>aq ac 1 h rfl fun f h=>ap (V:=.int .i64 sv.no) (ae (aO.of_own s 5 rfl) 0 (so _ _ _)) h bJ rfl rfl fun f h=>ag h (n8 ms rfl (h.ev rfl) (h.ev rfl)) rfl fun f h=>ag h (eQ ou (h.ev rfl) (h.ev rfl)) rfl fun f h=>bF (vs:=[.agg (dy fr (iS (f3 (ce m)) sv.no) aM aN)]) [.tmp 111] h s Tryz.underlying34 jA rfl rfl (o4 (((fr,(iS (f3 (ce m)) sv.no),aN),aM):S2)) rfl rfl rfl fun f w1 v112 h s=>?_
     replace s:=s.resl (m:=[(((fr,(iS (f3 (ce m)) sv.no),aN),aM):S2)].length) (ys:=aU [(((fr,(iS (f3 (ce m)) sv.no),aN),aM):S2)]) 0 rfl rfl (by exact lh [] (((fr,(iS (f3 (ce m)) sv.no),aN),aM):S2))
     refine dA 1 0 h s Tryz.underlying34 jA rfl rfl rfl rfl (Nat.le_refl _) (hon9) (by show KS.length+1≤_;unfold maxLen;omega) (by show (KS.length+1)*_≤_;omega) rfl fun f w1 v113 h s=>?_
     replace s:=s.pick _ (List.sublist_cons_self _ _)
     replace s:=s.resl (m:=(KS++[(((fr,(iS (f3 (ce m)) sv.no),aN),aM):S2)]).length) (ys:=aU (KS++[(((fr,(iS (f3 (ce m)) sv.no),aN),aM):S2)])) 0 rfl (List.length_append ..).symm (ft ..).symm
     refine e9 ac 1 h rfl fun f h=>bG ac 2 h rfl fun f h=>wpIn_ret (aI rfl h s rfl (by obtain rfl:k=K.length:=(by omega);exact mI (EG hKb hp1 q0 q1 q2) (fun w9 h9=>sf (hp2 w9 h9) (kO w9 rfl rfl)) (s.sel [0,2] rfl (by decide))))
    ·refine e9 ac 2 h rfl fun f h=>jw h rfl (bG ac 2 h rfl fun f h=>wpIn_ret (aI rfl h s rfl (by obtain rfl:k=K.length:=(by omega);exact mI (sM hKb hp1 (by rw [q0,q1,q2];rfl)) hp2 (s.sel [0,2] rfl (by decide)))))
theorem H9 (v:Value) (w:World):(Instr.typeAssert (.iface 94 v) 63 94 true).run Tryz.prog w=.ok (.tuple #[v,.bool true]) w:=by kernel_rfl
theorem H4 (v:Value) (w:World):(Instr.typeAssert (.iface 95 v) 63 95 true).run Tryz.prog w=.ok (.tuple #[v,.bool true]) w:=by kernel_rfl
theorem Io (v:Value) (w:World):(Instr.typeAssert (.iface 95 v) 63 94 true).run Tryz.prog w=.ok (.tuple #[(.agg (a8 mZ aM)),.bool false]) w:=by kernel_rfl
theorem Ht (v:Value) (w:World):(Instr.typeAssert (.iface 99 v) 63 94 true).run Tryz.prog w=.ok (.tuple #[(.agg (a8 mZ aM)),.bool false]) w:=by kernel_rfl
theorem Iv (v:Value) (w:World):(Instr.typeAssert (.iface 99 v) 63 95 true).run Tryz.prog w=.ok (.tuple #[(.agg (a8 mZ aM)),.bool false]) w:=by kernel_rfl
theorem tU (sv:Sv) (vt:Value) (fr:Int) (m:Mg) (vs:Value) (now:Int) (w:World) (hT:cK w vt sv.tb) (htl:sv.tb.length≤1000) (hV:eg w vs m.l) (hml:m.l.length≤1000) (ha:cr m=true) (hn:0≤now∧now≤1099511627776) (hsz:sv.sec.size≤64) (hH:dB w 0 (wF gF 8)) (hK:dB w 1 (wF gv 64)):Calls Tryz.prog 24 [.agg (aC sv.no sv.sec vt),.int .i64 fr,.iface 94 (.agg (a8 m vs)),.int .i64 now].toArray w (bT w (rQ w vt vs sv.tb m.l (iq sv fr m now))):=by
 refine br Tryz.func24 rfl Tryz.ntmps24 rfl fun f h s=>qr (aR (aC sv.no sv.sec vt) h s rfl rfl rfl fun f w1 b4 h s=>aJ (aC 0 ByteArray.empty aM) h s dZ rfl rfl fun f w1 b8 h s=>e9 ac 2 h rfl fun f h=>al (bG ac 1 h rfl fun f h=>wpIn_block (qr (ag h (gC (V:=.tuple #[.agg (a8 m vs),.bool true]) (H9 _) (h.ev rfl)) rfl fun f h=>ag h (bm (.bool true) (d5 (h.ev rfl) rfl) (congrArg Value.bool (rfl))) rfl fun f h=>e9 ac 1 h rfl fun f h=>cv h rfl (qr (aJ (a8 mZ aM) h s F1 rfl rfl fun f w1 b11 h s=>ao 0 h s G9 rfl rfl rfl (aF _ _) (aF _ _) (cH _ _ (bV hV)) fun w1 s=>nt (qr (aj 2 h s a6 rfl rfl (ak _ _ _) rfl fun f h=>aq ac 2 h rfl fun f h=>aE (aO.subL (aO.of_own s 0 rfl) 0 71 (D:=a8 m vs) (tB _ _)) h ck rfl (aF _ _) rfl fun f h=>aq ac 1 h rfl fun f h=>bk h s IG (tt sv vt fr m vs now _ (hT.keep s.ext) htl (hV.keep s.ext) hml ha hn hsz (hH.keep s.ext) (hK.keep s.ext)) rfl rfl ?_))))))));rintro f w1 v22 ⟨tub,ub,Kub,kub,rfl,hub,hG⟩ hE h sq;replace s:=s.add hG;clear hG
 have hub1:=bV (((s.getG 0 rfl) (hT.keep s.ext) (hV.keep s.ext)).1)
 refine aq ac 3 h rfl fun f h=>ao 2 h s a6 rfl rfl rfl (ak _ _ _) (ak _ _ _) (a7 _ _ hub1) fun w1 s=>e9 ac 2 h rfl fun f h=>wpIn_ret (cp (bL ?_))
 exact bs 2 rfl h s a6 rfl rfl (ak _ _ _) rfl rfl (⟨tub,ub,Kub,kub,rfl,hub,s.sel [0] rfl (by decide)⟩)
theorem sT (sv:Sv) (vt:Value) (fr:Int) (m:Mg) (vs:Value) (now:Int) (w:World) (hT:cK w vt sv.tb) (htl:sv.tb.length≤1000) (hV:eg w vs m.l) (hml:m.l.length≤1000) (hr:bO sv=true) (hM:cN m=true) (hk1:m.k=1):Calls Tryz.prog 24 [.agg (aC sv.no sv.sec vt),.int .i64 fr,.iface 95 (.agg (a8 m vs)),.int .i64 now].toArray w (bT w (rQ w vt vs sv.tb m.l ⟨sv,iU sv fr m,0⟩)):=by
 refine br Tryz.func24 rfl Tryz.ntmps24 rfl fun f h s=>qr (aR (aC sv.no sv.sec vt) h s rfl rfl rfl fun f w1 b4 h s=>aJ (aC 0 ByteArray.empty aM) h s dZ rfl rfl fun f w1 b8 h s=>e9 ac 2 h rfl fun f h=>al (bG ac 1 h rfl fun f h=>wpIn_block (qr (ag h (gC (V:=.tuple #[(.agg (a8 mZ aM)),.bool false]) (Io _) (h.ev rfl)) rfl fun f h=>ag h (bm (.bool false) (d5 (h.ev rfl) rfl) (congrArg Value.bool (rfl))) rfl fun f h=>e9 ac 1 h rfl fun f h=>hI h rfl (qr (ag h (gC (V:=.tuple #[.agg (a8 m vs),.bool true]) (H4 _) (h.ev rfl)) rfl fun f h=>ag h (bm (.bool true) (d5 (h.ev rfl) rfl) (congrArg Value.bool (rfl))) rfl fun f h=>e9 ac 1 h rfl fun f h=>cv h rfl (qr (aJ (a8 mZ aM) h s FY rfl rfl fun f w1 b12 h s=>ao 0 h s yw rfl rfl rfl (aF _ _) (aF _ _) (cH _ _ (bV hV)) fun w1 s=>nt (al ?_)))))))))
 replace s:=s.bring 1 rfl
 replace s:St w [.blk b8 (.cells (aC 0 ByteArray.empty aM) 24),.blk b12 (.cells (a8 m vs) 95),.blk b4 (.cells (aC sv.no sv.sec vt) 24)] _:=s
 refine sK (γ:=List Nat × List S2) 1 [[],[],[],[],[1,2,3],[0,1,2,3,4],[0,1,2,3,4,5],[0,1,2,3,4,5,6]] [[],[],[],[],[],[8],[],[]] [[_]] [.v (.agg (aC sv.no sv.sec vt)),.v (.agg (aC sv.no sv.sec vt)),.v _,.v (.agg (a8 m vs)),.m (fun v=>[.grp (v 4).2.1 (fun w9=>cW (v 4).2.2=iU sv fr m∧(eg w9 vs m.l→bK w9 (v 4).1 139 (v 4).2.2.length (aU (v 4).2.2)∧lN (v 4).2.2 w9))]),.m (fun v=>[.blk b8 (.cells (aC sv.no sv.sec vt) 24)]),.f (fun v=>(v 6).1=(v 4).1),.v _] _ h s rfl (by kernel_rfl) (by kernel_rfl) (by kernel_rfl) (cu ?_ (cu ?_ (Dv ac h rfl rfl rfl (cu ?_ (cu ?_ (cu ?_ (cu ?_ (Dv ac h rfl rfl rfl (trivial))))))))) [0,1,2,3,4,5,6,7] (by kernel_rfl) ?_
 ·intro f9 w2 vl7 E9 hs9 hd9 hl hF s
  have h:=cS [(4,_)] h hs9 hd9 ⟨fY hl 4 (by kernel_rfl) (h.holds 4 _ rfl),trivial⟩
  refine aj 1 h s a6 rfl rfl (ak _ _ _) rfl fun f h=>aB ⟨(_,default),bv 29 h rfl rfl,rfl,s⟩
 ·intro f9 w2 vl7 E9 hs9 hd9 hl hF s
  have h:=cS [(4,_)] h hs9 hd9 ⟨fY hl 4 (by kernel_rfl) (h.holds 4 _ rfl),trivial⟩
  refine aj 1 h s a6 rfl rfl (ak _ _ _) rfl fun f h=>aB ⟨(_,default),bv 30 h rfl rfl,rfl,s⟩
 ·intro f9 w2 vl7 E9 hs9 hd9 hl hF s
  have h:=cS [(12,_)] h hs9 hd9 ⟨fY hl 12 (by kernel_rfl) (h.holds 12 _ rfl),trivial⟩
  refine aj 0 h s yw rfl rfl (aF _ _) rfl fun f h=>aB ⟨(_,default),bv 32 h rfl rfl,rfl,s⟩
 ·intro f9 w2 vl7 E9 hs9 hd9 hl hF s
  have h:=cS [(30,_),(31,_),(32,_)] h hs9 hd9 ⟨bu hl 30 1 (by kernel_rfl) (hF 1 (by decide)),bu hl 31 2 (by kernel_rfl) (hF 2 (by decide)),bu hl 32 3 (by kernel_rfl) (hF 3 (by decide)),trivial⟩
  refine bk h s HW (rp sv vt fr m vs _ (hT.keep s.ext) htl (hV.keep s.ext) hml hr hM hk1) rfl rfl ?_;rintro f w1 v33 ⟨K9,ks9,hK9,hG⟩ hE h sq;replace s:=s.add hG;clear hG
  replace s:=s.weak (S':=fun w9=>cW K9=iU sv fr m∧(eg w9 vs m.l→bK w9 v33 139 K9.length (aU K9)∧lN K9 w9)) (fun w9 h9=>⟨hK9,h9⟩)
  exact aB ⟨(_,(ks9,K9)),bv 33 h rfl rfl,trivial,s⟩
 ·intro f9 w2 vl7 E9 hs9 hd9 hl hF s
  have h:=cS [(8,_),(29,_)] h hs9 hd9 ⟨fY hl 8 (by kernel_rfl) (h.holds 8 _ rfl),bu hl 29 0 (by kernel_rfl) (hF 0 (by decide)),trivial⟩
  refine ao 0 h s a6 rfl rfl rfl (ak _ _ _) (ak _ _ _) (a7 _ _ (bV hT)) fun w1 s=>aB ⟨(undef,default),fk rfl,trivial,s⟩
 ·intro f9 w2 vl7 E9 hs9 hd9 hl hF s
  have e33:f9.tmps.getD 33 undef=(vl7 4).1:=cz hl 33 4 (by kernel_rfl) (by kernel_rfl)
  have h:=bI [(33,(vl7 4).1)] (hs9.trans h.size) (hd9.trans h.defers) (holds_lk ⟨e33,trivial⟩)
  refine aq ac 1 h rfl fun f h=>aB ⟨(_,default),bv 9 h rfl rfl,rfl,s⟩
 intro f w1 vl7 hs9 hd9 hv hr hF s
 replace h:=j8 (ops:=_) [(29,_),(30,_),(31,_),(32,_),(33,(vl7 4).1),(9,(vl7 4).1),(10,_)] h hs9 hd9 hr ⟨(hv 0 29 rfl).trans (hF 0 rfl),(hv 1 30 rfl).trans (hF 1 rfl),(hv 2 31 rfl).trans (hF 2 rfl),(hv 3 32 rfl).trans (hF 3 rfl),hv 4 33 rfl,(hv 6 9 rfl).trans (hF 6 rfl),(hv 7 10 rfl).trans (hF 7 rfl),trivial⟩ (by kernel_rfl)
 replace s:St w [.grp (vl7 4).2.1 (fun w9=>cW (vl7 4).2.2=iU sv fr m∧(eg w9 vs m.l→bK w9 (vl7 4).1 139 (vl7 4).2.2.length (aU (vl7 4).2.2)∧lN (vl7 4).2.2 w9)),.blk b8 (.cells (aC sv.no sv.sec vt) 24),.blk b12 (.cells (a8 m vs) 95),.blk b4 (.cells (aC sv.no sv.sec vt) 24)] _:=s
 refine aH (wpIn_ret (cp (bL ?_)))
 exact bs 1 rfl h s a6 rfl rfl (ak _ _ _) rfl rfl (C4 rfl (s.sel [0] rfl (by decide)))
theorem tv (sv:Sv) (vt:Value) (fr:Int) (m:Mg) (vs:Value) (now:Int) (w:World) (hT:cK w vt sv.tb) (htl:sv.tb.length≤1000) (hV:eg w vs m.l) (hml:m.l.length≤1000):Calls Tryz.prog 24 [.agg (aC sv.no sv.sec vt),.int .i64 fr,.iface 99 (.agg #[]),.int .i64 now].toArray w (bT w (rQ w vt vs sv.tb m.l ⟨u5,[],1⟩)):=by
 refine br Tryz.func24 rfl Tryz.ntmps24 rfl fun f h s=>qr (aR (aC sv.no sv.sec vt) h s rfl rfl rfl fun f w1 b4 h s=>aJ (aC 0 ByteArray.empty aM) h s dZ rfl rfl fun f w1 b8 h s=>e9 ac 2 h rfl fun f h=>al (bG ac 1 h rfl fun f h=>wpIn_block (qr (ag h (gC (V:=.tuple #[(.agg (a8 mZ aM)),.bool false]) (Ht _) (h.ev rfl)) rfl fun f h=>ag h (bm (.bool false) (d5 (h.ev rfl) rfl) (congrArg Value.bool (rfl))) rfl fun f h=>e9 ac 1 h rfl fun f h=>hI h rfl (qr (ag h (gC (V:=.tuple #[(.agg (a8 mZ aM)),.bool false]) (Iv _) (h.ev rfl)) rfl fun f h=>ag h (bm (.bool false) (d5 (h.ev rfl) rfl) (congrArg Value.bool (rfl))) rfl fun f h=>e9 ac 1 h rfl fun f h=>hI h rfl (wpIn_skip (bg (aH (qr (ag h (bC eG) rfl fun f h=>ao 0 h s a6 rfl rfl rfl (ak _ _ _) (ak _ _ _) (a7 _ _ (rfl)) fun w1 s=>e9 ac 2 h rfl fun f h=>wpIn_ret ?_)))))))))))
 exact bs 0 rfl h s a6 rfl rfl (ak _ _ _) rfl rfl (po rfl rfl (s.pick _ (List.nil_sublist _)))
theorem xh (sv:Sv) (vt:Value) (fr:Int) (m:Mg) (vs:Value) (now:Int) (w:World) (hT:cK w vt sv.tb) (htl:sv.tb.length≤1000) (hV:eg w vs m.l) (hml:m.l.length≤1000) (hr:bO sv=true) (hM:cN m=true) (hn:0≤now∧now≤1099511627776) (hH:dB w 0 (wF gF 8)) (hK:dB w 1 (wF gv 64)):Calls Tryz.prog 24 [.agg (aC sv.no sv.sec vt),.int .i64 fr,(CV 94 95 99 m vs),.int .i64 now].toArray w (bT w (rQ w vt vs sv.tb m.l (bX sv fr m now))):=by
 unfold CV bX
 cases hc:sy m with
 |true=>exact tU sv vt fr m vs now w hT htl hV hml (i8 hc hM) hn (dq.1 hr).2.2.1 hH hK
 |false=>
  cases hd:decide (m.k=1) with
  |true=>exact sT sv vt fr m vs now w hT htl hV hml hr hM (of_decide_eq_true hd)
  |false=>exact tv sv vt fr m vs now w hT htl hV hml
set_option maxHeartbeats 8000000 in
theorem qu (sv:Sv) (vt:Value) (fr:Int) (m:Mg) (vs:Value) (now:Int) (w:World) (hT:cK w vt sv.tb) (htl:sv.tb.length≤1000) (hV:eg w vs m.l) (hml:m.l.length≤1000) (hH:dB w 0 (wF gF 8)) (hK:dB w 1 (wF gv 64)):Calls Tryz.prog 7 [.agg (aC sv.no sv.sec vt),.int .i64 fr,.agg (a8 m vs),.int .i64 now].toArray w (bT w (rQ w vt vs sv.tb m.l (jj sv fr m now))):=by
 refine br Tryz.func7 rfl Tryz.ntmps7 rfl fun f h s=>qr (aR (aC sv.no sv.sec vt) h s rfl rfl rfl fun f w1 b4 h s=>aR (a8 m vs) h s rfl rfl rfl fun f w1 b6 h s=>aJ (aC 0 ByteArray.empty aM) h s dZ rfl rfl fun f w1 b8 h s=>e9 ac 2 h rfl fun f h=>al ?_)
 refine rs ac 1 h rfl fun f h=>da ac h rfl (fun r2 f h=>?_) (fun r2 f h=>?_)
 ·refine e9 ac 6 h rfl fun f h=>al (al ?_)
  refine az (aj 2 h s a6 rfl rfl (ak _ _ _) rfl fun f h=>fJ h s zO (fV sv vt _ (hT.keep s.ext) htl) rfl rfl (fun r0 f w1 h s=>?_) (fun r0 f w1 h s=>?_))
  ·refine e9 ac 18 h rfl fun f h=>cv h rfl (qr (ag h (bC eG) rfl fun f h=>ao 0 h s a6 rfl rfl rfl (ak _ _ _) (ak _ _ _) (a7 _ _ (rfl)) fun w1 s=>e9 ac 2 h rfl fun f h=>rt ?_))
   exact bs 0 rfl h s a6 rfl rfl (ak _ _ _) rfl rfl (fm (Bb fun ⟨a0,a1,a2,a3,a4,a5⟩=>absurd a2 (of_decide_eq_false r2)) (s.pick _ (List.nil_sublist _)))
  ·skip
   refine aq ac 2 h rfl fun f h=>ca h rfl (aj 1 h s ck rfl rfl (aF _ _) rfl fun f h=>ca h rfl (fJ h s oM (fc m vs _ (hV.keep s.ext) (by omega)) rfl rfl (fun r1 f w1 h s=>?_) (fun r1 f w1 h s=>?_)))
   ·refine e9 ac 14 h rfl fun f h=>cv h rfl (qr (ag h (bC eG) rfl fun f h=>ao 0 h s a6 rfl rfl rfl (ak _ _ _) (ak _ _ _) (a7 _ _ (rfl)) fun w1 s=>e9 ac 2 h rfl fun f h=>rt ?_))
    exact bs 0 rfl h s a6 rfl rfl (ak _ _ _) rfl rfl (fm (Bb fun ⟨a0,a1,a2,a3,a4,a5⟩=>absurd a2 (of_decide_eq_false r2)) (s.pick _ (List.nil_sublist _)))
   ·refine e9 ac 14 h rfl fun f h=>cv h rfl (qr (ag h (bC eG) rfl fun f h=>ao 0 h s a6 rfl rfl rfl (ak _ _ _) (ak _ _ _) (a7 _ _ (rfl)) fun w1 s=>e9 ac 2 h rfl fun f h=>rt ?_))
    exact bs 0 rfl h s a6 rfl rfl (ak _ _ _) rfl rfl (fm (Bb fun ⟨a0,a1,a2,a3,a4,a5⟩=>absurd a2 (of_decide_eq_false r2)) (s.pick _ (List.nil_sublist _)))
 ·skip
  refine aq ac 2 h rfl fun f h=>ca h rfl (cn h s qK (bj (.int .i64 32) (gA 16 _ (by omega)) (rfl)) rfl rfl fun f w1 h s=>ca h rfl (da ac h rfl (fun r3 f h=>?_) (fun r3 f h=>?_)))
  ·refine e9 ac 2 h rfl fun f h=>al (al ?_)
   refine az (aj 2 h s a6 rfl rfl (ak _ _ _) rfl fun f h=>fJ h s zO (fV sv vt _ (hT.keep s.ext) htl) rfl rfl (fun r0 f w1 h s=>?_) (fun r0 f w1 h s=>?_))
   ·refine e9 ac 18 h rfl fun f h=>cv h rfl (qr (ag h (bC eG) rfl fun f h=>ao 0 h s a6 rfl rfl rfl (ak _ _ _) (ak _ _ _) (a7 _ _ (rfl)) fun w1 s=>e9 ac 2 h rfl fun f h=>rt ?_))
    exact bs 0 rfl h s a6 rfl rfl (ak _ _ _) rfl rfl (fm (Bb fun ⟨a0,a1,a2,a3,a4,a5⟩=>absurd a3 (by have:=of_decide_eq_false r3;omega)) (s.pick _ (List.nil_sublist _)))
   ·skip
    refine aq ac 2 h rfl fun f h=>ca h rfl (aj 1 h s ck rfl rfl (aF _ _) rfl fun f h=>ca h rfl (fJ h s oM (fc m vs _ (hV.keep s.ext) (by omega)) rfl rfl (fun r1 f w1 h s=>?_) (fun r1 f w1 h s=>?_)))
    ·refine e9 ac 14 h rfl fun f h=>cv h rfl (qr (ag h (bC eG) rfl fun f h=>ao 0 h s a6 rfl rfl rfl (ak _ _ _) (ak _ _ _) (a7 _ _ (rfl)) fun w1 s=>e9 ac 2 h rfl fun f h=>rt ?_))
     exact bs 0 rfl h s a6 rfl rfl (ak _ _ _) rfl rfl (fm (Bb fun ⟨a0,a1,a2,a3,a4,a5⟩=>absurd a3 (by have:=of_decide_eq_false r3;omega)) (s.pick _ (List.nil_sublist _)))
    ·refine e9 ac 14 h rfl fun f h=>cv h rfl (qr (ag h (bC eG) rfl fun f h=>ao 0 h s a6 rfl rfl rfl (ak _ _ _) (ak _ _ _) (a7 _ _ (rfl)) fun w1 s=>e9 ac 2 h rfl fun f h=>rt ?_))
     exact bs 0 rfl h s a6 rfl rfl (ak _ _ _) rfl rfl (fm (Bb fun ⟨a0,a1,a2,a3,a4,a5⟩=>absurd a3 (by have:=of_decide_eq_false r3;omega)) (s.pick _ (List.nil_sublist _)))
  ·refine e9 ac 2 h rfl fun f h=>al (al ?_)
   refine az (aj 2 h s a6 rfl rfl (ak _ _ _) rfl fun f h=>fJ h s zO (fV sv vt _ (hT.keep s.ext) htl) rfl rfl (fun r0 f w1 h s=>?_) (fun r0 f w1 h s=>?_))
   ·refine e9 ac 18 h rfl fun f h=>cv h rfl (qr (ag h (bC eG) rfl fun f h=>ao 0 h s a6 rfl rfl rfl (ak _ _ _) (ak _ _ _) (a7 _ _ (rfl)) fun w1 s=>e9 ac 2 h rfl fun f h=>rt ?_))
    exact bs 0 rfl h s a6 rfl rfl (ak _ _ _) rfl rfl (fm (Bb fun ⟨a0,a1,a2,a3,a4,a5⟩=>by rw [r0] at a0;cases a0) (s.pick _ (List.nil_sublist _)))
   ·skip
    refine aq ac 2 h rfl fun f h=>ca h rfl (aj 1 h s ck rfl rfl (aF _ _) rfl fun f h=>ca h rfl (fJ h s oM (fc m vs _ (hV.keep s.ext) (by omega)) rfl rfl (fun r1 f w1 h s=>?_) (fun r1 f w1 h s=>?_)))
    ·refine e9 ac 14 h rfl fun f h=>cv h rfl (qr (ag h (bC eG) rfl fun f h=>ao 0 h s a6 rfl rfl rfl (ak _ _ _) (ak _ _ _) (a7 _ _ (rfl)) fun w1 s=>e9 ac 2 h rfl fun f h=>rt ?_))
     exact bs 0 rfl h s a6 rfl rfl (ak _ _ _) rfl rfl (fm (Bb fun ⟨a0,a1,a2,a3,a4,a5⟩=>by rw [r1] at a1;cases a1) (s.pick _ (List.nil_sublist _)))
    ·skip
     refine aq ac 8 h rfl fun f h=>ca h rfl (da ac h rfl (fun r4 f h=>?_) (fun r4 f h=>?_))
     ·skip
      refine aq ac 3 h rfl fun f h=>ca h rfl (da ac h rfl (fun r5 f h=>?_) (fun r5 f h=>?_))
      ·refine e9 ac 1 h rfl fun f h=>jw h rfl (al ?_)
       have hn9:0≤now∧now≤1099511627776:=⟨by have:=of_decide_eq_false r4;omega,by have:=of_decide_eq_false r5;omega⟩
       have hbk:By sv fr m now:=⟨r0,r1,of_decide_eq_true r2,(by have:=of_decide_eq_true r3;omega),hn9.1,hn9.2⟩
       have hxl:(bN sv now).tb.length≤1000:=Nat.le_trans (List.length_filter_le _ _) htl
       refine sK (γ:=List Nat × Value × Value × List S2) 0 [[],[],[0,1],[],[],[0,1,2,4],[],[0,1,2,3,4,5,6],[0,1,2,3,4,5,6,7],[0,1,2,3,4,5,6,7,8],[0,1,2,3,4,5,6,7,8],[0,1,2,3,4,5,6,7,8],[],[0,1,2,3,4,5,6,7,8,9,12],[0,1,2,3,4,5,6,7,8,9,10,12,13],[0,1,2,3,4,5,6,7,8,9,10,11,12,13,14]] [[],[],[],[],[],[],[],[2],[],[],[],[],[],[12],[],[]] [] [.v (.agg (aC sv.no sv.sec vt)),.v _,.r (fun v=>[.grp (v 2).2.1 (fun w9=>cK w9 vt sv.tb→cK w9 (l3 (v 2).2.2.1) (xx sv.tb now))]) (fun v=>(v 2).1=.agg (aC sv.no sv.sec (l3 (v 2).2.2.1))),.v _,.v (.agg (a8 m vs)),.v (CV 94 95 99 m vs),.v _,.r (fun v=>[.grp (v 7).2.1 (fun w9=>cW (v 7).2.2.2.2=(bX (bN sv now) fr m now).l∧(cK w9 vt sv.tb→eg w9 vs m.l→cK w9 (l3 (v 7).2.2.1) (bX (bN sv now) fr m now).s.tb∧bK w9 (v 7).2.2.2.1 139 (v 7).2.2.2.2.length (aU (v 7).2.2.2.2)∧lN (v 7).2.2.2.2 w9))]) (fun v=>(v 7).1=.tuple #[.agg (aC (bX (bN sv now) fr m now).s.no (bX (bN sv now) fr m now).s.sec (l3 (v 7).2.2.1)),(v 7).2.2.2.1,.int .i64 (bX (bN sv now) fr m now).e]),.f (fun v=>(v 8).1=.tuple #[.agg (aC (bX (bN sv now) fr m now).s.no (bX (bN sv now) fr m now).s.sec (l3 (v 7).2.2.1)),(v 7).2.2.2.1,.int .i64 (bX (bN sv now) fr m now).e]),.f (fun v=>(v 9).1=.agg (aC (bX (bN sv now) fr m now).s.no (bX (bN sv now) fr m now).s.sec (l3 (v 7).2.2.1))),.f (fun v=>(v 10).1=(v 7).2.2.2.1),.v (.int .i64 (bX (bN sv now) fr m now).e),.q (fun v=>[.blk (zK (v 12).1) (.cells (aC 0 ByteArray.empty aM) 24)]),.m (fun v=>[.blk (zK (v 12).1) (.cells (aC (bX (bN sv now) fr m now).s.no (bX (bN sv now) fr m now).s.sec (l3 (v 7).2.2.1)) 24)]),.f (fun v=>(v 14).1=(v 7).2.2.2.1),.v _] _ h s rfl (by kernel_rfl) (by kernel_rfl) (by kernel_rfl) (cu ?_ (Dv ac h rfl rfl rfl (cu ?_ (Dv ac h rfl rfl rfl (cu ?_ (cu ?_ (Dv ac h rfl rfl rfl (cu ?_ (cu ?_ (cu ?_ (cu ?_ (cu ?_ (cu ?_ (cu ?_ (cu ?_ (Dv ac h rfl rfl rfl (trivial))))))))))))))))) [0,1,3,4,5,6,7,8,9,10,11,13,14,15] (by kernel_rfl) ?_
       ·intro f9 w2 vl4 E9 hs9 hd9 hl hF s
        have h:=cS [(4,_)] h hs9 hd9 ⟨fY hl 4 (by kernel_rfl) (h.holds 4 _ rfl),trivial⟩
        refine aj 2 h s a6 rfl rfl (ak _ _ _) rfl fun f h=>aB ⟨(_,default),bv 44 h rfl rfl,rfl,s⟩
       ·intro f9 w2 vl4 E9 hs9 hd9 hl hF s
        have h:=cS [(44,_),(45,_)] h hs9 hd9 ⟨bu hl 44 0 (by kernel_rfl) (hF 0 (by decide)),bu hl 45 1 (by kernel_rfl) (hF 1 (by decide)),trivial⟩
        refine bk h s HH (wQ sv vt now _ (hT.keep s.ext) htl (dq.1 r0).2.2.2) rfl rfl ?_;rintro f w1 v46 ⟨pl,kl,hv46,hG⟩ hE h sq;replace s:=s.add hG;clear hG
        have hp9:=Az ((s.getG 0 rfl) (hT.keep s.ext))
        rw [← hp9] at hv46 s
        exact aB ⟨(_,(kl,pl,undef,[])),bv 46 h rfl rfl,hv46,s⟩
       ·intro f9 w2 vl4 E9 hs9 hd9 hl hF s
        have h:=cS [(6,_)] h hs9 hd9 ⟨fY hl 6 (by kernel_rfl) (h.holds 6 _ rfl),trivial⟩
        refine aj 1 h s ck rfl rfl (aF _ _) rfl fun f h=>aB ⟨(_,default),bv 48 h rfl rfl,rfl,s⟩
       ·intro f9 w2 vl4 E9 hs9 hd9 hl hF s
        have h:=cS [(48,_)] h hs9 hd9 ⟨bu hl 48 4 (by kernel_rfl) (hF 4 (by decide)),trivial⟩
        refine cn h s Hi (xq m vs _ (hV.keep s.ext) hml) rfl rfl fun f w1 h s=>aB ⟨(_,default),bv 49 h rfl rfl,rfl,s⟩
       ·intro f9 w2 vl4 E9 hs9 hd9 hl hF s
        have h:=cS [(46,.agg (aC sv.no sv.sec (l3 (vl4 2).2.2.1))),(47,_),(49,_),(50,_)] h hs9 hd9 ⟨bu hl 46 2 (by kernel_rfl) (hF 2 (by decide)),bu hl 47 3 (by kernel_rfl) (hF 3 (by decide)),bu hl 49 5 (by kernel_rfl) (hF 5 (by decide)),bu hl 50 6 (by kernel_rfl) (hF 6 (by decide)),trivial⟩
        refine bk h s HU (xh (bN sv now) (l3 (vl4 2).2.2.1) fr m vs now _ ((s.getG 0 rfl) (hT.keep s.ext)) hxl (hV.keep s.ext) hml (nb r0 now) r1 hn9 (hH.keep s.ext) (hK.keep s.ext)) rfl rfl ?_;rintro f w1 v51 ⟨tu,uu,Ku,ku,hv51,hu,hG⟩ hE h sq;replace s:=s.add hG;clear hG
        have hp9:=Az (((s.getG 0 rfl) ((s.getG 1 rfl) (hT.keep s.ext)) (hV.keep s.ext)).1)
        rw [← hp9] at hv51 s
        replace s:=s.merge (S:=fun w9=>cW Ku=(bX (bN sv now) fr m now).l∧(cK w9 vt sv.tb→eg w9 vs m.l→cK w9 (l3 tu) (bX (bN sv now) fr m now).s.tb∧bK w9 uu 139 Ku.length (aU Ku)∧lN Ku w9)) (fun w9 a b=>⟨hu,fun c d=>a (b c) d⟩)
        exact aB ⟨(_,(ku++(vl4 2).2.1,tu,uu,Ku)),bv 51 h rfl rfl,hv51,s⟩
       ·intro f9 w2 vl4 E9 hs9 hd9 hl hF s
        have h:=cS [(51,.tuple #[.agg (aC (bX (bN sv now) fr m now).s.no (bX (bN sv now) fr m now).s.sec (l3 (vl4 7).2.2.1)),(vl4 7).2.2.2.1,.int .i64 (bX (bN sv now) fr m now).e])] h hs9 hd9 ⟨bu hl 51 7 (by kernel_rfl) (hF 7 (by decide)),trivial⟩
        refine aq ac 1 h rfl fun f h=>aB ⟨(_,default),bv 43 h rfl rfl,rfl,s⟩
       ·intro f9 w2 vl4 E9 hs9 hd9 hl hF s
        have h:=cS [(43,.tuple #[.agg (aC (bX (bN sv now) fr m now).s.no (bX (bN sv now) fr m now).s.sec (l3 (vl4 7).2.2.1)),(vl4 7).2.2.2.1,.int .i64 (bX (bN sv now) fr m now).e])] h hs9 hd9 ⟨bu hl 43 8 (by kernel_rfl) (hF 8 (by decide)),trivial⟩
        refine aq ac 1 h rfl fun f h=>aB ⟨(_,default),bv 52 h rfl rfl,rfl,s⟩
       ·intro f9 w2 vl4 E9 hs9 hd9 hl hF s
        have h:=cS [(43,.tuple #[.agg (aC (bX (bN sv now) fr m now).s.no (bX (bN sv now) fr m now).s.sec (l3 (vl4 7).2.2.1)),(vl4 7).2.2.2.1,.int .i64 (bX (bN sv now) fr m now).e])] h hs9 hd9 ⟨bu hl 43 8 (by kernel_rfl) (hF 8 (by decide)),trivial⟩
        refine aq ac 1 h rfl fun f h=>aB ⟨(_,default),bv 53 h rfl rfl,rfl,s⟩
       ·intro f9 w2 vl4 E9 hs9 hd9 hl hF s
        have h:=cS [(43,.tuple #[.agg (aC (bX (bN sv now) fr m now).s.no (bX (bN sv now) fr m now).s.sec (l3 (vl4 7).2.2.1)),(vl4 7).2.2.2.1,.int .i64 (bX (bN sv now) fr m now).e])] h hs9 hd9 ⟨bu hl 43 8 (by kernel_rfl) (hF 8 (by decide)),trivial⟩
        refine aq ac 1 h rfl fun f h=>aB ⟨(_,default),bv 54 h rfl rfl,rfl,s⟩
       ·intro f9 w2 vl4 E9 hs9 hd9 hl hF s
        have h:=bI [] (hs9.trans h.size) (hd9.trans h.defers) (holds_lk trivial)
        refine aJ (aC 0 ByteArray.empty aM) h s dZ rfl rfl fun f w1 b12 h s=>aB ⟨(_,default),bv 12 h rfl rfl,⟨_,rfl⟩,s⟩
       ·intro f9 w2 vl4 E9 hs9 hd9 hl hF s
        obtain ⟨b12,hb12⟩:∃ b,(vl4 12).1=.pointer (some ⟨b,0,none⟩):=hF 12 (by decide)
        have e12:f9.tmps.getD 12 undef=.pointer (some ⟨b12,0,none⟩):=(cz hl 12 12 (by kernel_rfl) (by kernel_rfl)).trans hb12
        have e52:f9.tmps.getD 52 undef=.agg (aC (bX (bN sv now) fr m now).s.no (bX (bN sv now) fr m now).s.sec (l3 (vl4 7).2.2.1)):=(cz hl 52 9 (by kernel_rfl) (by kernel_rfl)).trans (hF 9 (by decide))
        have h:=bI [(12,.pointer (some ⟨b12,0,none⟩)),(52,.agg (aC (bX (bN sv now) fr m now).s.no (bX (bN sv now) fr m now).s.sec (l3 (vl4 7).2.2.1)))] (hs9.trans h.size) (hd9.trans h.defers) (holds_lk ⟨e12,e52,trivial⟩)
        replace s:St w (.blk (zK (vl4 12).1) (.cells (aC 0 ByteArray.empty aM) 24)::.blk b8 (.cells (aC 0 ByteArray.empty aM) 24)::.blk b6 (.cells (a8 m vs) 31)::.blk b4 (.cells (aC sv.no sv.sec vt) 24)::E9) _:=s
        rw [hb12] at s
        replace s:St w (.blk b12 (.cells (aC 0 ByteArray.empty aM) 24)::.blk b8 (.cells (aC 0 ByteArray.empty aM) 24)::.blk b6 (.cells (a8 m vs) 31)::.blk b4 (.cells (aC sv.no sv.sec vt) 24)::E9) _:=s
        refine ao 0 h s a6 rfl rfl rfl (ak _ _ _) (ak _ _ _) (a7 _ _ (uC _)) fun w1 s=>aB ⟨(undef,default),fk rfl,trivial,?_⟩
        have z:=s
        rw [← show zK (vl4 12).1=b12 from by rw [hb12];rfl] at z
        exact z
       ·intro f9 w2 vl4 E9 hs9 hd9 hl hF s
        have h:=cS [(53,(vl4 7).2.2.2.1)] h hs9 hd9 ⟨bu hl 53 10 (by kernel_rfl) (hF 10 (by decide)),trivial⟩
        refine aq ac 1 h rfl fun f h=>aB ⟨(_,default),bv 13 h rfl rfl,rfl,s⟩
       intro f w1 vl4 hs9 hd9 hv hr hF s
       obtain ⟨b12,hb12⟩:∃ b,(vl4 12).1=.pointer (some ⟨b,0,none⟩):=hF 12 (by kernel_rfl)
       replace h:=j8 (ops:=_) [(44,_),(45,_),(46,.agg (aC sv.no sv.sec (l3 (vl4 2).2.2.1))),(47,_),(48,_),(49,_),(50,_),(51,.tuple #[.agg (aC (bX (bN sv now) fr m now).s.no (bX (bN sv now) fr m now).s.sec (l3 (vl4 7).2.2.1)),(vl4 7).2.2.2.1,.int .i64 (bX (bN sv now) fr m now).e]),(43,.tuple #[.agg (aC (bX (bN sv now) fr m now).s.no (bX (bN sv now) fr m now).s.sec (l3 (vl4 7).2.2.1)),(vl4 7).2.2.2.1,.int .i64 (bX (bN sv now) fr m now).e]),(52,.agg (aC (bX (bN sv now) fr m now).s.no (bX (bN sv now) fr m now).s.sec (l3 (vl4 7).2.2.1))),(53,(vl4 7).2.2.2.1),(54,_),(12,.pointer (some ⟨b12,0,none⟩)),(13,(vl4 7).2.2.2.1),(14,_)] h hs9 hd9 hr ⟨(hv 0 44 rfl).trans (hF 0 rfl),(hv 1 45 rfl).trans (hF 1 rfl),(hv 2 46 rfl).trans (hF 2 rfl),(hv 3 47 rfl).trans (hF 3 rfl),(hv 4 48 rfl).trans (hF 4 rfl),(hv 5 49 rfl).trans (hF 5 rfl),(hv 6 50 rfl).trans (hF 6 rfl),(hv 7 51 rfl).trans (hF 7 rfl),(hv 8 43 rfl).trans (hF 8 rfl),(hv 9 52 rfl).trans (hF 9 rfl),(hv 10 53 rfl).trans (hF 10 rfl),(hv 11 54 rfl).trans (hF 11 rfl),(hv 12 12 rfl).trans hb12,(hv 14 13 rfl).trans (hF 14 rfl),(hv 15 14 rfl).trans (hF 15 rfl),trivial⟩ (by kernel_rfl)
       replace s:St w [.grp (vl4 7).2.1 (fun w9=>cW (vl4 7).2.2.2.2=(bX (bN sv now) fr m now).l∧(cK w9 vt sv.tb→eg w9 vs m.l→cK w9 (l3 (vl4 7).2.2.1) (bX (bN sv now) fr m now).s.tb∧bK w9 (vl4 7).2.2.2.1 139 (vl4 7).2.2.2.2.length (aU (vl4 7).2.2.2.2)∧lN (vl4 7).2.2.2.2 w9)),.blk (zK (vl4 12).1) (.cells (aC (bX (bN sv now) fr m now).s.no (bX (bN sv now) fr m now).s.sec (l3 (vl4 7).2.2.1)) 24),.blk b8 (.cells (aC 0 ByteArray.empty aM) 24),.blk b6 (.cells (a8 m vs) 31),.blk b4 (.cells (aC sv.no sv.sec vt) 24)] _:=s
       rw [hb12] at s
       replace s:St w [.grp (vl4 7).2.1 (fun w9=>cW (vl4 7).2.2.2.2=(bX (bN sv now) fr m now).l∧(cK w9 vt sv.tb→eg w9 vs m.l→cK w9 (l3 (vl4 7).2.2.1) (bX (bN sv now) fr m now).s.tb∧bK w9 (vl4 7).2.2.2.1 139 (vl4 7).2.2.2.2.length (aU (vl4 7).2.2.2.2)∧lN (vl4 7).2.2.2.2 w9)),.blk b12 (.cells (aC (bX (bN sv now) fr m now).s.no (bX (bN sv now) fr m now).s.sec (l3 (vl4 7).2.2.1)) 24),.blk b8 (.cells (aC 0 ByteArray.empty aM) 24),.blk b6 (.cells (a8 m vs) 31),.blk b4 (.cells (aC sv.no sv.sec vt) 24)] _:=s
       refine aH (al (bG ac 2 h rfl fun f h=>cq h rfl (fun hc=>?_) (fun hc=>?_)))
       ·have e1:=of_decide_eq_true hc
        refine qr (ag h (bC eG) rfl fun f h=>aq ac 1 h rfl fun f h=>ao 2 h s a6 rfl rfl rfl (ak _ _ _) (ak _ _ _) (a7 _ _ (rfl)) fun w1 s=>e9 ac 2 h rfl fun f h=>rt ?_)
        exact bs 2 rfl h s a6 rfl rfl (ak _ _ _) rfl rfl (HR hbk e1 (s.pick _ (List.nil_sublist _)))
       ·have e1:=of_decide_eq_false hc
        refine kt (al (bG ac 2 h rfl fun f h=>cq h rfl (fun hc=>?_) (fun hc=>?_)))
        ·have e0:=of_decide_eq_true hc
         refine cd ac 1 h rfl fun f h=>ap (V:=vt) (ae (aO.of_own s 4 rfl) 2 (im _ _ _)) h di rfl rfl fun f h=>bk h s AE (jB sv.tb htl vt _ (hT.keep s.ext)) rfl rfl ?_;intro f w1 v63 hT9 hE h sq;replace s:=s.sl_new hE hT9
         refine aq ac 1 h rfl fun f h=>bD 5 h s di rfl rfl rfl (by rw [ak];omega) (gR (s.getSl 0 rfl)) fun w1 s=>?_
         replace s:=s.recell (D:=aC sv.no sv.sec v63) 5 rfl (rfl)
         refine nt (qr (aj 5 h s a6 rfl rfl (ak _ _ _) rfl fun f h=>aq ac 1 h rfl fun f h=>ao 3 h s a6 rfl rfl rfl (ak _ _ _) (ak _ _ _) (a7 _ _ (gR (s.getSl 0 rfl))) fun w1 s=>e9 ac 2 h rfl fun f h=>rt ?_))
         exact bs 3 rfl h s a6 rfl rfl (ak _ _ _) rfl rfl (It hbk e1 e0 (s.sel [0] rfl (by decide)))
        ·have e0:=Decidable.of_not_not (of_decide_eq_false hc)
         refine kt (qr (aj 1 h s a6 rfl rfl (ak _ _ _) rfl fun f h=>aq ac 1 h rfl fun f h=>ao 2 h s a6 rfl rfl rfl (ak _ _ _) (ak _ _ _) (a7 _ _ (uC _)) fun w1 s=>e9 ac 2 h rfl fun f h=>wpIn_ret ?_))
         exact bs 2 rfl h s a6 rfl rfl (ak _ _ _) rfl rfl (Hw hbk e0 (s.sel [0] rfl (by decide)))
      ·refine e9 ac 1 h rfl fun f h=>cv h rfl (qr (ag h (bC eG) rfl fun f h=>ao 0 h s a6 rfl rfl rfl (ak _ _ _) (ak _ _ _) (a7 _ _ (rfl)) fun w1 s=>e9 ac 2 h rfl fun f h=>rt ?_))
       exact bs 0 rfl h s a6 rfl rfl (ak _ _ _) rfl rfl (fm (Bb fun ⟨a0,a1,a2,a3,a4,a5⟩=>by have:=of_decide_eq_true r5;omega) (s.pick _ (List.nil_sublist _)))
     ·refine e9 ac 5 h rfl fun f h=>cv h rfl (qr (ag h (bC eG) rfl fun f h=>ao 0 h s a6 rfl rfl rfl (ak _ _ _) (ak _ _ _) (a7 _ _ (rfl)) fun w1 s=>e9 ac 2 h rfl fun f h=>rt ?_))
      exact bs 0 rfl h s a6 rfl rfl (ak _ _ _) rfl rfl (fm (Bb fun ⟨a0,a1,a2,a3,a4,a5⟩=>by have:=of_decide_eq_true r4;omega) (s.pick _ (List.nil_sublist _)))
end Go.Proofs.YtobfeflheaobiaaGreatDoor
