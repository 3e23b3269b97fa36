/- What becomes of a packet, by the reference. -/
import Derived.Test.YtobfeflheaobiaaGreatDoorVt
set_option linter.unusedVariables false
set_option linter.unusedSimpArgs false
set_option linter.unusedSectionVars false
namespace Go.Proofs.YtobfeflheaobiaaGreatDoor
open Go.RowKit
theorem yX (p:Pk) (vs:Value) (b:Tg) (fr:List cU) (vf:Value) (w:World) (hP:bI w vs 34 p.1.length (br p.1)) (hpl:p.1.length≤1000) (h1:1≤p.1.length) (hh:0≤p.2.1∧p.2.1≤64) (hF:bI w vf 34 fr.length (br fr)) (hfl:fr.length≤1000):Calls Tryz.prog 85 [.agg (bO vs p.2.1 p.2.2),.agg (aB b),vf].toArray w (cp w (fun v w'=>∃ u,v=.agg (cu 2 0 u (p.2.1 - 1) p.2.2 b 0)∧cB w' w.heap.size 28 34 u (fr++p.1.drop 1).length (br (fr++p.1.drop 1)))):=by
 refine bF Tryz.func85 rfl Tryz.ntmps85 rfl fun f h s=>qr (aZ (bO vs p.2.1 p.2.2) h s rfl rfl rfl fun f w1 b3 h s=>aZ (aB b) h s rfl rfl rfl fun f w1 b4 h s=>aK (cu 0 0 aI 0 ByteArray.empty aW 0) h s pK rfl rfl fun f w1 b6 h s=>nt (qr (bn (vs:=[]) [] h s Tryz.underlying29 pm rfl rfl (by simp) rfl rfl rfl fun f w1 v8 h s=>?_)))
 replace s:=s.resl (m:=([]:List cU).length) (ys:=br ([]:List cU)) 0 rfl (rfl) (rfl)
 refine e9 ab 1 h rfl fun f h=>bZ ab 2 h rfl fun f h=>i9 0 (hF.keep s.ext) h s Tryz.underlying29 pm rfl rfl rfl (lA _) (by show 0+_≤_;unfold maxLen;omega) (by show (0+_)*_≤_;omega) rfl fun f w1 v11 h s=>?_
 replace s:=s.resl (m:=fr.length) (ys:=br fr) 0 rfl (by simp) (by rw [show br []=([]:List Value) from rfl,List.nil_append])
 refine e9 ab 1 h rfl fun f h=>bZ ab 2 h rfl fun f h=>ag (V:=vs) (ac (aG.of_own s 3 rfl) 0 (rK _ _ _)) h cG rfl rfl fun f h=>ae h (gq (hP.keep s.ext) (1) Tryz.underlying29 fp (h.ev rfl) (h.ev rfl) (rfl) (by omega)) rfl fun f h=>i9 0 ((oh (hP.keep s.ext) 1 (by omega))) h s Tryz.underlying29 pm rfl rfl rfl (lA _) (by rw [List.length_drop];unfold maxLen;omega) (by rw [List.length_drop];omega) rfl fun f w1 v16 h s=>?_
 replace s:=s.resl (m:=(fr++p.1.drop 1).length) (ys:=br (fr++p.1.drop 1)) 0 rfl (by rw [List.length_append]) (by rw [rh])
 refine e9 ab 1 h rfl fun f h=>bZ ab 2 h rfl fun f h=>ag (V:=.int .i64 p.2.1) (ac (aG.of_own s 3 rfl) 1 (rJ _ _ _)) h bo rfl rfl fun f h=>ae h (ea (h.ev rfl) (h.ev rfl) (by omega)) rfl fun f h=>am ab 1 h rfl fun f h=>ag (V:=.string p.2.2) (ac (aG.of_own s 3 rfl) 2 (A9 _ _ _)) h dG rfl rfl fun f h=>ae h (iD E3 (gx (bI.of_own (s.getSl 0 rfl))) (eR (bI.of_own (s.getSl 0 rfl))) (h.ev rfl) (h.ev rfl) (h.ev rfl)) rfl fun f h=>ak 2 h s a8 rfl rfl (ao _) rfl fun f h=>ae h (lT wG (eR (bI.of_own (s.getSl 0 rfl))) rfl (h.ev rfl) (h.ev rfl)) rfl fun f h=>aj 1 h s lJ rfl rfl rfl (dH _ _ _ _ _ _ _) (dH _ _ _ _ _ _ _) (eE _ _ _ _ _ _ (dm (s.getSl 0 rfl))) fun w1 s=>nt (wpIn_ret (cR 1 rfl h s lJ rfl rfl (dH _ _ _ _ _ _ _) (⟨_,rfl,s.getSl 0 rfl⟩)))
set_option maxHeartbeats 2000000 in
theorem z5 (t:List Tg) (vh:Value) (p:Pk) (vs:Value) (w:World) (hR:bI w vh 67 t.length (aJ t)) (hln:t.length≤1000) (hP:bI w vs 34 p.1.length (br p.1)) (hpl:p.1.length≤1000) (h1:1≤p.1.length) (hh9:0≤p.2.1∧p.2.1≤64):Calls Tryz.prog 54 [vh,.agg (bO vs p.2.1 p.2.2)].toArray w (cp w (OV w 107 vs p (cL t p))):=by
 refine bF Tryz.func54 rfl Tryz.ntmps54 rfl fun f h s=>qr (aZ (bO vs p.2.1 p.2.2) h s rfl rfl rfl fun f w1 b3 h s=>e9 ab 1 h rfl fun f h=>qr (bn (vs:=[]) [] h s Tryz.underlying104 fJ rfl rfl (by simp) rfl rfl rfl fun f w1 v9 h s=>?_))
 replace s:=s.resl (m:=([]:List O2).length) (ys:=cb []) 0 rfl rfl rfl
 refine e9 ab 1 h rfl fun f h=>bZ ab 1 h rfl fun f h=>ag (V:=vs) (ac (aG.of_own s 1 rfl) 0 (rK _ _ _)) h cG rfl rfl fun f h=>ae h (a7 (hP.keep s.ext) (0) Tryz.underlying29 fp (h.ev rfl) (h.ev rfl) (rfl) (by omega)) rfl fun f h=>ar ((hP.keep s.ext).el (0) (by omega) (by decide) (D:=bg (bk p)) (pX p.1 0 (by omega))) h bY rfl (aC _) rfl fun f h=>aK (bg (0,0#256,0)) h s ob rfl rfl fun f w1 b6 h s=>aj 0 h s bY rfl rfl rfl (aC _) (aC _) (fD _) fun w1 s=>nt (al (bZ ab 1 h rfl fun f h=>ag (ac (aG.of_own s 0 rfl) 0 (d7 _)) h bo rfl rfl fun f h=>e9 ab 1 h rfl fun f h=>cd h rfl (fun hc=>?_) (fun hc=>?_)))
 ·have h0:=hc
  refine bZ ab 2 h rfl fun f h=>ag (ac (aG.of_own s 0 rfl) 33 (dO _)) h bo rfl rfl fun f h=>ak 2 h s fc rfl rfl (cf _ _ _) rfl fun f h=>ae h (jJ wG rfl (h.ev rfl) (h.ev rfl)) rfl fun f h=>bn (vs:=[.agg (cu 1 (bk p).2.2 vs p.2.1 p.2.2 aW 0)]) [.tmp 21] h s Tryz.underlying104 fJ rfl rfl (n4 (gu p,vs)) rfl rfl rfl fun f w1 v22 h s=>cq 2 0 h s Tryz.underlying104 fJ rfl rfl rfl rfl (by decide) (by exact eE _ _ _ _ _ _ (bs hP)) (by show 0+1≤_;unfold maxLen;omega) (by show (0+1)*_≤_;omega) rfl fun f w1 v23 h s=>?_
  replace s:=s.pick _ (List.sublist_cons_self _ _)
  replace s:=s.resl (m:=(([]:List O2)++[(gu p,vs)]).length) (ys:=cb (([]:List O2)++[(gu p,vs)])) 1 rfl (oI ([]:List O2) (gu p,vs)) (by exact kG ([]:List O2) (gu p,vs))
  refine e9 ab 1 h rfl fun f h=>bH ab 2 h rfl fun f h=>rt (aH rfl h s rfl (yR (K:=([]:List O2)++[(gu p,vs)]) (by rw [jI h0];rfl) (fun _ h9=>pz (x:=gu p) h9) (s.sel [1] rfl (by decide))))
 ·have h0:=hc
  refine kt (al (bZ ab 1 h rfl fun f h=>ag (V:=.int .i64 p.2.1) (ac (aG.of_own s 2 rfl) 1 (rJ _ _ _)) h bo rfl rfl fun f h=>e9 ab 1 h rfl fun f h=>cd h rfl (fun hc=>?_) (fun hc=>?_)))
  ·have h2:=hc
   refine bZ ab 1 h rfl fun f h=>ae h (gX wG rfl rfl) rfl fun f h=>bn (vs:=[.agg (cu 3 0 aI 0 ByteArray.empty aW 9)]) [.tmp 29] h s Tryz.underlying104 fJ rfl rfl (n4 (dU 9,aI)) rfl rfl rfl fun f w1 v30 h s=>cq 2 0 h s Tryz.underlying104 fJ rfl rfl rfl rfl (by decide) (by exact eE _ _ _ _ _ _ (rfl)) (by show 0+1≤_;unfold maxLen;omega) (by show (0+1)*_≤_;omega) rfl fun f w1 v31 h s=>?_
   replace s:=s.pick _ (List.sublist_cons_self _ _)
   replace s:=s.resl (m:=(([]:List O2)++[(dU 9,aI)]).length) (ys:=cb (([]:List O2)++[(dU 9,aI)])) 1 rfl (oI ([]:List O2) (dU 9,aI)) (by exact kG ([]:List O2) (dU 9,aI))
   refine e9 ab 1 h rfl fun f h=>bH ab 2 h rfl fun f h=>rt (aH rfl h s rfl (yR (K:=([]:List O2)++[(dU 9,aI)]) (by rw [mv h0 h2];rfl) (fun _ _=>pz (x:=dU 9) (fk _)) (s.sel [1] rfl (by decide))))
  ·have h2:=hc
   refine kt (al (bZ ab 2 h rfl fun f h=>ar (aG.subL (aG.of_own s 0 rfl) 1 32 (D:=aA (_)) (fR _)) h aN rfl (by first|exact ai _|exact ah _ _) rfl fun f h=>bq h s LX (um t vh (bk p).2.1 _ (hR.keep s.ext) hln) rfl rfl ?_));intro f w1 v36 hOw hE h sq;change cB _ _ _ 67 _ (jU t (bk p).2.1).length (aJ (jU t (bk p).2.1)) at hOw;replace s:=s.sl_new hE hOw;clear hOw
   obtain ⟨M,hM⟩:∃ x9,x9=(jU t (bk p).2.1):=⟨_,rfl⟩
   have hMl:M.length≤t.length:=by rw [hM];exact wY t _
   rw [← hM] at s
   replace s:=s.grp0 (S:=fun w9=>dM w9 vs p.1→kM [] w9) (fun w9 _=>tC w9)
   refine eA 1 h s Tryz.underlying22 rfl rfl rfl fun f h=>e9 ab 1 h rfl fun f h=>wpIn_block (wpIn_loop_ghost (fun nn aa ww=>∃ k:Nat,∃ vb:Value,∃ K:List O2,∃ kg:List Nat,Sl 75 aa [(0,vh),(1,.agg (bO vs p.2.1 p.2.2)),(3,.pointer (some ⟨b3,0,none⟩)),(6,.pointer (some ⟨b6,0,none⟩)),(5,vb),(36,v36),(37,.int .i64 (M.length:Int)),(38,.int .i64 (k:Int))]∧St w [(.grp kg (fun w9=>dM w9 vs p.1→kM K w9)),.sl v36 67 67 M.length (aJ M),.blk b6 (.cells (bg (bk p)) 28),.sl vb 107 73 K.length (cb K),.blk b3 (.cells (bO vs p.2.1 p.2.2) 103)] ww∧nn=M.length - k∧k≤M.length∧eN K=(M.take k).map (io p)) (M.length - (0)) ⟨0,v9,[],[],h.only ⟨rfl,rfl,rfl,rfl,rfl,rfl,rfl,aq rfl (by omega),trivial⟩,s.as ⟨rfl,rfl,rfl,rfl,rfl,trivial⟩,rfl,Nat.zero_le _,rfl⟩ ?_)
   rintro _ f w1 ⟨k,vb,K,kg,h,s,hnn,hp0,hp1⟩
   refine bH ab 1 h rfl fun f h=>al (cV h rfl (fun hc=>?_) (fun hc=>?_))
   ·refine kt (al (wpIn_block (qr ?_)))
    have hkm:k<M.length:=by omega
    have hKk:K.length=k:=by rw [← fi,hp1,List.length_map,List.length_take];omega
    refine ae h (a7 (bI.of_own (s.getSl 1 rfl)) (k) Tryz.underlying22 dZ (h.ev rfl) (h.ev rfl) (by omega) (by omega)) rfl fun f h=>ar ((bI.of_own (s.getSl 1 rfl)).el (k) (by omega) (by decide) (D:=aB (M.getD k aW)) (dX M k hkm)) h a8 rfl (ao _) rfl fun f h=>aK (aB aW) h s eL rfl rfl fun f w1 b8 h s=>aj 0 h s a8 rfl rfl rfl (ao _) (ao _) (bm _) fun w1 s=>nt (rs ab 1 h rfl fun f h=>ak 5 h s fc rfl rfl (cf _ _ _) rfl fun f h=>ak 0 h s a8 rfl rfl (ao _) rfl fun f h=>am ab 1 h rfl fun f h=>ar (aG.subL (aG.of_own s 0 rfl) 32 34 (D:=bg (_)) (iT _)) h bY rfl (aC _) rfl fun f h=>bn (vs:=[.agg (bg (M.getD k aW).2.1)]) [.tmp 46] h s Tryz.underlying29 pm rfl rfl (Ey _) rfl rfl rfl fun f w1 v47 h s=>?_)
    replace s:=s.resl (m:=[(M.getD k aW).2.1].length) (ys:=br [(M.getD k aW).2.1]) 0 rfl rfl ((De _).trans (nb _).symm)
    refine bq h s HY (yX p vs (M.getD k aW) [(M.getD k aW).2.1] v47 _ (hP.keep s.ext) hpl h1 hh9 (bI.of_own (s.getSl 0 rfl)) (by simp)) rfl rfl ?_;rintro f w1 v48 ⟨vu,rfl,hOw⟩ hE h sq;have hu1:=bs (bI.of_own hOw);replace s:=s.sl_new hE hOw;clear hOw
    refine bn (vs:=[.agg (cu 2 0 vu (p.2.1 - 1) p.2.2 (M.getD k aW) 0)]) [.tmp 48] h s Tryz.underlying104 fJ rfl rfl (n4 (io p (M.getD k aW),vu)) rfl rfl rfl fun f w1 v49 h s=>cq 7 0 h s Tryz.underlying104 fJ rfl rfl rfl rfl (by decide) (by exact eE _ _ _ _ _ _ (hu1)) (by unfold maxLen;omega) (by omega) rfl fun f w1 v50 h s=>?_
    replace s:=s.pick _ (List.sublist_cons_self _ _)
    replace s:=s.resl (m:=(K++[(io p (M.getD k aW),vu)]).length) (ys:=cb (K++[(io p (M.getD k aW),vu)])) 6 rfl (oI K (io p (M.getD k aW),vu)) (by exact kG K (io p (M.getD k aW),vu))
    refine am ab 1 h rfl fun f h=>av (ba (aE (aF ?_)))
    replace s:=s.sel [0,3,1,2,4,5,6,7] rfl (by decide)
    obtain ⟨kn,s⟩:=s.grp1 (S':=fun w9=>dM w9 vs p.1→kM (K++[(io p (M.getD k aW),vu)]) w9) (fun w9 h1 h2 h3=>ni (h2 h3) h1)
    refine ae h (a6 (h.ev rfl) (h.ev rfl) (by omega)) rfl fun f h=>e9 ab 1 h rfl fun f h=>?_
    exact ⟨_,by omega,⟨k+1,v50,K++[(io p (M.getD k aW),vu)],kn,h.only ⟨rfl,rfl,rfl,rfl,rfl,rfl,rfl,aq rfl (by omega),trivial⟩,St.as (s.pick _ (List.Sublist.cons_cons _ (List.Sublist.cons _ (List.Sublist.cons _ (List.Sublist.cons_cons _ (List.Sublist.cons_cons _ (List.Sublist.cons_cons _ (List.Sublist.cons_cons _ (List.nil_sublist _))))))))) ⟨rfl,rfl,rfl,rfl,rfl,trivial⟩,rfl,by omega,vJ hkm hp1⟩⟩
   ·refine wpIn_exit (aU (aU (bR (aE (al (al ?_))))))
    cases m0:(decide (K.length=0):Bool)
    ·refine aF ?_
     obtain rfl:k=M.length:=by omega
     rw [List.take_length] at hp1
     have hKl:K.length=M.length:=by rw [← fi,hp1,List.length_map]
     refine am ab 1 h rfl fun f h=>eA 3 h s Tryz.underlying104 rfl rfl rfl fun f h=>gE ab h rfl ((decide_eq_decide.2 (by omega)).trans m0) fun f h=>e9 ab 6 h rfl fun f h=>iU h rfl (al (bZ ab 1 h rfl fun f h=>eA 3 h s Tryz.underlying104 rfl rfl rfl fun f h=>gE ab h rfl ((decide_eq_decide.2 (by omega)).trans m0) fun f h=>rH h rfl (bH ab 2 h rfl fun f h=>wpIn_ret (aH rfl h s rfl (⟨K,kg,by rw [ng h0 h2 (by rw [← hM,← hKl];exact m0),← hM];exact hp1,s.sel [3,0] rfl (by decide)⟩)))))
    ·skip
     cases m1:(decide (1<p.1.length):Bool)
     ·refine aF ?_
      obtain rfl:k=M.length:=by omega
      rw [List.take_length] at hp1
      have hKl:K.length=M.length:=by rw [← fi,hp1,List.length_map]
      refine am ab 1 h rfl fun f h=>eA 3 h s Tryz.underlying104 rfl rfl rfl fun f h=>fm ab h rfl ((decide_eq_decide.2 (by omega)).trans m0) fun f h=>am ab 2 h rfl fun f h=>bf h rfl (ag (V:=vs) (ac (aG.of_own s 4 rfl) 0 (rK _ _ _)) h cG rfl rfl fun f h=>bf h rfl (dN h (hP.keep s.ext) Tryz.underlying29 rfl rfl fun f h=>bf h rfl (gE ab h rfl ((decide_eq_decide.2 (by omega)).trans m1) fun f h=>e9 ab 1 h rfl fun f h=>iU h rfl (al (bZ ab 1 h rfl fun f h=>eA 3 h s Tryz.underlying104 rfl rfl rfl fun f h=>fm ab h rfl ((decide_eq_decide.2 (by omega)).trans m0) fun f h=>wy h rfl (rs ab 1 h rfl fun f h=>ae h (gX wG rfl rfl) rfl fun f h=>bn (vs:=[.agg (cu 3 0 aI 0 ByteArray.empty aW 6)]) [.tmp 71] h s Tryz.underlying104 fJ rfl rfl (n4 (dU 6,aI)) rfl rfl rfl fun f w1 v72 h s=>cq 4 0 h s Tryz.underlying104 fJ rfl rfl rfl rfl (by decide) (by exact eE _ _ _ _ _ _ (rfl)) (by unfold maxLen;omega) (by omega) rfl fun f w1 v73 h s=>?_))))))
      replace s:=s.pick _ (List.sublist_cons_self _ _)
      replace s:=s.resl (m:=(K++[(dU 6,aI)]).length) (ys:=cb (K++[(dU 6,aI)])) 3 rfl (oI K (dU 6,aI)) (by exact kG K (dU 6,aI))
      refine e9 ab 1 h rfl fun f h=>bH ab 2 h rfl fun f h=>wpIn_ret (aH rfl h s rfl (⟨K++[(dU 6,aI)],kg,by rw [mg h0 h2 (by rw [← hM,← hKl];exact m0) m1];exact DN (of_decide_eq_true m0) (dU 6,aI),((s.sel [0,3] rfl (by decide)).weak (S':=fun w9=>dM w9 vs p.1→kM (K++[(dU 6,aI)]) w9) fun w9 h9 h8=>ni (x:=dU 6) (u:=aI) (h9 h8) (fk w9)).sel [1,0] rfl (by decide)⟩))
     ·refine aF ?_
      obtain rfl:k=M.length:=by omega
      rw [List.take_length] at hp1
      have hKl:K.length=M.length:=by rw [← fi,hp1,List.length_map]
      refine am ab 1 h rfl fun f h=>eA 3 h s Tryz.underlying104 rfl rfl rfl fun f h=>fm ab h rfl ((decide_eq_decide.2 (by omega)).trans m0) fun f h=>am ab 2 h rfl fun f h=>bf h rfl (ag (V:=vs) (ac (aG.of_own s 4 rfl) 0 (rK _ _ _)) h cG rfl rfl fun f h=>bf h rfl (dN h (hP.keep s.ext) Tryz.underlying29 rfl rfl fun f h=>bf h rfl (fm ab h rfl ((decide_eq_decide.2 (by omega)).trans m1) fun f h=>e9 ab 1 h rfl fun f h=>cy h rfl (rs ab 1 h rfl fun f h=>ak 4 h s fc rfl rfl (cf _ _ _) rfl fun f h=>ae h (cK jM) rfl fun f h=>bq h s HY (yX p vs aW [] aI _ (hP.keep s.ext) hpl h1 hh9 (fk _) (by simp)) rfl rfl ?_))));rintro f w1 v64 ⟨vn,rfl,hOw⟩ hE h sq;have hu1:=bs (bI.of_own hOw);replace s:=s.sl_new hE hOw;clear hOw
      refine bn (vs:=[.agg (cu 2 0 vn (p.2.1 - 1) p.2.2 aW 0)]) [.tmp 64] h s Tryz.underlying104 fJ rfl rfl (n4 (sJ p aW [],vn)) rfl rfl rfl fun f w1 v65 h s=>cq 5 0 h s Tryz.underlying104 fJ rfl rfl rfl rfl (by decide) (by exact eE _ _ _ _ _ _ (hu1)) (by unfold maxLen;omega) (by omega) rfl fun f w1 v66 h s=>?_
      replace s:=s.pick _ (List.sublist_cons_self _ _)
      replace s:=s.resl (m:=(K++[(sJ p aW [],vn)]).length) (ys:=cb (K++[(sJ p aW [],vn)])) 4 rfl (oI K (sJ p aW [],vn)) (by exact kG K (sJ p aW [],vn))
      refine e9 ab 1 h rfl fun f h=>al (qr ?_)
      replace s:=s.sel [0,1,2,3,4,5] rfl (by decide)
      obtain ⟨kn,s⟩:=s.grp1 (S':=fun w9=>dM w9 vs p.1→kM (K++[(sJ p aW [],vn)]) w9) (fun w9 h1 h2 h3=>ni (h2 h3) h1)
      refine am ab 1 h rfl fun f h=>eA 3 h s Tryz.underlying104 rfl rfl rfl fun f h=>gE ab h rfl (decide_eq_false (by rw [List.length_append];simp;omega)) fun f h=>rH h rfl (bH ab 2 h rfl fun f h=>wpIn_ret (aH rfl h s rfl (⟨K++[(sJ p aW [],vn)],kn,by rw [kH h0 h2 (by rw [← hM,← hKl];exact m0) m1];exact DN (of_decide_eq_true m0) (sJ p aW [],vn),s.sel [3,0] rfl (by decide)⟩)))
end Go.Proofs.YtobfeflheaobiaaGreatDoor
