/- What Tend and Round of package chord answer. -/
import Derived.Test.YthggibfkgofncaaGreatWf
set_option linter.unusedVariables false
set_option linter.unusedSimpArgs false
set_option linter.unusedSectionVars false
namespace Go.Proofs.YthggibfkgofncaaGreat
open Go.RowKit
theorem uQ (L:List N3) (vo:Value) (no:Int) (w:World) (hO:dN w vo L) (hL:L.length≤40) (hb:RwB L):Calls Tryz.prog 24 [.agg #[vo],.int .i64 no].toArray w (cU w (Av w (DR vo L) (Cw L no) (cE L no))):=by
 refine bp Tryz.func24 rfl Tryz.ntmps24 rfl [(0,.agg #[vo]),(1,.int .i64 no)] (by simp) fun f h=>?_
 have s:=St.start w
 refine al fun K1 hK1=>?_
 refine ae ?_
 refine bV (#[vo]) h s rfl rfl rfl ?_;intro f w1 b2 h s
 refine bj (#[a8]) h s eY rfl rfl ?_;intro f w1 b4 h s
 refine ac h (aj (h.ev rfl)) rfl ?_;intro f h
 refine ah ?_
 refine hK1 _ _ ?_
 refine al fun K2 hK2=>?_
 cases r0:(gm L:Bool)
 ·skip
  refine ae ?_
  refine ar 1 h s a6 rfl rfl (rfl) rfl ?_;intro f h
  refine ac h (ag (h.ev rfl)) rfl ?_;intro f h
  refine aH h s wZ (jy L vo no _ (hO.keep s.ext) hL hb) rfl rfl ?_;intro f w1 v11 hop hE h sq
  obtain rfl:=hop.n (kR r0) (by decide)
  replace s:=sq
  refine ac h (ag (h.ev rfl)) rfl ?_;intro f h
  refine ac h (bK (h.ev rfl) rfl) rfl ?_;intro f h
  refine ac h (bK (h.ev rfl) rfl) rfl ?_;intro f h
  refine ac h (bK (h.ev rfl) rfl) rfl ?_;intro f h
  refine ax 1 h s a6 rfl rfl rfl (rfl) (rfl) (cn (rfl)) ?_;intro w1 s
  refine ac h (aj (h.ev rfl)) rfl ?_;intro f h
  refine ac h (aj (h.ev rfl)) rfl ?_;intro f h
  refine ah ?_
  refine hK2 _ _ ?_
  refine al fun K3 hK3=>?_
  refine al fun K4 hK4=>?_
  refine ae ?_
  refine ac h (ag (h.ev rfl)) rfl ?_;intro f h
  refine ac h (av (.bool true) (c3 (h.ev rfl) (h.ev rfl)) (by rfl)) rfl ?_;intro f h
  refine ah ?_
  refine hK4 _ _ ?_
  refine wpIn_cond_true (h.ev rfl) ?_
  refine al fun K5 hK5=>?_
  refine ae ?_
  refine ac h (cG jK) rfl ?_;intro f h
  refine ac h (ag (h.ev rfl)) rfl ?_;intro f h
  refine ax 0 h s a6 rfl rfl rfl (rfl) (rfl) (cn (rfl)) ?_;intro w1 s
  refine ac h (aj (h.ev rfl)) rfl ?_;intro f h
  refine ah ?_
  refine hK5 _ _ ?_
  refine wpIn_ret ?_
  refine aW ?_
  exact ct 0 rfl h s a6 rfl rfl (rfl) rfl (iC s (qX (kR r0) (by decide)) (kR r0))
 ·skip
  cases l0:(ce (aM L) no:Bool)
  ·skip
   refine ae ?_
   refine ar 1 h s a6 rfl rfl (rfl) rfl ?_;intro f h
   refine ac h (ag (h.ev rfl)) rfl ?_;intro f h
   refine aH h s wZ (jy L vo no _ (hO.keep s.ext) hL hb) rfl rfl ?_;intro f w1 v11 hop hE h sq
   obtain rfl:=hop.n (iX r0 l0) (by decide)
   replace s:=sq
   refine ac h (ag (h.ev rfl)) rfl ?_;intro f h
   refine ac h (bK (h.ev rfl) rfl) rfl ?_;intro f h
   refine ac h (bK (h.ev rfl) rfl) rfl ?_;intro f h
   refine ac h (bK (h.ev rfl) rfl) rfl ?_;intro f h
   refine ax 1 h s a6 rfl rfl rfl (rfl) (rfl) (cn (rfl)) ?_;intro w1 s
   refine ac h (aj (h.ev rfl)) rfl ?_;intro f h
   refine ac h (aj (h.ev rfl)) rfl ?_;intro f h
   refine ah ?_
   refine hK2 _ _ ?_
   refine al fun K6 hK6=>?_
   refine al fun K7 hK7=>?_
   refine ae ?_
   refine ac h (ag (h.ev rfl)) rfl ?_;intro f h
   refine ac h (av (.bool true) (c3 (h.ev rfl) (h.ev rfl)) (by rfl)) rfl ?_;intro f h
   refine ah ?_
   refine hK7 _ _ ?_
   refine wpIn_cond_true (h.ev rfl) ?_
   refine al fun K8 hK8=>?_
   refine ae ?_
   refine ac h (cG jK) rfl ?_;intro f h
   refine ac h (ag (h.ev rfl)) rfl ?_;intro f h
   refine ax 0 h s a6 rfl rfl rfl (rfl) (rfl) (cn (rfl)) ?_;intro w1 s
   refine ac h (aj (h.ev rfl)) rfl ?_;intro f h
   refine ah ?_
   refine hK8 _ _ ?_
   refine wpIn_ret ?_
   refine aW ?_
   exact ct 0 rfl h s a6 rfl rfl (rfl) rfl (iC s (qX (iX r0 l0) (by decide)) (iX r0 l0))
  ·skip
   refine ae ?_
   refine ar 1 h s a6 rfl rfl (rfl) rfl ?_;intro f h
   refine ac h (ag (h.ev rfl)) rfl ?_;intro f h
   refine aH h s wZ (jy L vo no _ (hO.keep s.ext) hL hb) rfl rfl ?_;intro f w1 v11 hop hE h sq
   obtain ⟨vq,K,ks,rfl,hnk,hS⟩:=hop.y (nP r0 l0)
   replace s:=s.add hS
   clear hS hop
   have hlk:=tT hnk
   have hrs:=(eT r0).rs
   have hio:eb L no<L.length:=of_decide_eq_true ((eX hrs.nos).trans l0)
   have hRSK:=hrs.nds hnk
   refine ac h (ag (h.ev rfl)) rfl ?_;intro f h
   refine ac h (bK (h.ev rfl) rfl) rfl ?_;intro f h
   refine ac h (bK (h.ev rfl) rfl) rfl ?_;intro f h
   refine ac h (bK (h.ev rfl) rfl) rfl ?_;intro f h
   refine ax 3 h s a6 rfl rfl rfl (rfl) (rfl) (cn (aX (s.getSl 0 rfl))) ?_;intro w1 s
   refine ac h (aj (h.ev rfl)) rfl ?_;intro f h
   refine ac h (aj (h.ev rfl)) rfl ?_;intro f h
   refine ah ?_
   refine hK2 _ _ ?_
   refine al fun K9 hK9=>?_
   refine al fun K10 hK10=>?_
   refine ae ?_
   refine ac h (ag (h.ev rfl)) rfl ?_;intro f h
   refine ac h (av (.bool false) (c3 (h.ev rfl) (h.ev rfl)) (by rfl)) rfl ?_;intro f h
   refine ah ?_
   refine hK10 _ _ ?_
   refine wpIn_cond_false (h.ev rfl) ?_
   refine wpIn_skip ?_
   refine hK9 _ _ ?_
   refine al fun K11 hK11=>?_
   refine ae ?_
   refine ar 3 h s a6 rfl rfl (rfl) rfl ?_;intro f h
   refine ac h (ag (h.ev rfl)) rfl ?_;intro f h
   replace s:=s.bring 1 rfl
   replace s:=s.bring 1 rfl
   replace s:St w [.sl vq 42 68 K.length (aD K),(.grp ks (cS K)),.blk b4 (.cells (#[a8]) 24),.blk b2 (.cells (#[vq]) 24)] _:=s
   refine dq [.agg #[vq],.pointer (some (aN vq ((eb L no)*68)))] h AR (m8 K ks vq (eb L no) _ _ _ s (by omega) hRSK) rfl rfl ?_;rintro f w1 r ⟨K9,kn,hn9,s⟩ h
   refine ah ?_
   refine hK11 _ _ ?_
   refine al fun K12 hK12=>?_
   refine ae ?_
   refine ar 3 h s a6 rfl rfl (rfl) rfl ?_;intro f h
   refine ax 2 h s a6 rfl rfl rfl (rfl) (rfl) (cn (aX (s.getSl 0 rfl))) ?_;intro w1 s
   refine ac h (aj (h.ev rfl)) rfl ?_;intro f h
   refine ah ?_
   refine hK12 _ _ ?_
   refine wpIn_ret ?_
   exact ct 2 rfl h s a6 rfl rfl (rfl) rfl (m7 (nP r0 l0) (p8 (by rw [wl (nP r0 l0),hn9,DP hnk hio,hnk]) (s.sel [0,1] rfl (by decide))))
theorem r8 (L:List N3) (vo:Value) (w:World) (hO:dN w vo L) (hL:L.length≤40) (hb:RwB L):Calls Tryz.prog 25 [.agg #[vo]].toArray w (cU w (Av w (DR vo L) (Cs L) (BS L))):=by
 refine ep Tryz.func25 rfl Tryz.ntmps25 rfl [(0,.agg #[vo])] (by simp) fun f h=>?_
 have s:=St.start w
 refine al fun K1 hK1=>?_
 refine ae ?_
 refine bV (#[vo]) h s rfl rfl rfl ?_;intro f w1 b1 h s
 refine bj (#[a8]) h s eY rfl rfl ?_;intro f w1 b2 h s
 refine ac h (aj (h.ev rfl)) rfl ?_;intro f h
 refine ah ?_
 refine hK1 _ _ ?_
 refine al fun K2 hK2=>?_
 refine al fun K3 hK3=>?_
 cases r0:(gm L:Bool)
 ·skip
  refine ae ?_
  refine ar 1 h s a6 rfl rfl (rfl) rfl ?_;intro f h
  refine aH h s jV (aO (.bool false) (d4 L vo _ (hO.keep s.ext) hL hb) (congrArg Value.bool r0)) rfl rfl ?_;intro f w1 v9 hT hE h s;obtain rfl:=hT
  refine ac h (av (.bool true) (bh (h.ev rfl)) rfl) rfl ?_;intro f h
  refine ah ?_
  refine hK3 _ _ ?_
  refine wpIn_cond_true (h.ev rfl) ?_
  refine al fun K4 hK4=>?_
  refine ae ?_
  refine ac h (cG jK) rfl ?_;intro f h
  refine ax 0 h s a6 rfl rfl rfl (rfl) (rfl) (cn (rfl)) ?_;intro w1 s
  refine ac h (aj (h.ev rfl)) rfl ?_;intro f h
  refine ah ?_
  refine hK4 _ _ ?_
  refine wpIn_ret ?_
  refine aW ?_
  exact gk 0 rfl h s a6 rfl rfl rfl (rfl) (iC s (qU r0).2 (qU r0).1)
 ·skip
  refine ae ?_
  refine ar 1 h s a6 rfl rfl (rfl) rfl ?_;intro f h
  refine aH h s jV (aO (.bool true) (d4 L vo _ (hO.keep s.ext) hL hb) (congrArg Value.bool r0)) rfl rfl ?_;intro f w1 v9 hT hE h s;obtain rfl:=hT
  refine ac h (av (.bool false) (bh (h.ev rfl)) rfl) rfl ?_;intro f h
  refine ah ?_
  refine hK3 _ _ ?_
  refine wpIn_cond_false (h.ev rfl) ?_
  refine wpIn_skip ?_
  refine hK2 _ _ ?_
  refine al fun K5 hK5=>?_
  refine ae ?_
  refine ar 1 h s a6 rfl rfl (rfl) rfl ?_;intro f h
  refine aH h s tM (f8 L vo _ (hO.keep s.ext) hL hb) rfl rfl ?_;rintro f w1 v10 ⟨vq,K,ks,rfl,hnk,hS⟩ hE h sq;replace s:=s.add hS;clear hS
  have hlk:K.length=L.length:=by have h9:=congrArg List.length hnk;simpa [nds] using h9
  refine ax 3 h s a6 rfl rfl rfl (rfl) (rfl) (cn (aX (s.getSl 0 rfl))) ?_;intro w1 s
  refine ah ?_
  refine hK5 _ _ ?_
  refine al fun K6 hK6=>?_
  refine al fun K7 hK7=>?_
  refine ae ?_
  have hrs:=(eT r0).rs
  refine ar 3 h s a6 rfl rfl (rfl) rfl ?_;intro f h
  refine dq [.agg #[vq]] h lA (fy vq _ _ _ s) rfl rfl ?_;rintro f w1 r ⟨bn,rfl,s⟩ h
  refine ah ?_
  refine hK7 _ _ ?_
  refine wpIn_block ?_
  refine ed (fun d A9=>∃ (Kd:List N3) (kd:List Nat),(nds Kd=lK (nds L) d∧RS Kd∧aM Kd=aM L)∧A9=[.sl vq 42 68 Kd.length (aD Kd),.grp kd (cS Kd),.blk b2 (.cells (#[a8]) 24),.blk b1 (.cells #[vq] 24)]) [.sl vq 42 68 K.length (aD K),.grp ks (cS K),.blk b2 (.cells (#[a8]) 24),.blk b1 (.cells #[vq] 24)] [.blk bn (.cells #[vq] 24)] (L.length) (fun _=>false) (fun d=>[Value.pointer (some (aN vq (d*68)))]) h s rfl lm (List.Perm.refl _) (⟨K,ks,⟨hnk,hrs.nds hnk,BW hnk⟩,rfl⟩) (fun _=>rfl) ?_ ?_ ?_ ?_
  ·intro lp w2 GG g0 hg0 s2 hY;exact eR L.length (by omega) vq _ _ (by rw [← hlk];exact bq.of_own (s.getSl 1 rfl)) lp bn (fun _=>false) GG g0 w w2 s2 hg0 hY
  ·intro lp D9 d9 rc R9 A9 w2 hd9 hq9 hJ9 s
   obtain ⟨Kd,kd,⟨hkn,hkr,hkm⟩,rfl⟩:=hJ9
   have h:=Sl.round1 (p:=13) (V:=.pointer (some (aN vq (d9*68)))) h rfl
   have hdl9:=hd9
   have hdk:d9<Kd.length:=by have h9:=congrArg List.length hkm;simp only [List.length_map] at h9;omega
   refine ae ?_
   refine ac h (aj (h.ev rfl)) rfl ?_;intro f h
   refine ah ?_
   refine bQ ?_
   refine ⟨_,s,fun w3 s=>?_⟩
   refine wpIn_block ?_
   refine ae ?_
   refine ar 5 h s a6 rfl rfl (rfl) rfl ?_;intro f h
   refine ac h (ag (h.ev rfl)) rfl ?_;intro f h
   replace s:=s.bring 3 rfl
   replace s:=s.bring 3 rfl
   replace s:St w (.sl vq 42 68 Kd.length (aD Kd)::(.grp kd (cS Kd))::.blk lp (.loop (rc .busy))::.blk D9 (.deferred (some []))::.blk b2 (.cells (#[a8]) 24)::.blk b1 (.cells (#[vq]) 24)::R9) _:=s
   refine dq [.agg #[vq],.pointer (some (aN vq (d9*68)))] h AR (m8 Kd kd vq d9 _ _ _ s hdk hkr) rfl rfl ?_;rintro f w1 r ⟨K9,kn,hn9,s⟩ h
   refine ah ?_
   refine bF ?_
   have hme:(Kd.getD d9 z3).1.me=(aM L).getD d9 aT:=by rw [← hkm];exact(fV hdk).symm
   have hq9:=pd hkr (qp hkr hdk) hn9
   have hn8:nds K9=lK (nds L) (d9+1):=by rw [kN (by rw [List.length_map];exact hdl9),hn9,hkn,hme]
   replace s:=s.bring 1 rfl
   replace s:=s.bring 1 rfl
   replace s:=s.bring 3 rfl
   replace s:=s.bring 3 rfl
   replace s:St w (.blk lp (.loop (rc .busy))::.blk D9 (.deferred (some []))::.sl vq 42 68 K9.length (aD K9)::(.grp kn (cS K9))::.blk b2 (.cells (#[a8]) 24)::.blk b1 (.cells (#[vq]) 24)::R9) _:=s
   refine ⟨rfl,_,⟨K9,kn,⟨hn8,hq9.1,hq9.2.trans hkm⟩,rfl⟩,s.pick _ ?_⟩
   exact List.Sublist.cons_cons _ (List.Sublist.refl _)
  ·intro D9 A9 w2 hJ9 hq9 s
   obtain ⟨Kd,kd,⟨hkn,hkr,hkm⟩,rfl⟩:=hJ9
   replace h:Sl _ {f with defers:={target:=.collected D9,args:=#[]}::f.defers} _ [{target:=.collected D9,args:=#[]}]:=⟨h.size,by rw [h.defers],h.holds⟩
   refine bF ?_
   refine hK6 _ _ ?_
   refine al fun K8 hK8=>?_
   refine ae ?_
   refine ar 5 h s a6 rfl rfl (rfl) rfl ?_;intro f h
   refine ax 4 h s a6 rfl rfl rfl (rfl) (rfl) (cn (aX (s.getSl 2 rfl))) ?_;intro w1 s
   refine ac h (aj (h.ev rfl)) rfl ?_;intro f h
   refine ah ?_
   refine hK8 _ _ ?_
   refine wpIn_ret ?_
   exact kp 4 0 rfl h s a6 rfl rfl rfl rfl (rfl) (fun w9 s9=>m7 (qM r0).1 (p8 (by rw [(qM r0).2,hkn,mG (by rw [List.length_map])]) (s9.sel [2,3] rfl (by decide))))
  ·intro D9 d9 A9 w2 hd9 hqd9 hq9 hJ9 s
   cases hqd9
end Go.Proofs.YthggibfkgofncaaGreat
