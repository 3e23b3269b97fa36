/- What Tend and Round of package chord answer. -/
import Derived.Test.YthggibfkgofncaaGreatWf
set_option linter.unusedVariables false
set_option linter.unusedSimpArgs false
set_option linter.unusedSectionVars false
namespace Go.Proofs.YthggibfkgofncaaGreat
open Go.RowKit
theorem tj (L:List N3) (vo:Value) (no:Int) (w:World) (hO:cI w vo L) (hL:L.length≤40) (hb:RwB L):Calls Tryz.prog 24 [.agg #[vo],.int .i64 no].toArray w (cO w (xH w (fU vo L) (CA L no) (cE L no))):=by
 refine bh Tryz.func24 rfl Tryz.ntmps24 rfl [(0,.agg #[vo]),(1,.int .i64 no)] (by simp) fun f h=>?_
 have s:=St.start w
 refine ak fun K1 hK1=>?_
 refine ag ?_
 refine bR (#[vo]) h s rfl rfl rfl ?_;intro f w1 b2 h s
 refine bi (#[aU]) h s d6 rfl rfl ?_;intro f w1 b4 h s
 refine ac h (aj (h.ev rfl)) rfl ?_;intro f h
 refine ai ?_
 refine hK1 _ _ ?_
 refine ak fun K2 hK2=>?_
 cases r0:(fH L:Bool)
 ·skip
  refine ag ?_
  refine ay 1 h s a7 rfl rfl (rfl) rfl ?_;intro f h
  refine ac h (ah (h.ev rfl)) rfl ?_;intro f h
  refine aK h s mF (eJ L vo no _ (hO.keep s.ext) hL hb) rfl rfl ?_;intro f w1 v11 hop hE h sq
  obtain rfl:=hop.n (j1 r0) (by decide)
  replace s:=sq
  refine ac h (ah (h.ev rfl)) rfl ?_;intro f h
  refine ac h (aW (h.ev rfl) rfl) rfl ?_;intro f h
  refine ac h (aW (h.ev rfl) rfl) rfl ?_;intro f h
  refine ac h (aW (h.ev rfl) rfl) rfl ?_;intro f h
  refine aA 1 h s a7 rfl rfl rfl (rfl) (rfl) (bY (rfl)) ?_;intro w1 s
  refine ac h (aj (h.ev rfl)) rfl ?_;intro f h
  refine ac h (aj (h.ev rfl)) rfl ?_;intro f h
  refine ai ?_
  refine hK2 _ _ ?_
  refine ak fun K3 hK3=>?_
  refine ak fun K4 hK4=>?_
  refine ag ?_
  refine ac h (ah (h.ev rfl)) rfl ?_;intro f h
  refine ac h (aE (.bool true) (cJ (h.ev rfl) (h.ev rfl)) (by rfl)) rfl ?_;intro f h
  refine ai ?_
  refine hK4 _ _ ?_
  refine wpIn_cond_true (h.ev rfl) ?_
  refine ak fun K5 hK5=>?_
  refine ag ?_
  refine ac h (cw jB) rfl ?_;intro f h
  refine ac h (ah (h.ev rfl)) rfl ?_;intro f h
  refine aA 0 h s a7 rfl rfl rfl (rfl) (rfl) (bY (rfl)) ?_;intro w1 s
  refine ac h (aj (h.ev rfl)) rfl ?_;intro f h
  refine ai ?_
  refine hK5 _ _ ?_
  refine wpIn_ret ?_
  refine a8 ?_
  exact bS 0 rfl h s a7 rfl rfl (rfl) rfl (gX s (zn (j1 r0) (by decide)) (j1 r0))
 ·skip
  cases l0:(bP (ae L) no:Bool)
  ·skip
   refine ag ?_
   refine ay 1 h s a7 rfl rfl (rfl) rfl ?_;intro f h
   refine ac h (ah (h.ev rfl)) rfl ?_;intro f h
   refine aK h s mF (eJ L vo no _ (hO.keep s.ext) hL hb) rfl rfl ?_;intro f w1 v11 hop hE h sq
   obtain rfl:=hop.n (ic r0 l0) (by decide)
   replace s:=sq
   refine ac h (ah (h.ev rfl)) rfl ?_;intro f h
   refine ac h (aW (h.ev rfl) rfl) rfl ?_;intro f h
   refine ac h (aW (h.ev rfl) rfl) rfl ?_;intro f h
   refine ac h (aW (h.ev rfl) rfl) rfl ?_;intro f h
   refine aA 1 h s a7 rfl rfl rfl (rfl) (rfl) (bY (rfl)) ?_;intro w1 s
   refine ac h (aj (h.ev rfl)) rfl ?_;intro f h
   refine ac h (aj (h.ev rfl)) rfl ?_;intro f h
   refine ai ?_
   refine hK2 _ _ ?_
   refine ak fun K6 hK6=>?_
   refine ak fun K7 hK7=>?_
   refine ag ?_
   refine ac h (ah (h.ev rfl)) rfl ?_;intro f h
   refine ac h (aE (.bool true) (cJ (h.ev rfl) (h.ev rfl)) (by rfl)) rfl ?_;intro f h
   refine ai ?_
   refine hK7 _ _ ?_
   refine wpIn_cond_true (h.ev rfl) ?_
   refine ak fun K8 hK8=>?_
   refine ag ?_
   refine ac h (cw jB) rfl ?_;intro f h
   refine ac h (ah (h.ev rfl)) rfl ?_;intro f h
   refine aA 0 h s a7 rfl rfl rfl (rfl) (rfl) (bY (rfl)) ?_;intro w1 s
   refine ac h (aj (h.ev rfl)) rfl ?_;intro f h
   refine ai ?_
   refine hK8 _ _ ?_
   refine wpIn_ret ?_
   refine a8 ?_
   exact bS 0 rfl h s a7 rfl rfl (rfl) rfl (gX s (zn (ic r0 l0) (by decide)) (ic r0 l0))
  ·skip
   refine ag ?_
   refine ay 1 h s a7 rfl rfl (rfl) rfl ?_;intro f h
   refine ac h (ah (h.ev rfl)) rfl ?_;intro f h
   refine aK h s mF (eJ L vo no _ (hO.keep s.ext) hL hb) rfl rfl ?_;intro f w1 v11 hop hE h sq
   obtain ⟨vq,K,ks,rfl,hnk,hS⟩:=hop.y (kA r0 l0)
   replace s:=s.add hS
   clear hS hop
   have hlk:=nS hnk
   have hrs:=(ef r0).rs
   have hio:az L no<L.length:=of_decide_eq_true ((eb hrs.nos).trans l0)
   have hRSK:=hrs.nds hnk
   refine ac h (ah (h.ev rfl)) rfl ?_;intro f h
   refine ac h (aW (h.ev rfl) rfl) rfl ?_;intro f h
   refine ac h (aW (h.ev rfl) rfl) rfl ?_;intro f h
   refine ac h (aW (h.ev rfl) rfl) rfl ?_;intro f h
   refine aA 3 h s a7 rfl rfl rfl (rfl) (rfl) (bY (bo (s.getSl 0 rfl))) ?_;intro w1 s
   refine ac h (aj (h.ev rfl)) rfl ?_;intro f h
   refine ac h (aj (h.ev rfl)) rfl ?_;intro f h
   refine ai ?_
   refine hK2 _ _ ?_
   refine ak fun K9 hK9=>?_
   refine ak fun K10 hK10=>?_
   refine ag ?_
   refine ac h (ah (h.ev rfl)) rfl ?_;intro f h
   refine ac h (aE (.bool false) (cJ (h.ev rfl) (h.ev rfl)) (by rfl)) rfl ?_;intro f h
   refine ai ?_
   refine hK10 _ _ ?_
   refine wpIn_cond_false (h.ev rfl) ?_
   refine wpIn_skip ?_
   refine hK9 _ _ ?_
   refine ak fun K11 hK11=>?_
   refine ag ?_
   refine ay 3 h s a7 rfl rfl (rfl) rfl ?_;intro f h
   refine ac h (ah (h.ev rfl)) rfl ?_;intro f h
   replace s:=s.bring 1 rfl
   replace s:=s.bring 1 rfl
   replace s:St w [.sl vq 42 68 K.length (aD K),(.grp ks (cD K)),.blk b4 (.cells (#[aU]) 24),.blk b2 (.cells (#[vq]) 24)] _:=s
   refine cV [.agg #[vq],.pointer (some (aF vq ((az L no)*68)))] h zd (l7 K ks vq (az L no) _ _ _ s (by omega) hRSK) rfl rfl ?_;rintro f w1 r ⟨K9,kn,hn9,s⟩ h
   refine ai ?_
   refine hK11 _ _ ?_
   refine ak fun K12 hK12=>?_
   refine ag ?_
   refine ay 3 h s a7 rfl rfl (rfl) rfl ?_;intro f h
   refine aA 2 h s a7 rfl rfl rfl (rfl) (rfl) (bY (bo (s.getSl 0 rfl))) ?_;intro w1 s
   refine ac h (aj (h.ev rfl)) rfl ?_;intro f h
   refine ai ?_
   refine hK12 _ _ ?_
   refine wpIn_ret ?_
   exact bS 2 rfl h s a7 rfl rfl (rfl) rfl (lu (kA r0 l0) (oH (by rw [zk (kA r0 l0),hn9,CL hnk hio,hnk]) (s.sel [0,1] rfl (by decide))))
theorem qw (L:List N3) (vo:Value) (w:World) (hO:cI w vo L) (hL:L.length≤40) (hb:RwB L):Calls Tryz.prog 25 [.agg #[vo]].toArray w (cO w (xH w (fU vo L) (Bq L) (Cq L))):=by
 refine dZ Tryz.func25 rfl Tryz.ntmps25 rfl [(0,.agg #[vo])] (by simp) fun f h=>?_
 have s:=St.start w
 refine ak fun K1 hK1=>?_
 refine ag ?_
 refine bR (#[vo]) h s rfl rfl rfl ?_;intro f w1 b1 h s
 refine bi (#[aU]) h s d6 rfl rfl ?_;intro f w1 b2 h s
 refine ac h (aj (h.ev rfl)) rfl ?_;intro f h
 refine ai ?_
 refine hK1 _ _ ?_
 refine ak fun K2 hK2=>?_
 refine ak fun K3 hK3=>?_
 cases r0:(fH L:Bool)
 ·skip
  refine ag ?_
  refine ay 1 h s a7 rfl rfl (rfl) rfl ?_;intro f h
  refine aK h s iE (aT (.bool false) (dn L vo _ (hO.keep s.ext) hL hb) (congrArg Value.bool r0)) rfl rfl ?_;intro f w1 v9 hT hE h s;obtain rfl:=hT
  refine ac h (aE (.bool true) (bI (h.ev rfl)) rfl) rfl ?_;intro f h
  refine ai ?_
  refine hK3 _ _ ?_
  refine wpIn_cond_true (h.ev rfl) ?_
  refine ak fun K4 hK4=>?_
  refine ag ?_
  refine ac h (cw jB) rfl ?_;intro f h
  refine aA 0 h s a7 rfl rfl rfl (rfl) (rfl) (bY (rfl)) ?_;intro w1 s
  refine ac h (aj (h.ev rfl)) rfl ?_;intro f h
  refine ai ?_
  refine hK4 _ _ ?_
  refine wpIn_ret ?_
  refine a8 ?_
  exact fN 0 rfl h s a7 rfl rfl rfl (rfl) (gX s (rj r0).2 (rj r0).1)
 ·skip
  refine ag ?_
  refine ay 1 h s a7 rfl rfl (rfl) rfl ?_;intro f h
  refine aK h s iE (aT (.bool true) (dn L vo _ (hO.keep s.ext) hL hb) (congrArg Value.bool r0)) rfl rfl ?_;intro f w1 v9 hT hE h s;obtain rfl:=hT
  refine ac h (aE (.bool false) (bI (h.ev rfl)) rfl) rfl ?_;intro f h
  refine ai ?_
  refine hK3 _ _ ?_
  refine wpIn_cond_false (h.ev rfl) ?_
  refine wpIn_skip ?_
  refine hK2 _ _ ?_
  refine ak fun K5 hK5=>?_
  refine ag ?_
  refine ay 1 h s a7 rfl rfl (rfl) rfl ?_;intro f h
  refine aK h s ra (fC L vo _ (hO.keep s.ext) hL hb) rfl rfl ?_;rintro f w1 v10 ⟨vq,K,ks,rfl,hnk,hS⟩ hE h sq;replace s:=s.add hS;clear hS
  have hlk:K.length=L.length:=by have h9:=congrArg List.length hnk;simpa [nds] using h9
  refine aA 3 h s a7 rfl rfl rfl (rfl) (rfl) (bY (bo (s.getSl 0 rfl))) ?_;intro w1 s
  refine ai ?_
  refine hK5 _ _ ?_
  refine ak fun K6 hK6=>?_
  refine ak fun K7 hK7=>?_
  refine ag ?_
  have hrs:=(ef r0).rs
  refine ay 3 h s a7 rfl rfl (rfl) rfl ?_;intro f h
  refine cV [.agg #[vq]] h ko (eV vq _ _ _ s) rfl rfl ?_;rintro f w1 r ⟨bn,rfl,s⟩ h
  refine ai ?_
  refine hK7 _ _ ?_
  refine wpIn_block ?_
  refine dJ (fun d A9=>∃ (Kd:List N3) (kd:List Nat),(nds Kd=kM (nds L) d∧RS Kd∧ae Kd=ae L)∧A9=[.sl vq 42 68 Kd.length (aD Kd),.grp kd (cD Kd),.blk b2 (.cells (#[aU]) 24),.blk b1 (.cells #[vq] 24)]) [.sl vq 42 68 K.length (aD K),.grp ks (cD K),.blk b2 (.cells (#[aU]) 24),.blk b1 (.cells #[vq] 24)] [.blk bn (.cells #[vq] 24)] (L.length) (fun _=>false) (fun d=>[Value.pointer (some (aF vq (d*68)))]) h s rfl kv (List.Perm.refl _) (⟨K,ks,⟨hnk,hrs.nds hnk,zY hnk⟩,rfl⟩) (fun _=>rfl) ?_ ?_ ?_ ?_
  ·intro lp w2 GG g0 hg0 s2 hY;exact ep L.length (by omega) vq _ _ (by rw [← hlk];exact bO.of_own (s.getSl 1 rfl)) lp bn (fun _=>false) GG g0 w w2 s2 hg0 hY
  ·intro lp D9 d9 rc R9 A9 w2 hd9 hq9 hJ9 s
   obtain ⟨Kd,kd,⟨hkn,hkr,hkm⟩,rfl⟩:=hJ9
   have h:=Sl.round1 (p:=13) (V:=.pointer (some (aF vq (d9*68)))) h rfl
   have hdl9:=hd9
   have hdk:d9<Kd.length:=by have h9:=congrArg List.length hkm;simp only [List.length_map] at h9;omega
   refine ag ?_
   refine ac h (aj (h.ev rfl)) rfl ?_;intro f h
   refine ai ?_
   refine ca ?_
   refine ⟨_,s,fun w3 s=>?_⟩
   refine wpIn_block ?_
   refine ag ?_
   refine ay 5 h s a7 rfl rfl (rfl) rfl ?_;intro f h
   refine ac h (ah (h.ev rfl)) rfl ?_;intro f h
   replace s:=s.bring 3 rfl
   replace s:=s.bring 3 rfl
   replace s:St w (.sl vq 42 68 Kd.length (aD Kd)::(.grp kd (cD Kd))::.blk lp (.loop (rc .busy))::.blk D9 (.deferred (some []))::.blk b2 (.cells (#[aU]) 24)::.blk b1 (.cells (#[vq]) 24)::R9) _:=s
   refine cV [.agg #[vq],.pointer (some (aF vq (d9*68)))] h zd (l7 Kd kd vq d9 _ _ _ s hdk hkr) rfl rfl ?_;rintro f w1 r ⟨K9,kn,hn9,s⟩ h
   refine ai ?_
   refine bH ?_
   have hme:(Kd.getD d9 z3).1.me=(ae L).getD d9 ap:=by rw [← hkm];exact(ft hdk).symm
   have hq9:=nW hkr (pG hkr hdk) hn9
   have hn8:nds K9=kM (nds L) (d9+1):=by rw [jL (by rw [List.length_map];exact hdl9),hn9,hkn,hme]
   replace s:=s.bring 1 rfl
   replace s:=s.bring 1 rfl
   replace s:=s.bring 3 rfl
   replace s:=s.bring 3 rfl
   replace s:St w (.blk lp (.loop (rc .busy))::.blk D9 (.deferred (some []))::.sl vq 42 68 K9.length (aD K9)::(.grp kn (cD K9))::.blk b2 (.cells (#[aU]) 24)::.blk b1 (.cells (#[vq]) 24)::R9) _:=s
   refine ⟨rfl,_,⟨K9,kn,⟨hn8,hq9.1,hq9.2.trans hkm⟩,rfl⟩,s.pick _ ?_⟩
   exact List.Sublist.cons_cons _ (List.Sublist.refl _)
  ·intro D9 A9 w2 hJ9 hq9 s
   obtain ⟨Kd,kd,⟨hkn,hkr,hkm⟩,rfl⟩:=hJ9
   replace h:Sl _ {f with defers:={target:=.collected D9,args:=#[]}::f.defers} _ [{target:=.collected D9,args:=#[]}]:=⟨h.size,by rw [h.defers],h.holds⟩
   refine bH ?_
   refine hK6 _ _ ?_
   refine ak fun K8 hK8=>?_
   refine ag ?_
   refine ay 5 h s a7 rfl rfl (rfl) rfl ?_;intro f h
   refine aA 4 h s a7 rfl rfl rfl (rfl) (rfl) (bY (bo (s.getSl 2 rfl))) ?_;intro w1 s
   refine ac h (aj (h.ev rfl)) rfl ?_;intro f h
   refine ai ?_
   refine hK8 _ _ ?_
   refine wpIn_ret ?_
   exact jA 4 0 rfl h s a7 rfl rfl rfl rfl (rfl) (fun w9 s9=>lu (o5 r0).1 (oH (by rw [(o5 r0).2,hkn,lr (by rw [List.length_map])]) (s9.sel [2,3] rfl (by decide))))
  ·intro D9 d9 A9 w2 hd9 hqd9 hq9 hJ9 s
   cases hqd9
end Go.Proofs.YthggibfkgofncaaGreat
