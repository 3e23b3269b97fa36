/- Overlays, copied; an overlay opened; who is taken; what Join of package chord answers. -/
import Derived.Test.YthggibfkgofncaaGreatWa
import Derived.Test.YthggibfkgofncaaGreatSn
set_option linter.unusedVariables false
set_option linter.unusedSimpArgs false
set_option linter.unusedSectionVars false
namespace Go.Proofs.YthggibfkgofncaaGreat
open Go.RowKit
theorem ta (L:List N3) (hL:L.length≤1000) (a9:Option Addr) (n9 c9:Nat) (w:World) (hR:bO w (.slice a9 n9 c9) 68 L.length (aD L)) (ho:∀ x∈L,mP w x):Calls Tryz.prog 70 [.slice a9 n9 c9].toArray w (cO w (fun v w'=>cH w' w.heap.size 42 68 v L.length (aD L))):=by
 refine bh Tryz.func70 rfl Tryz.ntmps70 rfl [(0,.slice a9 n9 c9)] (by simp) fun f h=>?_
 have s:=St.start w
 refine ak fun K1 hK1=>?_
 refine ag ?_
 refine ac h (aj (h.ev rfl)) rfl ?_;intro f h
 refine ai ?_
 refine hK1 _ _ ?_
 refine ak fun K2 hK2=>?_
 refine ak fun K3 hK3=>?_
 cases hn:(a9.isNone:Bool)
 ·skip
  refine ag ?_
  refine ac h (ah (h.ev rfl)) rfl ?_;intro f h
  refine ac h (aE (.bool false) (fx Tryz.underlying22 (h.ev rfl) (h.ev rfl)) (congrArg Value.bool hn)) rfl ?_;intro f h
  refine ai ?_
  refine hK3 _ _ ?_
  refine wpIn_cond_false (h.ev rfl) ?_
  refine wpIn_skip ?_
  refine hK2 _ _ ?_
  refine ak fun K4 hK4=>?_
  refine ag ?_
  refine mL (base:=w.heap.size) h Tryz.underlying22 iw (Nat.le_refl _) rfl ?_;intro f w2 v5 h hE3 e5
  refine ac h (ah (h.ev rfl)) rfl ?_;intro f h
  refine jd (base:=w.heap.size) e5 (hR.keep hE3) h Tryz.underlying22 iw rfl rfl hE3.le (nx ho) (by unfold maxLen;omega) (by omega) rfl ?_;intro f w3 v7 h hE4 e7
  replace s:=s.sl_new (hE3.trans hE4) e7
  refine ac h (aj (h.ev rfl)) rfl ?_;intro f h
  refine ai ?_
  refine hK4 _ _ ?_
  refine wpIn_ret ?_
  exact bu rfl h s rfl (s.getSl 0 rfl)
 ·skip
  refine ag ?_
  refine ac h (ah (h.ev rfl)) rfl ?_;intro f h
  refine ac h (aE (.bool true) (fx Tryz.underlying22 (h.ev rfl) (h.ev rfl)) (congrArg Value.bool hn)) rfl ?_;intro f h
  refine ai ?_
  refine hK3 _ _ ?_
  refine wpIn_cond_true (h.ev rfl) ?_
  refine ak fun K5 hK5=>?_
  refine ag ?_
  refine ac h (aj (h.ev rfl)) rfl ?_;intro f h
  refine ai ?_
  refine hK5 _ _ ?_
  refine wpIn_ret ?_
  refine a8 ?_
  exact bu rfl h s rfl (by obtain rfl:=qS hn hR;exact fZ _ _ _ _)
theorem qg (L:List N3) (hL:L.length≤1000) (v9:Value) (w:World) (hR:bO w v9 68 L.length (aD L)) (ho:∀ x∈L,mP w x):Calls Tryz.prog 70 [v9].toArray w (cO w (fun v w'=>cH w' w.heap.size 42 68 v L.length (aD L))):=by
 obtain ⟨a,c,rfl⟩:=hR.len
 exact ta L hL a _ c w hR ho
set_option maxHeartbeats 1000000 in
theorem fC (L:List N3) (vo:Value) (w:World) (hO:cI w vo L) (hL:L.length≤40) (hb:RwB L):Calls Tryz.prog 36 [.agg #[vo]].toArray w (cO w (DV w 42 (nds L))):=by
 refine dZ Tryz.func36 rfl Tryz.ntmps36 rfl [(0,.agg #[vo])] (by simp) fun f h=>?_
 have s:=St.start w
 refine ak fun K1 hK1=>?_
 refine ag ?_
 refine bR (#[vo]) h s rfl rfl rfl ?_;intro f w1 b1 h s
 refine bi (#[aU]) h s d6 rfl rfl ?_;intro f w1 b2 h s
 refine ai ?_
 refine hK1 _ _ ?_
 refine ak fun K2 hK2=>?_
 refine ag ?_
 refine ac h (aq ck (h.ev rfl)) rfl ?_;intro f h
 refine aC (V:=vo) (ax (bq.of_own s 1 rfl) 0 rfl) h c3 rfl rfl ?_;intro f h
 refine aK h s CN (qg L (by omega) vo _ (hO.1.keep s.ext) (fun x hx=>(hO.2 x hx).keep s.ext)) rfl rfl ?_;intro f w1 v6 hT hE h sq;replace s:=s.sl_new hE hT
 refine ac h (aq ck (h.ev rfl)) rfl ?_;intro f h
 refine bk 2 h s c3 rfl rfl rfl (by show 0<1;decide) (bo (s.getSl 0 rfl)) ?_;intro w1 s
 replace s:=s.recell (D:=#[v6]) 2 rfl rfl
 refine ai ?_
 refine hK2 _ _ ?_
 refine ak fun K3 hK3=>?_
 refine ak fun K4 hK4=>?_
 refine ag ?_
 replace s:=s.grp0 (S:=cD (L.take 0)) (fun _ x hx=>by simp at hx)
 refine ay 3 h s a7 rfl rfl (rfl) rfl ?_;intro f h
 refine cV [.agg #[v6]] h ko (eV v6 _ _ _ s) rfl rfl ?_;rintro f w1 r ⟨bn,rfl,s⟩ h
 refine ai ?_
 refine hK4 _ _ ?_
 refine wpIn_block ?_
 refine dJ (fun d A9=>∃ (Kd:List N3) (kd:List Nat),(nds Kd=nds L∧∀ j,d≤j→Kd.getD j z3=L.getD j z3)∧A9=[.grp kd (cD (Kd.take d)),.sl v6 42 68 Kd.length (aD Kd),.blk b2 (.cells (#[aU]) 24),.blk b1 (.cells #[v6] 24)]) [.grp [] (cD (L.take 0)),.sl v6 42 68 L.length (aD L),.blk b2 (.cells (#[aU]) 24),.blk b1 (.cells #[v6] 24)] [.blk bn (.cells #[v6] 24)] (L.length) (fun _=>false) (fun d=>[Value.pointer (some (aF v6 (d*68)))]) h s rfl kv (List.Perm.refl _) (⟨L,[],⟨rfl,fun j _=>rfl⟩,rfl⟩) (fun _=>rfl) ?_ ?_ ?_ ?_
 ·intro lp w2 GG g0 hg0 s2 hY;exact ep L.length (by omega) v6 _ _ (bO.of_own (s.getSl 2 rfl)) lp bn (fun _=>false) GG g0 w w2 s2 hg0 hY
 ·intro lp D9 d9 rc R9 A9 w2 hd9 hq9 hJ9 s
  obtain ⟨Kd,kd,⟨hkn,hkj⟩,rfl⟩:=hJ9
  have h:=Sl.round1 (p:=10) (V:=.pointer (some (aF v6 (d9*68)))) h rfl
  have hdl9:=hd9
  have hlk:Kd.length=L.length:=by have h9:=congrArg List.length hkn;simpa [nds] using h9
  have hdk:d9<Kd.length:=by omega
  have hxd:Kd.getD d9 z3=L.getD d9 z3:=hkj d9 (Nat.le_refl _)
  have hx9:=hb.each _ (bj hdl9)
  refine ag ?_
  refine ac h (aj (h.ev rfl)) rfl ?_;intro f h
  refine ai ?_
  refine ca ?_
  refine ⟨_,s,fun w3 s=>?_⟩
  refine wpIn_block ?_
  refine ak fun K5 hK5=>?_
  refine ag ?_
  refine ac h (ah (h.ev rfl)) rfl ?_;intro f h
  refine ac h (ah (h.ev rfl)) rfl ?_;intro f h
  refine ac h (aZ (h.ev rfl)) rfl ?_;intro f h
  refine ac h (bB cC (h.ev rfl) ((bO.of_own (s.getSl 3 rfl)).some (by omega))) rfl ?_;intro f h
  refine aC (V:=(Kd.getD d9 z3).2.1) (dq (bO.of_own (s.getSl 3 rfl)) (d9*68+66) (gW Kd d9 hdk)) h cf rfl rfl ?_;intro f h
  refine aK h s sd (gj (L.getD d9 z3).1.sc (by omega) (Kd.getD d9 z3).2.1 _ (by rw [hxd];exact(hO.2 _ (bj hdl9)).1.keep s.ext)) rfl rfl ?_;intro f w1 v16 hT hE h sq;replace s:=s.sl_new hE hT
  refine ac h (aZ (h.ev rfl)) rfl ?_;intro f h
  refine ac h (bB cC (h.ev rfl) ((bO.of_own (s.getSl 4 rfl)).some (by omega))) rfl ?_;intro f h
  refine kB 4 h s cf rfl rfl rfl (by omega) (bo (s.getSl 0 rfl)) (show (aD Kd).set (d9*68+66) v16=aD (Kd.set d9 ((⟨(Kd.getD d9 z3).1.me,(Kd.getD d9 z3).1.pr,(Kd.getD d9 z3).1.sc,(Kd.getD d9 z3).1.fg⟩,v16,(Kd.getD d9 z3).2.2):N3)) from wj hdk _ _) ?_;intro w1 s
  refine ai ?_
  refine hK5 _ _ ?_
  refine ag ?_
  refine ac h (ah (h.ev rfl)) rfl ?_;intro f h
  refine ac h (ah (h.ev rfl)) rfl ?_;intro f h
  refine ac h (aZ (h.ev rfl)) rfl ?_;intro f h
  refine ac h (bB dP (h.ev rfl) ((bO.of_own (s.getSl 4 rfl)).some (by omega))) rfl ?_;intro f h
  refine aC (V:=(Kd.getD d9 z3).2.2) (dq (bO.of_own (s.getSl 4 rfl)) (d9*68+67) ((Be _ d9 (by rw [List.length_set];exact hdk)).trans (by rw [jF hdk]))) h cf rfl rfl ?_;intro f h
  refine aK h s sd (gj (L.getD d9 z3).1.fg (by omega) (Kd.getD d9 z3).2.2 _ (by rw [hxd];exact(hO.2 _ (bj hdl9)).2.keep s.ext)) rfl rfl ?_;intro f w1 v24 hT hE h sq;replace s:=s.sl_new hE hT
  refine ac h (aZ (h.ev rfl)) rfl ?_;intro f h
  refine ac h (bB dP (h.ev rfl) ((bO.of_own (s.getSl 5 rfl)).some (by omega))) rfl ?_;intro f h
  refine kB 5 h s cf rfl rfl rfl (by omega) (bo (s.getSl 0 rfl)) (show (aD (Kd.set d9 ((⟨(Kd.getD d9 z3).1.me,(Kd.getD d9 z3).1.pr,(Kd.getD d9 z3).1.sc,(Kd.getD d9 z3).1.fg⟩,v16,(Kd.getD d9 z3).2.2):N3))).set (d9*68+67) v24=aD (Kd.set d9 ((⟨(Kd.getD d9 z3).1.me,(Kd.getD d9 z3).1.pr,(Kd.getD d9 z3).1.sc,(Kd.getD d9 z3).1.fg⟩,v16,v24):N3)) from (uM (by rw [List.length_set];exact hdk) _ (Kd.getD d9 z3).1.fg).trans (by rw [jF hdk,ub])) ?_;intro w1 s
  replace s:=s.resl (m:=(Kd.set d9 ((⟨(Kd.getD d9 z3).1.me,(Kd.getD d9 z3).1.pr,(Kd.getD d9 z3).1.sc,(Kd.getD d9 z3).1.fg⟩,v16,v24):N3)).length) (ys:=aD (Kd.set d9 ((⟨(Kd.getD d9 z3).1.me,(Kd.getD d9 z3).1.pr,(Kd.getD d9 z3).1.sc,(Kd.getD d9 z3).1.fg⟩,v16,v24):N3))) 5 rfl (by rw [List.length_set]) rfl
  refine ai ?_
  refine bH ?_
  replace s:=s.bring 4 rfl
  replace s:=s.bring 1 rfl
  replace s:=s.bring 2 rfl
  replace s:St w (.sl v16 28 33 (L.getD d9 z3).1.sc.length (am (L.getD d9 z3).1.sc)::.sl v24 28 33 (L.getD d9 z3).1.fg.length (am (L.getD d9 z3).1.fg)::(.grp kd (cD (Kd.take d9)))::.blk lp (.loop (rc .busy))::.blk D9 (.deferred (some []))::.sl v6 42 68 (Kd.set d9 ((⟨(Kd.getD d9 z3).1.me,(Kd.getD d9 z3).1.pr,(Kd.getD d9 z3).1.sc,(Kd.getD d9 z3).1.fg⟩,v16,v24):N3)).length (aD (Kd.set d9 ((⟨(Kd.getD d9 z3).1.me,(Kd.getD d9 z3).1.pr,(Kd.getD d9 z3).1.sc,(Kd.getD d9 z3).1.fg⟩,v16,v24):N3)))::.blk b2 (.cells (#[aU]) 24)::.blk b1 (.cells (#[v6]) 24)::R9) _:=s
  obtain ⟨kn,s⟩:=s.grpR (S':=cD ((Kd.set d9 ((⟨(Kd.getD d9 z3).1.me,(Kd.getD d9 z3).1.pr,(Kd.getD d9 z3).1.sc,(Kd.getD d9 z3).1.fg⟩,v16,v24):N3)).take (d9+1))) (fun w9 h1 h2 h3=>yA hdk h3 ⟨by rw [← hxd] at h1;exact h1,by rw [← hxd] at h2;exact h2⟩)
  replace s:=s.bring 2 rfl
  replace s:=s.bring 2 rfl
  replace s:St w (.blk lp (.loop (rc .busy))::.blk D9 (.deferred (some []))::(.grp kn (cD ((Kd.set d9 ((⟨(Kd.getD d9 z3).1.me,(Kd.getD d9 z3).1.pr,(Kd.getD d9 z3).1.sc,(Kd.getD d9 z3).1.fg⟩,v16,v24):N3)).take (d9+1))))::.sl v6 42 68 (Kd.set d9 ((⟨(Kd.getD d9 z3).1.me,(Kd.getD d9 z3).1.pr,(Kd.getD d9 z3).1.sc,(Kd.getD d9 z3).1.fg⟩,v16,v24):N3)).length (aD (Kd.set d9 ((⟨(Kd.getD d9 z3).1.me,(Kd.getD d9 z3).1.pr,(Kd.getD d9 z3).1.sc,(Kd.getD d9 z3).1.fg⟩,v16,v24):N3)))::.blk b2 (.cells (#[aU]) 24)::.blk b1 (.cells (#[v6]) 24)::R9) _:=s
  refine ⟨rfl,_,⟨(Kd.set d9 ((⟨(Kd.getD d9 z3).1.me,(Kd.getD d9 z3).1.pr,(Kd.getD d9 z3).1.sc,(Kd.getD d9 z3).1.fg⟩,v16,v24):N3)),kn,⟨xn hkn rfl hdk,fun j hj=>(CH (by omega) _).trans (hkj j (by omega))⟩,rfl⟩,s.pick _ ?_⟩
  exact List.Sublist.cons_cons _ (List.Sublist.refl _)
 ·intro D9 A9 w2 hJ9 hq9 s
  obtain ⟨Kd,kd,⟨hkn,hkj⟩,rfl⟩:=hJ9
  replace h:Sl _ {f with defers:={target:=.collected D9,args:=#[]}::f.defers} _ [{target:=.collected D9,args:=#[]}]:=⟨h.size,by rw [h.defers],h.holds⟩
  have hlk:Kd.length=L.length:=by have h9:=congrArg List.length hkn;simpa [nds] using h9
  rw [show Kd.take L.length=Kd from List.take_of_length_le (by omega)] at s
  refine bH ?_
  refine hK3 _ _ ?_
  refine ak fun K6 hK6=>?_
  refine ag ?_
  refine ay 5 h s a7 rfl rfl (rfl) rfl ?_;intro f h
  refine aA 4 h s a7 rfl rfl rfl (rfl) (rfl) (bY (bo (s.getSl 3 rfl))) ?_;intro w1 s
  refine ai ?_
  refine hK6 _ _ ?_
  refine wpIn_ret ?_
  exact wi 4 0 rfl h s a7 rfl rfl rfl rfl (rfl) (fun w9 s9=>⟨v6,Kd,kd,rfl,hkn,s9.sel [3,2] rfl (by decide)⟩)
 ·intro D9 d9 A9 w2 hd9 hqd9 hq9 hJ9 s
  cases hqd9
theorem eJ (L:List N3) (vo:Value) (no:Int) (w:World) (hO:cI w vo L) (hL:L.length≤40) (hb:RwB L):Calls Tryz.prog 40 [.agg #[vo],.int .i64 no].toArray w (cO w (Cd w 42 L no)):=by
 refine bh Tryz.func40 rfl Tryz.ntmps40 rfl [(0,.agg #[vo]),(1,.int .i64 no)] (by simp) fun f h=>?_
 have s:=St.start w
 refine ak fun K1 hK1=>?_
 refine ag ?_
 refine bR (#[vo]) h s rfl rfl rfl ?_;intro f w1 b2 h s
 refine bi (#[aU]) h s d6 rfl rfl ?_;intro f w1 b4 h s
 refine ac h (aj (h.ev rfl)) rfl ?_;intro f h
 refine ac h (aj (h.ev rfl)) rfl ?_;intro f h
 refine ai ?_
 refine hK1 _ _ ?_
 refine ak fun K2 hK2=>?_
 refine ak fun K3 hK3=>?_
 cases r0:(fH L:Bool)
 ·skip
  refine ag ?_
  refine ay 1 h s a7 rfl rfl (rfl) rfl ?_;intro f h
  refine aK h s iE (aT (.bool false) (dn L vo _ (hO.keep s.ext) hL hb) (congrArg Value.bool r0)) rfl rfl ?_;intro f w1 v9 hT hE h s;obtain rfl:=hT
  refine ac h (aE (.bool true) (bI (h.ev rfl)) rfl) rfl ?_;intro f h
  refine ai ?_
  refine hK3 _ _ ?_
  refine wpIn_cond_true (h.ev rfl) ?_
  refine ak fun K4 hK4=>?_
  refine ag ?_
  refine ac h (cw jB) rfl ?_;intro f h
  refine aA 0 h s a7 rfl rfl rfl (rfl) (rfl) (bY (rfl)) ?_;intro w1 s
  refine ac h (aj (h.ev rfl)) rfl ?_;intro f h
  refine ac h (aj (h.ev rfl)) rfl ?_;intro f h
  refine ai ?_
  refine hK4 _ _ ?_
  refine wpIn_ret ?_
  refine a8 ?_
  exact iL 0 rfl h s a7 rfl rfl (rfl) rfl rfl (.inl ⟨1,j1 r0,by decide,rfl⟩)
 ·skip
  refine ag ?_
  refine ay 1 h s a7 rfl rfl (rfl) rfl ?_;intro f h
  refine aK h s iE (aT (.bool true) (dn L vo _ (hO.keep s.ext) hL hb) (congrArg Value.bool r0)) rfl rfl ?_;intro f w1 v9 hT hE h s;obtain rfl:=hT
  refine ac h (aE (.bool false) (bI (h.ev rfl)) rfl) rfl ?_;intro f h
  refine ai ?_
  refine hK3 _ _ ?_
  refine wpIn_cond_false (h.ev rfl) ?_
  refine wpIn_skip ?_
  refine hK2 _ _ ?_
  refine ak fun K5 hK5=>?_
  refine ag ?_
  refine ay 1 h s a7 rfl rfl (rfl) rfl ?_;intro f h
  refine aK h s ra (fC L vo _ (hO.keep s.ext) hL hb) rfl rfl ?_;rintro f w1 v13 ⟨vq,K,ks,rfl,hnk,hS⟩ hE h sq;replace s:=s.add hS;clear hS
  have hlk:K.length=L.length:=by have h9:=congrArg List.length hnk;simpa [nds] using h9
  refine aA 3 h s a7 rfl rfl rfl (rfl) (rfl) (bY (bo (s.getSl 0 rfl))) ?_;intro w1 s
  refine ai ?_
  refine hK5 _ _ ?_
  refine ak fun K6 hK6=>?_
  cases l0:(bP (ae L) no:Bool)
  ·skip
   refine ag ?_
   have hnos:=(ef r0).rs.nos
   have hixe:=vF hnk no
   refine ay 3 h s a7 rfl rfl (rfl) rfl ?_;intro f h
   refine ac h (ah (h.ev rfl)) rfl ?_;intro f h
   refine aK h s gZ (aT (.pointer none) (dw K vq no _ ⟨bO.of_own (s.getSl 0 rfl),s.getG 1 rfl⟩ (by omega)) (mE (by rw [hixe,hlk];exact of_decide_eq_false ((eb hnos).trans l0)))) rfl rfl ?_;intro f w1 v9 hT hE h s;obtain rfl:=hT
   refine ac h (aj (h.ev rfl)) rfl ?_;intro f h
   refine ai ?_
   refine hK6 _ _ ?_
   refine ak fun K7 hK7=>?_
   refine ak fun K8 hK8=>?_
   refine ag ?_
   refine ac h (ah (h.ev rfl)) rfl ?_;intro f h
   refine ac h (aE (.bool true) (fL Tryz.underlying54 (h.ev rfl) (h.ev rfl)) (rfl)) rfl ?_;intro f h
   refine ai ?_
   refine hK8 _ _ ?_
   refine wpIn_cond_true (h.ev rfl) ?_
   refine ak fun K9 hK9=>?_
   refine ag ?_
   refine ac h (cw jB) rfl ?_;intro f h
   refine aA 2 h s a7 rfl rfl rfl (rfl) (rfl) (bY (rfl)) ?_;intro w1 s
   refine ac h (aj (h.ev rfl)) rfl ?_;intro f h
   refine ac h (aj (h.ev rfl)) rfl ?_;intro f h
   refine ai ?_
   refine hK9 _ _ ?_
   refine wpIn_ret ?_
   refine a8 ?_
   exact iL 2 rfl h s a7 rfl rfl (rfl) rfl rfl (.inl ⟨10,ic r0 l0,by decide,rfl⟩)
  ·skip
   refine ag ?_
   have hnos:=(ef r0).rs.nos
   have hixe:=vF hnk no
   refine ay 3 h s a7 rfl rfl (rfl) rfl ?_;intro f h
   refine ac h (ah (h.ev rfl)) rfl ?_;intro f h
   refine aK h s gZ (aT (.pointer (some (aF vq (az L no*68)))) (dw K vq no _ ⟨bO.of_own (s.getSl 0 rfl),s.getG 1 rfl⟩ (by omega)) (by rw [← hixe];exact mi (by rw [hixe,hlk];exact of_decide_eq_true ((eb hnos).trans l0)))) rfl rfl ?_;intro f w1 v9 hT hE h s;obtain rfl:=hT
   refine ac h (aj (h.ev rfl)) rfl ?_;intro f h
   refine ai ?_
   refine hK6 _ _ ?_
   refine ak fun K10 hK10=>?_
   refine ak fun K11 hK11=>?_
   refine ag ?_
   refine ac h (ah (h.ev rfl)) rfl ?_;intro f h
   refine ac h (aE (.bool false) (fL Tryz.underlying54 (h.ev rfl) (h.ev rfl)) (rfl)) rfl ?_;intro f h
   refine ai ?_
   refine hK11 _ _ ?_
   refine wpIn_cond_false (h.ev rfl) ?_
   refine wpIn_skip ?_
   refine hK10 _ _ ?_
   refine ak fun K12 hK12=>?_
   refine ag ?_
   refine ay 3 h s a7 rfl rfl (rfl) rfl ?_;intro f h
   refine ac h (ah (h.ev rfl)) rfl ?_;intro f h
   refine aA 2 h s a7 rfl rfl rfl (rfl) (rfl) (bY (bo (s.getSl 0 rfl))) ?_;intro w1 s
   refine ac h (aj (h.ev rfl)) rfl ?_;intro f h
   refine ac h (aj (h.ev rfl)) rfl ?_;intro f h
   refine ai ?_
   refine hK12 _ _ ?_
   refine wpIn_ret ?_
   exact iL 2 rfl h s a7 rfl rfl (rfl) rfl rfl (.inr ⟨kA r0 l0,vq,K,ks,rfl,hnk,s.sel [0,1] rfl (by decide)⟩)
set_option maxHeartbeats 1000000 in
theorem mO (L:List N3) (vo:Value) (m:Mb) (w:World) (hO:cI w vo L) (hL:L.length≤40) (hb:RwB L):Calls Tryz.prog 34 [.agg #[vo],.agg (av m)].toArray w (cO w (is (.bool (sJ L m)))):=by
 refine dZ Tryz.func34 rfl Tryz.ntmps34 rfl [(0,.agg #[vo]),(1,.agg (av m))] (by simp) fun f h=>?_
 have s:=St.start w
 refine ak fun K1 hK1=>?_
 refine ag ?_
 refine bR (#[vo]) h s rfl rfl rfl ?_;intro f w1 b2 h s
 refine bR ((av m)) h s rfl rfl rfl ?_;intro f w1 b3 h s
 refine bi (#[.bool false]) h s q8 rfl rfl ?_;intro f w1 b4 h s
 refine ai ?_
 refine hK1 _ _ ?_
 refine ak fun K2 hK2=>?_
 refine ak fun K3 hK3=>?_
 refine ag ?_
 refine ay 2 h s a7 rfl rfl (rfl) rfl ?_;intro f h
 refine cV [.agg #[vo]] h ko (eV vo _ _ _ s) rfl rfl ?_;rintro f w1 r ⟨bn,rfl,s⟩ h
 refine ai ?_
 refine hK3 _ _ ?_
 refine wpIn_block ?_
 refine dJ (fun d A9=>A9=[.blk b4 (.cells #[.bool (lq (kK L m) d)] 4),.blk b3 (.cells (av m) 28),.blk b2 (.cells #[vo] 24)]) [.blk b4 (.cells #[.bool false] 4),.blk b3 (.cells (av m) 28),.blk b2 (.cells #[vo] 24)] [.blk bn (.cells #[vo] 24)] (L.length) (kK L m) (fun d=>[Value.pointer (some (aF vo (d*68)))]) h s rfl kv (List.Perm.refl _) (rfl) (fun _=>rfl) ?_ ?_ ?_ ?_
 ·intro lp w2 GG g0 hg0 s2 hY;exact ep L.length (by omega) vo _ _ hO.1 lp bn (kK L m) GG g0 w w2 s2 hg0 hY
 ·intro lp D9 d9 rc R9 A9 w2 hd9 hq9 hJ9 s
  obtain rfl:=hJ9
  have h:=Sl.round1 (p:=9) (V:=.pointer (some (aF vo (d9*68)))) h rfl
  have hdl9:=hd9
  replace s:=s.recell (D:=#[.bool false]) 2 rfl (by rw [qG hq9])
  have hx9:=hb.each _ (bj hdl9)
  have hkx:(aH (L.getD d9 z3).1).length≤1000:=by simp only [aH,List.length_append,List.length_cons];omega
  refine ag ?_
  refine ac h (aj (h.ev rfl)) rfl ?_;intro f h
  refine ai ?_
  refine ca ?_
  refine ⟨_,s,fun w3 s=>?_⟩
  refine wpIn_block ?_
  refine ak fun K4 hK4=>?_
  refine ak fun K5 hK5=>?_
  cases e0:(decide ((L.getD d9 z3).1.me.1=m.1):Bool)
  ·skip
   cases e1:(decide ((L.getD d9 z3).1.me.2=m.2):Bool)
   ·skip
    refine bG 18 [[],[0],[0,1],[0,1,2],[0,1,2,3],[],[5],[0,1,2,3,4,5,6],[0,1,2,3,4,5,6,7],[0,1,2,3,4,5,6,7,8],[0,1,2,3,4,5,6,7,8,9],[0,1,2,3,4,5,6,7,8,9,10],[0,1,2,3,4,5,6,7,8,9,10,11],[0,1,2,3,4,5,6,7,8,9,10,11,12],[0,1,2,3,4,5,6,7,8],[0,1,2,3,4,5,6,7,8,14],[0,1,2,3,4,5,6,7,8,9,10,11,12,13,14,15],[0,1,2,3,4,5,6,7,8,9,10,11,12,13,14,15,16]] h (by kernel_rfl) (by kernel_rfl) (by kernel_rfl) ?_
    refine ao h (ah (h.ev rfl)) rfl ?_;intro f h
    refine ao h (aZ (h.ev rfl)) rfl ?_;intro f h
    refine ao h (bB bA (h.ev rfl) ((hO.1.keep s.ext).some (by omega))) rfl ?_;intro f h
    refine ao h (bB aP (h.ev rfl) ((hO.1.keep s.ext).some (by omega))) rfl ?_;intro f h
    refine bz (V:=.int .i64 (L.getD d9 z3).1.me.1) (dq (hO.1.keep s.ext) (d9*68+0) (m8 L d9 hdl9)) h bV rfl rfl ?_;intro f h
    refine ao h (aq aP (h.ev rfl)) rfl ?_;intro f h
    refine bz (ax (bq.of_own s 3 rfl) 0 (aV _)) h bV rfl rfl ?_;intro f h
    refine ao h (aE (.bool false) (cb (h.ev rfl) (h.ev rfl)) (congrArg Value.bool e0)) rfl ?_;intro f h
    refine ao h (ah (h.ev rfl)) rfl ?_;intro f h
    refine bf h rfl rfl rfl ?_
    refine ao h (ah (h.ev rfl)) rfl ?_;intro f h
    refine bf h rfl rfl rfl ?_
    refine ao h (aZ (h.ev rfl)) rfl ?_;intro f h
    refine bf h rfl rfl rfl ?_
    refine ao h (bB bA (h.ev rfl) ((hO.1.keep s.ext).some (by omega))) rfl ?_;intro f h
    refine bf h rfl rfl rfl ?_
    refine ao h (bB ce (h.ev rfl) ((hO.1.keep s.ext).some (by omega))) rfl ?_;intro f h
    refine bf h rfl rfl rfl ?_
    refine bg (bO.elF (hO.1.keep s.ext) (d9) 1 32 (by omega) (by decide) (C:=au (L.getD d9 z3).1.me (L.getD d9 z3).1.pr (L.getD d9 z3).2.1 (L.getD d9 z3).2.2) (cR L d9 hdl9) (D:=bD (L.getD d9 z3).1.me.2) (ec _ _ _ _)) h cq rfl (by first|exact aR _|exact aM _ _) rfl ?_;intro f h
    refine bf h rfl rfl rfl ?_
    refine ao h (aq ce (h.ev rfl)) rfl ?_;intro f h
    refine bf h rfl rfl rfl ?_
    refine bg (bq.subL (bq.of_own s 3 rfl) 1 32 (D:=bD (_)) (co _)) h cq rfl (by first|exact aR _|exact aM _ _) rfl ?_;intro f h
    refine bf h rfl rfl rfl ?_
    refine ao h (aE (.bool false) (dM gY (h.ev rfl) (h.ev rfl)) (congrArg Value.bool e1)) rfl ?_;intro f h
    refine ao h (aL (h.ev rfl) (h.ev rfl)) rfl ?_;intro f h
    refine cn s fun w1 s=>?_
    refine ai ?_
    refine hK5 _ _ ?_
    refine wpIn_cond_false (h.ev rfl) ?_
    refine wpIn_skip ?_
    refine hK4 _ _ ?_
    refine ak fun K6 hK6=>?_
    refine ag ?_
    refine ac h (ah (h.ev rfl)) rfl ?_;intro f h
    refine ac h (aZ (h.ev rfl)) rfl ?_;intro f h
    refine aI ((hO.1.keep s.ext).el (d9) (by omega) (by decide) (D:=au (L.getD d9 z3).1.me (L.getD d9 z3).1.pr (L.getD d9 z3).2.1 (L.getD d9 z3).2.2) (cR L d9 hdl9)) h bw rfl (aw _ _ _ _) rfl ?_;intro f h
    refine aK h s wG (iO (L.getD d9 z3).1 (L.getD d9 z3).2.1 (L.getD d9 z3).2.2 _ ((hO.2 _ (bj hdl9)).1.keep s.ext) ((hO.2 _ (bj hdl9)).2.keep s.ext) (by omega) (by omega)) rfl rfl ?_;rintro f w1 r9 ⟨bv,vk,rfl,hS⟩ hE h sq;replace s:=s.add hS;clear hS
    refine ai ?_
    refine hK6 _ _ ?_
    refine wpIn_block ?_
    refine vW (fun d A8=>A8=(.blk lp (.loop (rc .busy))::.blk D9 (.deferred (some []))::.blk b4 (.cells #[.bool (lq (fun j=>jj m ((aH (L.getD d9 z3).1).getD j ap)) d)] 4)::.blk b3 (.cells (av m) 28)::.blk b2 (.cells #[vo] 24)::R9)) (.blk lp (.loop (rc .busy))::.blk D9 (.deferred (some []))::.blk b4 (.cells #[.bool false] 4)::.blk b3 (.cells (av m) 28)::.blk b2 (.cells #[vo] 24)::R9) [.blk bv (.cells #[vk] 36),.sl vk 28 33 (aH (L.getD d9 z3).1).length (am (aH (L.getD d9 z3).1))] ((aH (L.getD d9 z3).1).length) (fun j=>jj m ((aH (L.getD d9 z3).1).getD j ap)) (fun d=>[Value.agg (av ((aH (L.getD d9 z3).1).getD d ap))]) h s rfl nG 2 rfl (List.Perm.refl _) (rfl) (fun _=>rfl) ?_ ?_ ?_ ?_
    ·intro lp2 w2 GG g0 hg0 s2 hY;exact iK (aH (L.getD d9 z3).1) hkx vk lp2 bv (fun j=>jj m ((aH (L.getD d9 z3).1).getD j ap)) GG g0 w w2 s2 hg0 hY
    ·intro lp2 d8 rc2 R8 A8 w2 hd8 hq8 hJ8 s
     obtain rfl:=hJ8
     have h:=Sl.round1 (p:=32) (V:=.agg (av ((aH (L.getD d9 z3).1).getD d8 ap))) h rfl
     replace s:=s.recell (D:=#[.bool false]) 3 rfl (by rw [qG hq8])
     refine ag ?_
     refine bi (av ap) h s cF rfl rfl ?_;intro f w1 b6 h s
     refine aA 0 h s aJ rfl rfl rfl (al _) (al _) (aX _) ?_;intro w1 s
     refine ai ?_
     refine ca ?_
     refine ⟨_,s.perm (List.perm_middle (l₁:=[_])),fun w3 s=>?_⟩
     refine wpIn_block ?_
     refine ak fun K7 hK7=>?_
     cases f0:(decide (((aH (L.getD d9 z3).1).getD d8 ap).1=m.1):Bool)
     ·skip
      refine ag ?_
      refine ac h (aq aP (h.ev rfl)) rfl ?_;intro f h
      refine aC (ax (bq.of_own s 1 rfl) 0 (aV _)) h bV rfl rfl ?_;intro f h
      refine ac h (aq aP (h.ev rfl)) rfl ?_;intro f h
      refine aC (ax (bq.of_own s 5 rfl) 0 (aV _)) h bV rfl rfl ?_;intro f h
      refine ac h (aE (.bool false) (cb (h.ev rfl) (h.ev rfl)) (congrArg Value.bool f0)) rfl ?_;intro f h
      refine ac h (ah (h.ev rfl)) rfl ?_;intro f h
      refine aY (b:=true) h rfl rfl rfl rfl ?_;intro f h
      refine aY (b:=true) h rfl rfl rfl rfl ?_;intro f h
      refine aY (b:=true) h rfl rfl rfl rfl ?_;intro f h
      refine ac h (aL (h.ev rfl) (h.ev rfl)) rfl ?_;intro f h
      refine ai ?_
      refine hK7 _ _ ?_
      refine wpIn_cond_false (h.ev rfl) ?_
      refine wpIn_skip ?_
      refine bH ?_
      replace s:=s.recell (D:=#[.bool (lq (fun j=>jj m ((aH (L.getD d9 z3).1).getD j ap)) (d8+1))]) 4 rfl (by show _=#[Value.bool (jj m ((aH (L.getD d9 z3).1).getD d8 ap))];rw [show jj m ((aH (L.getD d9 z3).1).getD d8 ap)=false from by unfold jj;rw [f0];rfl])
      refine ⟨(by show jj m _=_;unfold jj;rw [f0];rfl),_,rfl,s.pick _ ?_⟩
      exact List.Sublist.cons_cons _ (List.Sublist.cons _ (List.Sublist.refl _))
     ·skip
      cases f1:(decide (((aH (L.getD d9 z3).1).getD d8 ap)=m):Bool)
      ·skip
       refine ag ?_
       refine ac h (aq aP (h.ev rfl)) rfl ?_;intro f h
       refine aC (ax (bq.of_own s 1 rfl) 0 (aV _)) h bV rfl rfl ?_;intro f h
       refine ac h (aq aP (h.ev rfl)) rfl ?_;intro f h
       refine aC (ax (bq.of_own s 5 rfl) 0 (aV _)) h bV rfl rfl ?_;intro f h
       refine ac h (aE (.bool true) (cb (h.ev rfl) (h.ev rfl)) (congrArg Value.bool f0)) rfl ?_;intro f h
       refine ac h (ah (h.ev rfl)) rfl ?_;intro f h
       refine a2 h rfl rfl rfl ?_
       refine ay 1 h s aJ rfl rfl (al _) rfl ?_;intro f h
       refine a2 h rfl rfl rfl ?_
       refine ay 5 h s aJ rfl rfl (al _) rfl ?_;intro f h
       refine a2 h rfl rfl rfl ?_
       refine ac h (aE (.bool true) (fh (i9 _ _) (by kernel_rfl) (by decide) (h.ev rfl) (h.ev rfl) (decide (((aH (L.getD d9 z3).1).getD d8 ap)=m)) (er _ _)) (by rw [f1];rfl)) rfl ?_;intro f h
       refine ac h (aO (h.ev rfl) (h.ev rfl)) rfl ?_;intro f h
       refine ai ?_
       refine hK7 _ _ ?_
       refine wpIn_cond_true (h.ev rfl) ?_
       refine ak fun K8 hK8=>?_
       refine ag ?_
       refine bk 4 h s eU rfl rfl rfl (by simp) (rfl) ?_;intro w1 s
       refine ai ?_
       refine hK8 _ _ ?_
       refine wpIn_ret ?_
       refine bT ?_
       replace s:=s.recell (D:=#[.bool (lq (fun j=>jj m ((aH (L.getD d9 z3).1).getD j ap)) (d8+1))]) 4 rfl (by show _=#[Value.bool (jj m ((aH (L.getD d9 z3).1).getD d8 ap))];rw [show jj m ((aH (L.getD d9 z3).1).getD d8 ap)=true from by unfold jj;rw [f0,f1];rfl];rfl)
       refine ⟨(by show jj m _=_;unfold jj;rw [f0,f1];rfl),_,rfl,s.pick _ ?_⟩
       exact List.Sublist.cons_cons _ (List.Sublist.cons _ (List.Sublist.refl _))
      ·skip
       refine ag ?_
       refine ac h (aq aP (h.ev rfl)) rfl ?_;intro f h
       refine aC (ax (bq.of_own s 1 rfl) 0 (aV _)) h bV rfl rfl ?_;intro f h
       refine ac h (aq aP (h.ev rfl)) rfl ?_;intro f h
       refine aC (ax (bq.of_own s 5 rfl) 0 (aV _)) h bV rfl rfl ?_;intro f h
       refine ac h (aE (.bool true) (cb (h.ev rfl) (h.ev rfl)) (congrArg Value.bool f0)) rfl ?_;intro f h
       refine ac h (ah (h.ev rfl)) rfl ?_;intro f h
       refine a2 h rfl rfl rfl ?_
       refine ay 1 h s aJ rfl rfl (al _) rfl ?_;intro f h
       refine a2 h rfl rfl rfl ?_
       refine ay 5 h s aJ rfl rfl (al _) rfl ?_;intro f h
       refine a2 h rfl rfl rfl ?_
       refine ac h (aE (.bool false) (fh (i9 _ _) (by kernel_rfl) (by decide) (h.ev rfl) (h.ev rfl) (decide (((aH (L.getD d9 z3).1).getD d8 ap)=m)) (er _ _)) (by rw [f1];rfl)) rfl ?_;intro f h
       refine ac h (aO (h.ev rfl) (h.ev rfl)) rfl ?_;intro f h
       refine ai ?_
       refine hK7 _ _ ?_
       refine wpIn_cond_false (h.ev rfl) ?_
       refine wpIn_skip ?_
       refine bH ?_
       replace s:=s.recell (D:=#[.bool (lq (fun j=>jj m ((aH (L.getD d9 z3).1).getD j ap)) (d8+1))]) 4 rfl (by show _=#[Value.bool (jj m ((aH (L.getD d9 z3).1).getD d8 ap))];rw [show jj m ((aH (L.getD d9 z3).1).getD d8 ap)=false from by unfold jj;rw [f0,f1];rfl])
       refine ⟨(by show jj m _=_;unfold jj;rw [f0,f1];rfl),_,rfl,s.pick _ ?_⟩
       exact List.Sublist.cons_cons _ (List.Sublist.cons _ (List.Sublist.refl _))
    ·intro A8 w2 hJ8 hq8 s
     obtain rfl:=hJ8
     refine bH ?_
     refine bH ?_
     have hb9:=Al (m:=m) e0 e1 (Nat.le_refl _) hq8
     replace s:=s.recell (D:=#[.bool (lq (kK L m) (d9+1))]) 4 rfl (by rw [qG hq8];show #[Value.bool false]=#[Value.bool (kK L m d9)];rw [hb9])
     refine ⟨Al e0 e1 (Nat.le_refl _) hq8,_,rfl,s.pick _ ?_⟩
     exact List.Sublist.cons _ (List.Sublist.cons _ (List.Sublist.cons_cons _ (List.Sublist.refl _)))
    ·intro d8 A8 w2 hd8 hqd8 hq8 hJ8 s
     obtain rfl:=hJ8
     refine bT ?_
     refine bT ?_
     have hb9:kK L m d9=true:=Cu hd8 hqd8
     replace s:=s.recell (D:=#[.bool (lq (kK L m) (d9+1))]) 4 rfl (by show #[Value.bool (jj m ((aH (L.getD d9 z3).1).getD d8 ap))]=#[Value.bool (kK L m d9)];rw [hb9,show jj m ((aH (L.getD d9 z3).1).getD d8 ap)=true from hqd8])
     refine ⟨Cu hd8 hqd8,_,rfl,s.pick _ ?_⟩
     exact List.Sublist.cons _ (List.Sublist.cons _ (List.Sublist.cons_cons _ (List.Sublist.refl _)))
   ·skip
    refine bG 18 [[],[0],[0,1],[0,1,2],[0,1,2,3],[],[5],[0,1,2,3,4,5,6],[0,1,2,3,4,5,6,7],[0,1,2,3,4,5,6,7,8],[0,1,2,3,4,5,6,7,8,9],[0,1,2,3,4,5,6,7,8,9,10],[0,1,2,3,4,5,6,7,8,9,10,11],[0,1,2,3,4,5,6,7,8,9,10,11,12],[0,1,2,3,4,5,6,7,8],[0,1,2,3,4,5,6,7,8,14],[0,1,2,3,4,5,6,7,8,9,10,11,12,13,14,15],[0,1,2,3,4,5,6,7,8,9,10,11,12,13,14,15,16]] h (by kernel_rfl) (by kernel_rfl) (by kernel_rfl) ?_
    refine ao h (ah (h.ev rfl)) rfl ?_;intro f h
    refine ao h (aZ (h.ev rfl)) rfl ?_;intro f h
    refine ao h (bB bA (h.ev rfl) ((hO.1.keep s.ext).some (by omega))) rfl ?_;intro f h
    refine ao h (bB aP (h.ev rfl) ((hO.1.keep s.ext).some (by omega))) rfl ?_;intro f h
    refine bz (V:=.int .i64 (L.getD d9 z3).1.me.1) (dq (hO.1.keep s.ext) (d9*68+0) (m8 L d9 hdl9)) h bV rfl rfl ?_;intro f h
    refine ao h (aq aP (h.ev rfl)) rfl ?_;intro f h
    refine bz (ax (bq.of_own s 3 rfl) 0 (aV _)) h bV rfl rfl ?_;intro f h
    refine ao h (aE (.bool false) (cb (h.ev rfl) (h.ev rfl)) (congrArg Value.bool e0)) rfl ?_;intro f h
    refine ao h (ah (h.ev rfl)) rfl ?_;intro f h
    refine bf h rfl rfl rfl ?_
    refine ao h (ah (h.ev rfl)) rfl ?_;intro f h
    refine bf h rfl rfl rfl ?_
    refine ao h (aZ (h.ev rfl)) rfl ?_;intro f h
    refine bf h rfl rfl rfl ?_
    refine ao h (bB bA (h.ev rfl) ((hO.1.keep s.ext).some (by omega))) rfl ?_;intro f h
    refine bf h rfl rfl rfl ?_
    refine ao h (bB ce (h.ev rfl) ((hO.1.keep s.ext).some (by omega))) rfl ?_;intro f h
    refine bf h rfl rfl rfl ?_
    refine bg (bO.elF (hO.1.keep s.ext) (d9) 1 32 (by omega) (by decide) (C:=au (L.getD d9 z3).1.me (L.getD d9 z3).1.pr (L.getD d9 z3).2.1 (L.getD d9 z3).2.2) (cR L d9 hdl9) (D:=bD (L.getD d9 z3).1.me.2) (ec _ _ _ _)) h cq rfl (by first|exact aR _|exact aM _ _) rfl ?_;intro f h
    refine bf h rfl rfl rfl ?_
    refine ao h (aq ce (h.ev rfl)) rfl ?_;intro f h
    refine bf h rfl rfl rfl ?_
    refine bg (bq.subL (bq.of_own s 3 rfl) 1 32 (D:=bD (_)) (co _)) h cq rfl (by first|exact aR _|exact aM _ _) rfl ?_;intro f h
    refine bf h rfl rfl rfl ?_
    refine ao h (aE (.bool true) (dM gY (h.ev rfl) (h.ev rfl)) (congrArg Value.bool e1)) rfl ?_;intro f h
    refine ao h (aL (h.ev rfl) (h.ev rfl)) rfl ?_;intro f h
    refine cn s fun w1 s=>?_
    refine ai ?_
    refine hK5 _ _ ?_
    refine wpIn_cond_true (h.ev rfl) ?_
    refine ak fun K9 hK9=>?_
    refine ag ?_
    refine bk 2 h s eU rfl rfl rfl (by simp) (rfl) ?_;intro w1 s
    refine ai ?_
    refine hK9 _ _ ?_
    refine wpIn_ret ?_
    refine a8 ?_
    refine bT ?_
    have hb9:kK L m d9=true:=BE e1
    replace s:=s.recell (D:=#[.bool (lq (kK L m) (d9+1))]) 2 rfl (by show #[Value.bool true]=#[Value.bool (kK L m d9)];rw [hb9])
    refine ⟨BE e1,_,rfl,s.pick _ ?_⟩
    exact List.Sublist.cons_cons _ (List.Sublist.refl _)
  ·skip
   refine bG 18 [[],[0],[0,1],[0,1,2],[0,1,2,3],[],[5],[0,1,2,3,4,5,6],[0,1,2,3,4,5,6,7],[0,1,2,3,4,5,6,7,8],[0,1,2,3,4,5,6,7,8,9],[0,1,2,3,4,5,6,7,8,9,10],[0,1,2,3,4,5,6,7,8,9,10,11],[0,1,2,3,4,5,6,7,8,9,10,11,12],[0,1,2,3,4,5,6,7,8],[0,1,2,3,4,5,6,7,8,14],[0,1,2,3,4,5,6,7,8,9,10,11,12,13,14,15],[0,1,2,3,4,5,6,7,8,9,10,11,12,13,14,15,16]] h (by kernel_rfl) (by kernel_rfl) (by kernel_rfl) ?_
   refine ao h (ah (h.ev rfl)) rfl ?_;intro f h
   refine ao h (aZ (h.ev rfl)) rfl ?_;intro f h
   refine ao h (bB bA (h.ev rfl) ((hO.1.keep s.ext).some (by omega))) rfl ?_;intro f h
   refine ao h (bB aP (h.ev rfl) ((hO.1.keep s.ext).some (by omega))) rfl ?_;intro f h
   refine bz (V:=.int .i64 (L.getD d9 z3).1.me.1) (dq (hO.1.keep s.ext) (d9*68+0) (m8 L d9 hdl9)) h bV rfl rfl ?_;intro f h
   refine ao h (aq aP (h.ev rfl)) rfl ?_;intro f h
   refine bz (ax (bq.of_own s 3 rfl) 0 (aV _)) h bV rfl rfl ?_;intro f h
   refine ao h (aE (.bool true) (cb (h.ev rfl) (h.ev rfl)) (congrArg Value.bool e0)) rfl ?_;intro f h
   refine ao h (ah (h.ev rfl)) rfl ?_;intro f h
   refine ba (b:=false) h rfl rfl rfl rfl ?_;intro f h
   refine ba (b:=false) h rfl rfl rfl rfl ?_;intro f h
   refine ba (b:=false) h rfl rfl rfl rfl ?_;intro f h
   refine ba (b:=false) h rfl rfl rfl rfl ?_;intro f h
   refine ba (b:=false) h rfl rfl rfl rfl ?_;intro f h
   refine ba (b:=false) h rfl rfl rfl rfl ?_;intro f h
   refine ba (b:=false) h rfl rfl rfl rfl ?_;intro f h
   refine ba (b:=false) h rfl rfl rfl rfl ?_;intro f h
   refine ao h (aO (h.ev rfl) (h.ev rfl)) rfl ?_;intro f h
   refine cn s fun w1 s=>?_
   refine ai ?_
   refine hK5 _ _ ?_
   refine wpIn_cond_true (h.ev rfl) ?_
   refine ak fun K10 hK10=>?_
   refine ag ?_
   refine bk 2 h s eU rfl rfl rfl (by simp) (rfl) ?_;intro w1 s
   refine ai ?_
   refine hK10 _ _ ?_
   refine wpIn_ret ?_
   refine a8 ?_
   refine bT ?_
   have hb9:kK L m d9=true:=Bj e0
   replace s:=s.recell (D:=#[.bool (lq (kK L m) (d9+1))]) 2 rfl (by show #[Value.bool true]=#[Value.bool (kK L m d9)];rw [hb9])
   refine ⟨Bj e0,_,rfl,s.pick _ ?_⟩
   exact List.Sublist.cons_cons _ (List.Sublist.refl _)
 ·intro D9 A9 w2 hJ9 hq9 s
  obtain rfl:=hJ9
  replace h:Sl _ {f with defers:={target:=.collected D9,args:=#[]}::f.defers} _ [{target:=.collected D9,args:=#[]}]:=⟨h.size,by rw [h.defers],h.holds⟩
  refine bH ?_
  refine hK2 _ _ ?_
  refine ak fun K11 hK11=>?_
  refine ag ?_
  refine bk 2 h s eU rfl rfl rfl (by simp) (rfl) ?_;intro w1 s
  refine ai ?_
  refine hK11 _ _ ?_
  refine wpIn_ret ?_
  exact eM 2 0 rfl h s eU rfl rfl rfl rfl rfl (fun w9=>(congrArg Value.bool (Ct (Nat.le_refl _) hq9)).symm)
 ·intro D9 d9 A9 w2 hd9 hqd9 hq9 hJ9 s
  obtain rfl:=hJ9
  replace h:Sl _ {f with defers:={target:=.collected D9,args:=#[]}::f.defers} _ [{target:=.collected D9,args:=#[]}]:=⟨h.size,by rw [h.defers],h.holds⟩
  refine bT ?_
  refine a8 ?_
  exact eM 2 0 rfl h s eU rfl rfl rfl rfl rfl (fun w9=>congrArg Value.bool (hqd9.trans (CK hd9 hqd9).symm))
theorem sg (x y:N3) (w:World):Calls Tryz.prog 38 [.agg (au x.1.me x.1.pr x.2.1 x.2.2),.agg (au y.1.me y.1.pr y.2.1 y.2.2)].toArray w (cO w (is (.int .i64 (dN x.1.me.1 y.1.me.1)))):=by
 refine bh Tryz.func38 rfl Tryz.ntmps38 rfl [(0,.agg (au x.1.me x.1.pr x.2.1 x.2.2)),(1,.agg (au y.1.me y.1.pr y.2.1 y.2.2))] (by simp) fun f h=>?_
 have s:=St.start w
 refine ak fun K1 hK1=>?_
 refine ag ?_
 refine bR (au x.1.me x.1.pr x.2.1 x.2.2) h s rfl rfl rfl ?_;intro f w1 b2 h s
 refine bR (au y.1.me y.1.pr y.2.1 y.2.2) h s rfl rfl rfl ?_;intro f w1 b3 h s
 refine ac h (aj (h.ev rfl)) rfl ?_;intro f h
 refine ai ?_
 refine hK1 _ _ ?_
 refine ak fun K2 hK2=>?_
 refine ag ?_
 refine ac h (aq bA (h.ev rfl)) rfl ?_;intro f h
 refine aI (bq.subL (bq.of_own s 1 rfl) 0 33 (D:=av x.1.me) (bZ _ _ _ _)) h aJ rfl (al _) rfl ?_;intro f h
 refine ac h (aq bA (h.ev rfl)) rfl ?_;intro f h
 refine aI (bq.subL (bq.of_own s 0 rfl) 0 33 (D:=av y.1.me) (bZ _ _ _ _)) h aJ rfl (al _) rfl ?_;intro f h
 refine aK h s uR (lJ _ _ _) rfl rfl ?_;intro f w1 v9 hT hE h s;obtain rfl:=hT
 refine ac h (aj (h.ev rfl)) rfl ?_;intro f h
 refine ai ?_
 refine hK2 _ _ ?_
 refine wpIn_ret ?_
 exact bu rfl h s rfl (rfl)
theorem pa (L:List N3) (hL:L.length≤1000) (ho:∀ x∈L,x.2.1.oneCell'=true∧x.2.2.oneCell'=true) (hd:L.Pairwise fun a b=>a.1.me.1≠b.1.me.1) (v:Value) (B9:List Own) (w0 w:World) (s:St w0 (.sl v 42 68 L.length (aD L)::B9) w):
 Calls Tryz.prog 37 [v,.func (.func 38) #[] #[]].toArray w (fun e w'=>∃ r,e=.returned r∧∃ K:List N3,K.Perm L∧(K.Pairwise fun a b=>a.1.me.1<b.1.me.1)∧St w0 (.sl v 42 68 K.length (aD K)::B9) w'):=by
 by_cases h0:L.length=0
 ·have hl:L=[]:=List.eq_nil_of_length_eq_zero h0
  subst hl
  obtain ⟨a,c,rfl⟩:=dK (s.getSl 0 rfl)
  refine(Go.Proofs.AnyF.slices_SortFunc_none (P:=Tryz.prog) (ρ:=Tryz.layN_ren) Tryz.layN a c (.func (.func 38) #[] #[]) w).mono ?_
  rintro e w' ⟨rfl,rfl⟩
  exact ⟨_,rfl,[],List.Perm.refl _,List.Pairwise.nil,s⟩
 ·obtain ⟨l,hl⟩:∃ l,l=Aw L ho:=⟨_,rfl⟩
  have hm:l.map (·.1)=L:=by rw [hl];exact pF L ho
  have hln:l.length=L.length:=by rw [hl];exact vj L ho
  have hc:aD L=fe l:=by rw [l6,hm]
  rw [hc,← hln] at s
  obtain ⟨g,cap,rfl,hlt,hgo,hH,hst⟩:=uP s rfl (by omega)
  have hcon:=Go.Proofs.AnyQ.slices_SortFunc (P:=Tryz.prog) (ρ:=Tryz.layN_ren) Tryz.layN 68 Tryz.isAgg42 Tryz.sizeOf42 mb k7 tW (fun x y:kQ=>dN x.1.1.me.1 y.1.1.me.1) wn 38 #[] g 0 cap l.toArray w (enters_of Tryz.func38 (by kernel_rfl) rfl) (fun m os dk _ x y=>by
   have h9:=sg x.1 y.1 (Go.Proofs.sortWorldK mb 68 w g 0 m dk os)
   refine h9.mono ?_
   rintro e w' ⟨v,rfl,hv,hE⟩
   obtain rfl:=hv
   exact ⟨rfl,rM hE⟩) hH hlt (by rw [List.size_toArray];omega)
  refine hcon.mono ?_
  rintro e w' ⟨rfl,d',n,os,hp,hs,rfl⟩
  have hsz:d'.size=l.length:=by rw [hp.1,List.size_toArray]
  have s2:=hst n os d' hsz
  obtain ⟨h1,h2⟩:=sY (l:=l) (by rw [← hm] at hd;exact vi.1 hd) hp hs
  have hKl:(d'.toList.map (·.1)).length=l.length:=by rw [List.length_map,Array.length_toList,hsz]
  refine ⟨_,rfl,d'.toList.map (·.1),?_,vi.2 h2,?_⟩
  ·rw [← hm];exact h1.map _
  ·rw [l6] at s2;rw [hKl];exact s2
theorem mA (m:Mb) (w:World):Calls Tryz.prog 33 [.agg (av m)].toArray w (cO w (pY w 28 (CB m) (Cn m))):=by
 refine bh Tryz.func33 rfl Tryz.ntmps33 rfl [(0,.agg (av m))] (by simp) fun f h=>?_
 have s:=St.start w
 refine ak fun K1 hK1=>?_
 refine ag ?_
 refine bR ((av m)) h s rfl rfl rfl ?_;intro f w1 b1 h s
 refine bi (au ap ap aU aU) h s ei rfl rfl ?_;intro f w1 b2 h s
 refine ac h (aj (h.ev rfl)) rfl ?_;intro f h
 refine ai ?_
 refine hK1 _ _ ?_
 refine ak fun K2 hK2=>?_
 refine ak fun K3 hK3=>?_
 cases h0:(dI m:Bool)
 ·skip
  refine ag ?_
  refine ay 1 h s aJ rfl rfl (al _) rfl ?_;intro f h
  refine aK h s fJ (aT (.bool false) (di m _) (congrArg Value.bool h0)) rfl rfl ?_;intro f w1 v9 hT hE h s;obtain rfl:=hT
  refine ac h (aE (.bool true) (bI (h.ev rfl)) rfl) rfl ?_;intro f h
  refine ai ?_
  refine hK3 _ _ ?_
  refine wpIn_cond_true (h.ev rfl) ?_
  refine ak fun K4 hK4=>?_
  refine ag ?_
  refine ac h (d3 pP) rfl ?_;intro f h
  refine aA 0 h s bw rfl rfl rfl (aw _ _ _ _) (aw _ _ _ _) (br (rfl) (rfl)) ?_;intro w1 s
  refine ac h (aj (h.ev rfl)) rfl ?_;intro f h
  refine ai ?_
  refine hK4 _ _ ?_
  refine wpIn_ret ?_
  refine a8 ?_
  exact bS 0 rfl h s bw rfl rfl (aw _ _ _ _) rfl (jR s (oM h0).1 (oM h0).2)
 ·skip
  refine ag ?_
  refine ay 1 h s aJ rfl rfl (al _) rfl ?_;intro f h
  refine aK h s fJ (aT (.bool true) (di m _) (congrArg Value.bool h0)) rfl rfl ?_;intro f w1 v9 hT hE h s;obtain rfl:=hT
  refine ac h (aE (.bool false) (bI (h.ev rfl)) rfl) rfl ?_;intro f h
  refine ai ?_
  refine hK3 _ _ ?_
  refine wpIn_cond_false (h.ev rfl) ?_
  refine wpIn_skip ?_
  refine hK2 _ _ ?_
  refine ak fun K5 hK5=>?_
  refine qH 0 5 [[],[],[],[2],[0,1,2,3],[0,1,2,3,4],[0,1,2,3,4,5]] [[],[],[],[],[],[],[]] [fun _=>[],fun _=>[],fun _=>[],fun v=>[.sl (v 3) 28 33 [m].length (am [m])],fun _=>[],fun _=>[],fun _=>[]] [] [fun v=>v 0=.agg ((av m)),fun v=>v 1=.agg (av c4),fun v=>v 2=.agg ((av m)),fun v=>∃ a c,v 3=.slice a [m].length c,fun v=>v 4=.agg (au m c4 (v 3) aU),fun _=>True,fun _=>True] [.blk b2 (.cells (au ap ap aU aU) 42),.blk b1 (.cells ((av m)) 28)] h s rfl (by kernel_rfl) (by kernel_rfl) (by kernel_rfl) (And.intro ?_ (And.intro ?_ (And.intro ?_ (And.intro ?_ (And.intro ?_ (trivial)))))) [0,1,2,3,4] (by kernel_rfl) ?_
  ·intro f9 w2 vl3 E9 hs9 hd9 hl hF s
   have e1:f9.tmps.getD 1 undef=_:=cK hl 1 (by kernel_rfl) (by kernel_rfl) (h.holds 1 _ rfl)
   have h:=aB [(1,_)] (hs9.trans h.size) (hd9.trans h.defers) (holds_lk ⟨e1,trivial⟩)
   replace s:St w (.blk b2 (.cells (au ap ap aU aU) 42)::.blk b1 (.cells ((av m)) 28)::E9) _:=s
   refine ay 1 h s aJ rfl rfl (al _) rfl ?_;intro f h
   exact ai ⟨_,a6 8 rfl (h.holds 8 _ rfl),rfl,s⟩
  ·intro f9 w2 vl3 E9 hs9 hd9 hl hF s
   have h:=aB [] (hs9.trans h.size) (hd9.trans h.defers) (holds_lk trivial)
   replace s:St w (.blk b2 (.cells (au ap ap aU aU) 42)::.blk b1 (.cells ((av m)) 28)::E9) _:=s
   refine aK h s fA (dh _) rfl rfl ?_;intro f w1 v9 hT hE h s;obtain rfl:=hT
   exact ai ⟨_,a6 9 rfl (h.holds 9 _ rfl),rfl,s⟩
  ·intro f9 w2 vl3 E9 hs9 hd9 hl hF s
   have e1:f9.tmps.getD 1 undef=_:=cK hl 1 (by kernel_rfl) (by kernel_rfl) (h.holds 1 _ rfl)
   have h:=aB [(1,_)] (hs9.trans h.size) (hd9.trans h.defers) (holds_lk ⟨e1,trivial⟩)
   replace s:St w (.blk b2 (.cells (au ap ap aU aU) 42)::.blk b1 (.cells ((av m)) 28)::E9) _:=s
   refine ay 1 h s aJ rfl rfl (al _) rfl ?_;intro f h
   exact ai ⟨_,a6 10 rfl (h.holds 10 _ rfl),rfl,s⟩
  ·intro f9 w2 vl3 E9 hs9 hd9 hl hF s
   have e10:f9.tmps.getD 10 undef=.agg ((av m)):=(bc hl 10 2 (by kernel_rfl) (by kernel_rfl)).trans (hF 2 (by decide))
   have h:=aB [(10,.agg ((av m)))] (hs9.trans h.size) (hd9.trans h.defers) (holds_lk ⟨e10,trivial⟩)
   replace s:St w (.blk b2 (.cells (au ap ap aU aU) 42)::.blk b1 (.cells ((av m)) 28)::E9) _:=s
   refine cW (vs:=[.agg (av m)]) [.tmp 10] h s Tryz.underlying36 dY rfl rfl (jb _) rfl rfl rfl ?_;intro f w1 v11 h s
   replace s:=s.resl (m:=[m].length) (ys:=am [m]) 0 rfl rfl (by rw [eY,dU])
   exact ai ⟨_,a6 11 rfl (h.holds 11 _ rfl),dK (s.getSl 0 rfl),s⟩
  ·intro f9 w2 vl3 E9 hs9 hd9 hl hF s
   have e8:f9.tmps.getD 8 undef=.agg ((av m)):=(bc hl 8 0 (by kernel_rfl) (by kernel_rfl)).trans (hF 0 (by decide))
   have e9:f9.tmps.getD 9 undef=.agg (av c4):=(bc hl 9 1 (by kernel_rfl) (by kernel_rfl)).trans (hF 1 (by decide))
   have e11:f9.tmps.getD 11 undef=(vl3 3):=bc hl 11 3 (by kernel_rfl) (by kernel_rfl)
   have h:=aB [(8,.agg ((av m))),(9,.agg (av c4)),(11,(vl3 3))] (hs9.trans h.size) (hd9.trans h.defers) (holds_lk ⟨e8,e9,e11,trivial⟩)
   replace s:St w (.blk b2 (.cells (au ap ap aU aU) 42)::.blk b1 (.cells ((av m)) 28)::E9) _:=s
   obtain ⟨a9,c9,hv9⟩:=hF 3 (by decide)
   refine ac h (oh pP (by rw [show vl3 3=_ from hv9];rfl) (by rw [show vl3 3=_ from hv9];rfl) (h.ev rfl) (h.ev rfl) (h.ev rfl)) rfl ?_;intro f h
   exact ai ⟨_,a6 12 rfl (h.holds 12 _ rfl),rfl,s⟩
  intro f w1 vl3 hs9 hd9 hv hr hF s
  replace hv:=fun i d h9=>hv i d (show Nat.blt i 5=true from h9)
  replace h:=qJ 5 (ops:=_) [(8,.agg ((av m))),(9,.agg (av c4)),(10,.agg ((av m))),(11,(vl3 3)),(12,.agg (au m c4 (vl3 3) aU))] h hs9 hd9 hr ⟨(hv 0 8 rfl rfl).trans (hF 0 (by kernel_rfl)),(hv 1 9 rfl rfl).trans (hF 1 (by kernel_rfl)),(hv 2 10 rfl rfl).trans (hF 2 (by kernel_rfl)),hv 3 11 rfl rfl,(hv 4 12 rfl rfl).trans (hF 4 (by kernel_rfl)),trivial⟩ (by kernel_rfl)
  replace s:St w [.sl (vl3 3) 28 33 [m].length (am [m]),.blk b2 (.cells (au ap ap aU aU) 42),.blk b1 (.cells ((av m)) 28)] _:=s
  refine aA 1 h s bw rfl rfl rfl (aw _ _ _ _) (aw _ _ _ _) (br (bo (s.getSl 0 rfl)) (rfl)) ?_;intro w1 s
  refine ac h (aj (h.ev rfl)) rfl ?_;intro f h
  refine ai ?_
  refine hK5 _ _ ?_
  refine wpIn_ret ?_
  exact bS 1 rfl h s bw rfl rfl (aw _ _ _ _) rfl (xM (pI h0).1 (pI h0).2 (s.pick _ (List.Sublist.cons_cons _ (List.Sublist.cons _ (List.Sublist.cons _ (List.nil_sublist _))))))
set_option maxHeartbeats 1000000 in
theorem mS (L:List N3) (vo:Value) (m:Mb) (no:Int) (w:World) (hO:cI w vo L) (hL:L.length≤40) (hb:RwB L):Calls Tryz.prog 8 [.agg #[vo],.agg (av m),.int .i64 no].toArray w (cO w (xH w (fU vo L) (wB L m no) (kN L m no))):=by
 refine bh Tryz.func8 rfl Tryz.ntmps8 rfl [(0,.agg #[vo]),(1,.agg (av m)),(2,.int .i64 no)] (by simp) fun f h=>?_
 have s:=St.start w
 refine ak fun K1 hK1=>?_
 refine ag ?_
 refine bR (#[vo]) h s rfl rfl rfl ?_;intro f w1 b3 h s
 refine bR ((av m)) h s rfl rfl rfl ?_;intro f w1 b4 h s
 refine bi (#[aU]) h s d6 rfl rfl ?_;intro f w1 b6 h s
 refine ac h (aj (h.ev rfl)) rfl ?_;intro f h
 refine ai ?_
 refine hK1 _ _ ?_
 refine ak fun K2 hK2=>?_
 refine ak fun K3 hK3=>?_
 cases r0:(fH L:Bool)
 ·skip
  refine ag ?_
  refine ay 2 h s a7 rfl rfl (rfl) rfl ?_;intro f h
  refine aK h s iE (aT (.bool false) (dn L vo _ (hO.keep s.ext) hL hb) (congrArg Value.bool r0)) rfl rfl ?_;intro f w1 v9 hT hE h s;obtain rfl:=hT
  refine ac h (aE (.bool true) (bI (h.ev rfl)) rfl) rfl ?_;intro f h
  refine ai ?_
  refine hK3 _ _ ?_
  refine wpIn_cond_true (h.ev rfl) ?_
  refine ak fun K4 hK4=>?_
  refine ag ?_
  refine ac h (cw jB) rfl ?_;intro f h
  refine aA 0 h s a7 rfl rfl rfl (rfl) (rfl) (bY (rfl)) ?_;intro w1 s
  refine ac h (aj (h.ev rfl)) rfl ?_;intro f h
  refine ai ?_
  refine hK4 _ _ ?_
  refine wpIn_ret ?_
  refine a8 ?_
  exact bS 0 rfl h s a7 rfl rfl (rfl) rfl (gX s (nt (yO r0)).2 (nt (yO r0)).1)
 ·skip
  refine ag ?_
  refine ay 2 h s a7 rfl rfl (rfl) rfl ?_;intro f h
  refine aK h s iE (aT (.bool true) (dn L vo _ (hO.keep s.ext) hL hb) (congrArg Value.bool r0)) rfl rfl ?_;intro f w1 v9 hT hE h s;obtain rfl:=hT
  refine ac h (aE (.bool false) (bI (h.ev rfl)) rfl) rfl ?_;intro f h
  refine ai ?_
  refine hK3 _ _ ?_
  refine wpIn_cond_false (h.ev rfl) ?_
  refine wpIn_skip ?_
  refine hK2 _ _ ?_
  refine ak fun K5 hK5=>?_
  cases h0:(dI m:Bool)
  ·skip
   refine ag ?_
   refine ay 1 h s aJ rfl rfl (al _) rfl ?_;intro f h
   refine aK h s zc (mA m _) rfl rfl ?_;rintro f w1 v17 ⟨us,uf,rfl,hS⟩ hE h sq;rw [(oM h0).1,(oM h0).2] at h;rw [(oM h0).1] at hS;replace s:=s.add hS;clear hS
   refine ac h (ah (h.ev rfl)) rfl ?_;intro f h
   refine ac h (aW (h.ev rfl) rfl) rfl ?_;intro f h
   refine ac h (aW (h.ev rfl) rfl) rfl ?_;intro f h
   refine bi (au ap ap aU aU) h s ei rfl rfl ?_;intro f w1 b8 h s
   refine aA 0 h s bw rfl rfl rfl (aw _ _ _ _) (aw _ _ _ _) (br (bo (s.getSl 1 rfl)) (bo (s.getSl 2 rfl))) ?_;intro w1 s
   refine ac h (aj (h.ev rfl)) rfl ?_;intro f h
   refine ai ?_
   refine hK5 _ _ ?_
   refine ak fun K6 hK6=>?_
   refine ak fun K7 hK7=>?_
   refine ag ?_
   refine ac h (ah (h.ev rfl)) rfl ?_;intro f h
   refine ac h (aE (.bool true) (cJ (h.ev rfl) (h.ev rfl)) (by rfl)) rfl ?_;intro f h
   refine ai ?_
   refine hK7 _ _ ?_
   refine wpIn_cond_true (h.ev rfl) ?_
   refine ak fun K8 hK8=>?_
   refine ag ?_
   refine ac h (cw jB) rfl ?_;intro f h
   refine ac h (ah (h.ev rfl)) rfl ?_;intro f h
   refine aA 3 h s a7 rfl rfl rfl (rfl) (rfl) (bY (rfl)) ?_;intro w1 s
   refine ac h (aj (h.ev rfl)) rfl ?_;intro f h
   refine ai ?_
   refine hK8 _ _ ?_
   refine wpIn_ret ?_
   refine a8 ?_
   exact bS 3 rfl h s a7 rfl rfl (rfl) rfl (gX s (nt (zp h0)).2 (nt (zp h0)).1)
  ·skip
   refine ag ?_
   refine ay 1 h s aJ rfl rfl (al _) rfl ?_;intro f h
   refine aK h s zc (mA m _) rfl rfl ?_;rintro f w1 v17 ⟨us,uf,rfl,hS⟩ hE h sq;rw [(pI h0).1,(pI h0).2] at h;rw [(pI h0).1] at hS;replace s:=s.add hS;clear hS
   replace s:=s.resl (m:=1) (ys:=am [m]) 0 rfl rfl rfl
   refine ac h (ah (h.ev rfl)) rfl ?_;intro f h
   refine ac h (aW (h.ev rfl) rfl) rfl ?_;intro f h
   refine ac h (aW (h.ev rfl) rfl) rfl ?_;intro f h
   refine bi (au ap ap aU aU) h s ei rfl rfl ?_;intro f w1 b8 h s
   refine aA 0 h s bw rfl rfl rfl (aw _ _ _ _) (aw _ _ _ _) (br (bo (s.getSl 1 rfl)) (bo (s.getSl 2 rfl))) ?_;intro w1 s
   refine ac h (aj (h.ev rfl)) rfl ?_;intro f h
   refine ai ?_
   refine hK5 _ _ ?_
   refine ak fun K9 hK9=>?_
   refine ak fun K10 hK10=>?_
   refine ag ?_
   refine ac h (ah (h.ev rfl)) rfl ?_;intro f h
   refine ac h (aE (.bool false) (cJ (h.ev rfl) (h.ev rfl)) (by rfl)) rfl ?_;intro f h
   refine ai ?_
   refine hK10 _ _ ?_
   refine wpIn_cond_false (h.ev rfl) ?_
   refine wpIn_skip ?_
   refine hK9 _ _ ?_
   refine ak fun K11 hK11=>?_
   refine ak fun K12 hK12=>?_
   cases j0:(sJ L m:Bool)
   ·skip
    refine ag ?_
    have hok:=zx r0 h0
    have hnos:=(ef r0).rs.nos
    refine ay 5 h s a7 rfl rfl (rfl) rfl ?_;intro f h
    refine ay 4 h s aJ rfl rfl (al _) rfl ?_;intro f h
    refine aK h s yQ (aT (.bool false) (mO L vo m _ (hO.keep s.ext) hL hb) (congrArg Value.bool j0)) rfl rfl ?_;intro f w1 v9 hT hE h s;obtain rfl:=hT
    refine ai ?_
    refine hK12 _ _ ?_
    refine wpIn_cond_false (h.ev rfl) ?_
    refine wpIn_skip ?_
    refine hK11 _ _ ?_
    refine ak fun K13 hK13=>?_
    refine ak fun K14 hK14=>?_
    refine ag ?_
    refine ac h (aq ck (h.ev rfl)) rfl ?_;intro f h
    refine aC (V:=vo) (ax (bq.of_own s 5 rfl) 0 rfl) h c3 rfl rfl ?_;intro f h
    refine ac h (bK (hO.1.keep s.ext) Tryz.underlying22 (h.ev rfl)) rfl ?_;intro f h
    refine ac h (f7 (h.ev rfl) (h.ev rfl)) rfl ?_;intro f h
    refine ai ?_
    refine hK14 _ _ ?_
    refine bL h rfl (fun hc=>?_) (fun hc=>?_)
    ·have hl0:0<L.length:=by have:=of_decide_eq_true hc;omega
     refine ak fun K15 hK15=>?_
     cases l0:(bP (ae L) no:Bool)
     ·skip
      refine ag ?_
      refine ay 5 h s a7 rfl rfl (rfl) rfl ?_;intro f h
      refine ac h (ah (h.ev rfl)) rfl ?_;intro f h
      refine aK h s gZ (aT (.pointer none) (dw L vo no _ (hO.keep s.ext) hL) (mE (of_decide_eq_false ((eb hnos).trans l0)))) rfl rfl ?_;intro f w1 v9 hT hE h s;obtain rfl:=hT
      refine ac h (aj (h.ev rfl)) rfl ?_;intro f h
      refine ai ?_
      refine hK15 _ _ ?_
      refine ak fun K16 hK16=>?_
      refine ak fun K17 hK17=>?_
      refine ag ?_
      refine ac h (ah (h.ev rfl)) rfl ?_;intro f h
      refine ac h (aE (.bool true) (fL Tryz.underlying54 (h.ev rfl) (h.ev rfl)) (rfl)) rfl ?_;intro f h
      refine ai ?_
      refine hK17 _ _ ?_
      refine wpIn_cond_true (h.ev rfl) ?_
      refine ak fun K18 hK18=>?_
      refine ag ?_
      refine ac h (cw jB) rfl ?_;intro f h
      refine aA 3 h s a7 rfl rfl rfl (rfl) (rfl) (bY (rfl)) ?_;intro w1 s
      refine ac h (aj (h.ev rfl)) rfl ?_;intro f h
      refine ai ?_
      refine hK18 _ _ ?_
      refine wpIn_ret ?_
      refine a8 ?_
      refine a8 ?_
      exact bS 3 rfl h s a7 rfl rfl (rfl) rfl (gX s ((lI hok).2.trans (zC (zD j0 hl0 l0) (by decide))) ((lI hok).1.trans (zD j0 hl0 l0)))
     ·skip
      refine ag ?_
      refine ay 5 h s a7 rfl rfl (rfl) rfl ?_;intro f h
      refine ac h (ah (h.ev rfl)) rfl ?_;intro f h
      refine aK h s gZ (aT (.pointer (some (aF vo (az L no*68)))) (dw L vo no _ (hO.keep s.ext) hL) (mi (of_decide_eq_true ((eb hnos).trans l0)))) rfl rfl ?_;intro f w1 v9 hT hE h s;obtain rfl:=hT
      refine ac h (aj (h.ev rfl)) rfl ?_;intro f h
      refine ai ?_
      refine hK15 _ _ ?_
      refine ak fun K19 hK19=>?_
      refine ak fun K20 hK20=>?_
      refine ag ?_
      have hix:az L no<L.length:=of_decide_eq_true ((eb hnos).trans l0)
      refine ac h (ah (h.ev rfl)) rfl ?_;intro f h
      refine ac h (aE (.bool false) (fL Tryz.underlying54 (h.ev rfl) (h.ev rfl)) (rfl)) rfl ?_;intro f h
      refine ai ?_
      refine hK20 _ _ ?_
      refine wpIn_cond_false (h.ev rfl) ?_
      refine wpIn_skip ?_
      refine hK19 _ _ ?_
      refine bG 7 [[],[0],[],[2],[2,3],[2,3,4],[0,1,2,3,4,5]] h (by kernel_rfl) (by kernel_rfl) (by kernel_rfl) ?_
      refine ao h (aq cC (h.ev rfl)) rfl ?_;intro f h
      refine bz (V:=us) (ax (bq.of_own s 0 rfl) 66 (c7 _ _ _ _)) h cf rfl rfl ?_;intro f h
      refine ao h (ah (h.ev rfl)) rfl ?_;intro f h
      refine ao h (aZ (h.ev rfl)) rfl ?_;intro f h
      refine ao h (bB bA (h.ev rfl) ((hO.1.keep s.ext).some (by omega))) rfl ?_;intro f h
      refine bg (bO.elF (hO.1.keep s.ext) (az L no) 0 33 (by omega) (by decide) (C:=au (L.getD (az L no) z3).1.me (L.getD (az L no) z3).1.pr (L.getD (az L no) z3).2.1 (L.getD (az L no) z3).2.2) (cR L _ hix) (D:=av (L.getD (az L no) z3).1.me) (bZ _ _ _ _)) h aJ rfl (al _) rfl ?_;intro f h
      refine ao h (bU (bO.of_own (s.getSl 1 rfl)) (0) Tryz.underlying36 cA (h.ev rfl) (h.ev rfl) (by omega) (by omega)) rfl ?_;intro f h
      refine cn s fun w1 s=>?_
      refine dH 1 (0) h s aJ rfl rfl rfl (al _) (by omega) (aX _) (show _=am [(L.getD (az L no) z3).1.me] from qp (l:=[m]) _ Nat.zero_lt_one) ?_;intro w1 s
      refine ai ?_
      refine hK13 _ _ ?_
      refine ak fun K21 hK21=>?_
      refine ag ?_
      refine ay 5 h s a7 rfl rfl (rfl) rfl ?_;intro f h
      refine aK h s ra (fC L vo _ (hO.keep s.ext) hL hb) rfl rfl ?_;rintro f w1 v46 ⟨vq,K,ks,rfl,hnk,hS⟩ hE h sq;replace s:=s.add hS;clear hS
      have hlk:K.length=L.length:=by have h9:=congrArg List.length hnk;simpa [nds] using h9
      refine aA 7 h s a7 rfl rfl rfl (rfl) (rfl) (bY (bo (s.getSl 0 rfl))) ?_;intro w1 s
      refine ai ?_
      refine hK21 _ _ ?_
      refine ak fun K22 hK22=>?_
      refine ag ?_
      refine ac h (aq ck (h.ev rfl)) rfl ?_;intro f h
      refine aC (V:=vq) (ax (bq.of_own s 7 rfl) 0 rfl) h c3 rfl rfl ?_;intro f h
      refine ay 2 h s bw rfl rfl (aw _ _ _ _) rfl ?_;intro f h
      have ho1:=bo (s.getSl 3 rfl)
      have ho2:=bo (s.getSl 4 rfl)
      refine cW (vs:=[.agg (au m c4 us uf)]) [.tmp 49] h s Tryz.underlying22 iw rfl rfl (kZ ((⟨m,c4,[(L.getD (az L no) z3).1.me],[]⟩,us,uf):N3)) rfl rfl rfl ?_;intro f w1 v50 h s
      replace s:=s.resl (m:=1) (ys:=mw ((⟨m,c4,[(L.getD (az L no) z3).1.me],[]⟩,us,uf):N3)) 0 rfl rfl (lQ ((⟨m,c4,[(L.getD (az L no) z3).1.me],[]⟩,us,uf):N3))
      refine eR 1 0 h s Tryz.underlying22 iw rfl rfl rfl rfl (by decide) (br ho1 ho2) (by unfold maxLen;omega) (by omega) rfl ?_;intro f w1 v51 h s
      replace s:=s.pick _ (List.sublist_cons_self _ _)
      replace s:=s.resl (m:=(K++[((⟨m,c4,[(L.getD (az L no) z3).1.me],[]⟩,us,uf):N3)]).length) (ys:=aD (K++[((⟨m,c4,[(L.getD (az L no) z3).1.me],[]⟩,us,uf):N3)])) 0 rfl (by rw [List.length_append];rfl) (kU _ _)
      refine ac h (aq ck (h.ev rfl)) rfl ?_;intro f h
      refine bk 7 h s c3 rfl rfl rfl (by show 0<1;decide) (bo (s.getSl 0 rfl)) ?_;intro w1 s
      replace s:=s.recell (D:=#[v51]) 7 rfl rfl
      refine ai ?_
      refine hK22 _ _ ?_
      refine ak fun K23 hK23=>?_
      refine ag ?_
      refine ac h (aq ck (h.ev rfl)) rfl ?_;intro f h
      refine aC (V:=v51) (ax (bq.of_own s 7 rfl) 0 rfl) h c3 rfl rfl ?_;intro f h
      have hrs:=(ef r0).rs
      have ho9:∀ y∈K++[((⟨m,c4,[(L.getD (az L no) z3).1.me],[]⟩,us,uf):N3)],y.2.1.oneCell'=true∧y.2.2.oneCell'=true:=fun y hy=>by rcases List.mem_append.1 hy with hy|hy;exact(s.getG 1 rfl y hy).ones;rw [List.mem_singleton] at hy;subst hy;exact ⟨ho1,ho2⟩
      refine cV [v51,.func (.func 38) #[] #[]] h yT (pa (K++[((⟨m,c4,[(L.getD (az L no) z3).1.me],[]⟩,us,uf):N3)]) (by rw [List.length_append];show K.length+1≤1000;omega) ho9 (rg hrs j0 hnk rfl) v51 _ _ _ s) rfl rfl ?_;rintro f w1 r ⟨K2,hkp,hks,s⟩ h
      replace s:=s.bring 1 rfl
      replace s:=s.bring 4 rfl
      replace s:=s.bring 4 rfl
      replace s:St w [.sl us 28 33 1 (am [(L.getD (az L no) z3).1.me]),.sl uf 28 33 ([]:List Mb).length (am []),(.grp ks (cD K)),.sl v51 42 68 K2.length (aD K2),.blk b8 (.cells (au m c4 us uf) 42),.blk b6 (.cells (#[aU]) 24),.blk b4 (.cells ((av m)) 28),.blk b3 (.cells (#[v51]) 24)] _:=s
      obtain ⟨kn,s⟩:=s.grpR (S':=cD K2) (fun w9 h1 h2 h3 y hy=>by rcases List.mem_append.1 (hkp.mem_iff.1 hy) with hy|hy;exact h3 y hy;rw [List.mem_singleton] at hy;subst hy;exact ⟨h1,h2⟩)
      refine ai ?_
      refine hK23 _ _ ?_
      refine ak fun K24 hK24=>?_
      refine ag ?_
      refine ay 5 h s a7 rfl rfl (rfl) rfl ?_;intro f h
      refine aA 3 h s a7 rfl rfl rfl (rfl) (rfl) (bY (bo (s.getSl 1 rfl))) ?_;intro w1 s
      refine ac h (aj (h.ev rfl)) rfl ?_;intro f h
      refine ai ?_
      refine hK24 _ _ ?_
      refine wpIn_ret ?_
      exact bS 3 rfl h s a7 rfl rfl (rfl) rfl (lu ((lI hok).1.trans (wq j0 (.inr l0))) (oH (tV hok hrs j0 (wq j0 (.inr l0)) hnk (by rw [DA hl0,← (lW hix).1]) hkp hks) (s.sel [1,0] rfl (by decide))))
    ·have hl0:¬ 0<L.length:=by have:=of_decide_eq_false hc;omega
     refine wpIn_skip ?_
     refine hK13 _ _ ?_
     refine ak fun K25 hK25=>?_
     refine ag ?_
     refine ay 5 h s a7 rfl rfl (rfl) rfl ?_;intro f h
     refine aK h s ra (fC L vo _ (hO.keep s.ext) hL hb) rfl rfl ?_;rintro f w1 v46 ⟨vq,K,ks,rfl,hnk,hS⟩ hE h sq;replace s:=s.add hS;clear hS
     have hlk:K.length=L.length:=by have h9:=congrArg List.length hnk;simpa [nds] using h9
     refine aA 7 h s a7 rfl rfl rfl (rfl) (rfl) (bY (bo (s.getSl 0 rfl))) ?_;intro w1 s
     refine ai ?_
     refine hK25 _ _ ?_
     refine ak fun K26 hK26=>?_
     refine ag ?_
     refine ac h (aq ck (h.ev rfl)) rfl ?_;intro f h
     refine aC (V:=vq) (ax (bq.of_own s 7 rfl) 0 rfl) h c3 rfl rfl ?_;intro f h
     refine ay 2 h s bw rfl rfl (aw _ _ _ _) rfl ?_;intro f h
     have ho1:=bo (s.getSl 3 rfl)
     have ho2:=bo (s.getSl 4 rfl)
     refine cW (vs:=[.agg (au m c4 us uf)]) [.tmp 49] h s Tryz.underlying22 iw rfl rfl (kZ ((⟨m,c4,[m],[]⟩,us,uf):N3)) rfl rfl rfl ?_;intro f w1 v50 h s
     replace s:=s.resl (m:=1) (ys:=mw ((⟨m,c4,[m],[]⟩,us,uf):N3)) 0 rfl rfl (lQ ((⟨m,c4,[m],[]⟩,us,uf):N3))
     refine eR 1 0 h s Tryz.underlying22 iw rfl rfl rfl rfl (by decide) (br ho1 ho2) (by unfold maxLen;omega) (by omega) rfl ?_;intro f w1 v51 h s
     replace s:=s.pick _ (List.sublist_cons_self _ _)
     replace s:=s.resl (m:=(K++[((⟨m,c4,[m],[]⟩,us,uf):N3)]).length) (ys:=aD (K++[((⟨m,c4,[m],[]⟩,us,uf):N3)])) 0 rfl (by rw [List.length_append];rfl) (kU _ _)
     refine ac h (aq ck (h.ev rfl)) rfl ?_;intro f h
     refine bk 7 h s c3 rfl rfl rfl (by show 0<1;decide) (bo (s.getSl 0 rfl)) ?_;intro w1 s
     replace s:=s.recell (D:=#[v51]) 7 rfl rfl
     refine ai ?_
     refine hK26 _ _ ?_
     refine ak fun K27 hK27=>?_
     refine ag ?_
     refine ac h (aq ck (h.ev rfl)) rfl ?_;intro f h
     refine aC (V:=v51) (ax (bq.of_own s 7 rfl) 0 rfl) h c3 rfl rfl ?_;intro f h
     have hrs:=(ef r0).rs
     have ho9:∀ y∈K++[((⟨m,c4,[m],[]⟩,us,uf):N3)],y.2.1.oneCell'=true∧y.2.2.oneCell'=true:=fun y hy=>by rcases List.mem_append.1 hy with hy|hy;exact(s.getG 1 rfl y hy).ones;rw [List.mem_singleton] at hy;subst hy;exact ⟨ho1,ho2⟩
     refine cV [v51,.func (.func 38) #[] #[]] h yT (pa (K++[((⟨m,c4,[m],[]⟩,us,uf):N3)]) (by rw [List.length_append];show K.length+1≤1000;omega) ho9 (rg hrs j0 hnk rfl) v51 _ _ _ s) rfl rfl ?_;rintro f w1 r ⟨K2,hkp,hks,s⟩ h
     replace s:=s.bring 1 rfl
     replace s:=s.bring 4 rfl
     replace s:=s.bring 4 rfl
     replace s:St w [.sl us 28 33 1 (am [m]),.sl uf 28 33 ([]:List Mb).length (am []),(.grp ks (cD K)),.sl v51 42 68 K2.length (aD K2),.blk b8 (.cells (au m c4 us uf) 42),.blk b6 (.cells (#[aU]) 24),.blk b4 (.cells ((av m)) 28),.blk b3 (.cells (#[v51]) 24)] _:=s
     obtain ⟨kn,s⟩:=s.grpR (S':=cD K2) (fun w9 h1 h2 h3 y hy=>by rcases List.mem_append.1 (hkp.mem_iff.1 hy) with hy|hy;exact h3 y hy;rw [List.mem_singleton] at hy;subst hy;exact ⟨h1,h2⟩)
     refine ai ?_
     refine hK27 _ _ ?_
     refine ak fun K28 hK28=>?_
     refine ag ?_
     refine ay 5 h s a7 rfl rfl (rfl) rfl ?_;intro f h
     refine aA 3 h s a7 rfl rfl rfl (rfl) (rfl) (bY (bo (s.getSl 1 rfl))) ?_;intro w1 s
     refine ac h (aj (h.ev rfl)) rfl ?_;intro f h
     refine ai ?_
     refine hK28 _ _ ?_
     refine wpIn_ret ?_
     exact bS 3 rfl h s a7 rfl rfl (rfl) rfl (lu ((lI hok).1.trans (wq j0 (.inl hl0))) (oH (tV hok hrs j0 (wq j0 (.inl hl0)) hnk (by rw [Dg hl0]) hkp hks) (s.sel [1,0] rfl (by decide))))
   ·skip
    refine ag ?_
    have hok:=zx r0 h0
    have hnos:=(ef r0).rs.nos
    refine ay 5 h s a7 rfl rfl (rfl) rfl ?_;intro f h
    refine ay 4 h s aJ rfl rfl (al _) rfl ?_;intro f h
    refine aK h s yQ (aT (.bool true) (mO L vo m _ (hO.keep s.ext) hL hb) (congrArg Value.bool j0)) rfl rfl ?_;intro f w1 v9 hT hE h s;obtain rfl:=hT
    refine ai ?_
    refine hK12 _ _ ?_
    refine wpIn_cond_true (h.ev rfl) ?_
    refine ak fun K29 hK29=>?_
    refine ag ?_
    refine ac h (cw jB) rfl ?_;intro f h
    refine aA 3 h s a7 rfl rfl rfl (rfl) (rfl) (bY (rfl)) ?_;intro w1 s
    refine ac h (aj (h.ev rfl)) rfl ?_;intro f h
    refine ai ?_
    refine hK29 _ _ ?_
    refine wpIn_ret ?_
    refine a8 ?_
    exact bS 3 rfl h s a7 rfl rfl (rfl) rfl (gX s ((lI hok).2.trans (zC (BP j0) (by decide))) ((lI hok).1.trans (BP j0)))
end Go.Proofs.YthggibfkgofncaaGreat
