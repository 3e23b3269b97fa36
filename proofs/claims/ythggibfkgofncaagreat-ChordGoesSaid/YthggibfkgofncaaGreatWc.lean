/- Overlays, copied; an overlay opened; who is taken; what Join of package chord answers. -/
import Derived.Test.YthggibfkgofncaaGreatWa
import Derived.Test.YthggibfkgofncaaGreatSn
set_option linter.unusedVariables false
set_option linter.unusedSimpArgs false
set_option linter.unusedSectionVars false
namespace Go.Proofs.YthggibfkgofncaaGreat
open Go.RowKit
theorem sP (L:List N3) (hL:L.length≤1000) (a9:Option Addr) (n9 c9:Nat) (w:World) (hR:bX w (.slice a9 n9 c9) 68 L.length (aG L)) (ho:∀ x∈L,f4 w x):Calls Tryz.prog 70 [.slice a9 n9 c9].toArray w (cU w (fun v w'=>cS w' w.heap.size 42 68 v L.length (aG L))):=by
 refine bq Tryz.func70 rfl Tryz.ntmps70 rfl [(0,.slice a9 n9 c9)] (by simp) fun f h=>?_
 have s:=St.start w
 refine al fun K1 hK1=>?_
 refine ae ?_
 refine ac h (ak (h.ev rfl)) rfl ?_;intro f h
 refine ah ?_
 refine hK1 _ _ ?_
 refine al fun K2 hK2=>?_
 refine al fun K3 hK3=>?_
 cases hn:(a9.isNone:Bool)
 ·skip
  refine ae ?_
  refine ac h (ag (h.ev rfl)) rfl ?_;intro f h
  refine ac h (aw (.bool false) (fM Tryz.underlying22 (h.ev rfl) (h.ev rfl)) (congrArg Value.bool hn)) rfl ?_;intro f h
  refine ah ?_
  refine hK3 _ _ ?_
  refine wpIn_cond_false (h.ev rfl) ?_
  refine wpIn_skip ?_
  refine hK2 _ _ ?_
  refine al fun K4 hK4=>?_
  refine ae ?_
  refine mU (base:=w.heap.size) h Tryz.underlying22 gY (Nat.le_refl _) rfl ?_;intro f w2 v5 h hE3 e5
  refine ac h (ag (h.ev rfl)) rfl ?_;intro f h
  refine jN (base:=w.heap.size) e5 (hR.keep hE3) h Tryz.underlying22 gY rfl rfl hE3.le (oD ho) (by unfold maxLen;omega) (by omega) rfl ?_;intro f w3 v7 h hE4 e7
  replace s:=s.sl_new (hE3.trans hE4) e7
  refine ac h (ak (h.ev rfl)) rfl ?_;intro f h
  refine ah ?_
  refine hK4 _ _ ?_
  refine wpIn_ret ?_
  exact bo rfl h s rfl (s.getSl 0 rfl)
 ·skip
  refine ae ?_
  refine ac h (ag (h.ev rfl)) rfl ?_;intro f h
  refine ac h (aw (.bool true) (fM Tryz.underlying22 (h.ev rfl) (h.ev rfl)) (congrArg Value.bool hn)) rfl ?_;intro f h
  refine ah ?_
  refine hK3 _ _ ?_
  refine wpIn_cond_true (h.ev rfl) ?_
  refine al fun K5 hK5=>?_
  refine ae ?_
  refine ac h (ak (h.ev rfl)) rfl ?_;intro f h
  refine ah ?_
  refine hK5 _ _ ?_
  refine wpIn_ret ?_
  refine aY ?_
  exact bo rfl h s rfl (by obtain rfl:=qd hn hR;exact gh _ _ _ _)
theorem qz (L:List N3) (hL:L.length≤1000) (v9:Value) (w:World) (hR:bX w v9 68 L.length (aG L)) (ho:∀ x∈L,f4 w x):Calls Tryz.prog 70 [v9].toArray w (cU w (fun v w'=>cS w' w.heap.size 42 68 v L.length (aG L))):=by
 obtain ⟨a,c,rfl⟩:=hR.len
 exact sP L hL a _ c w hR ho
set_option maxHeartbeats 1000000 in
theorem iA (L:List N3) (vo:Value) (w:World) (hO:eN w vo L) (hL:L.length≤40) (hb:RwB L):Calls Tryz.prog 36 [.agg #[vo]].toArray w (cU w (Ek w 42 (nds L))):=by
 refine d7 Tryz.func36 rfl Tryz.ntmps36 rfl [(0,.agg #[vo])] (by simp) fun f h=>?_
 have s:=St.start w
 refine al fun K1 hK1=>?_
 refine ae ?_
 refine bV (#[vo]) h s rfl rfl rfl ?_;intro f w1 b1 h s
 refine bf (#[bp]) h s d3 rfl rfl ?_;intro f w1 b2 h s
 refine ah ?_
 refine hK1 _ _ ?_
 refine al fun K2 hK2=>?_
 refine ae ?_
 refine ac h (ai cp (h.ev rfl)) rfl ?_;intro f h
 refine aq (V:=vo) (am (aL.of_own s 1 rfl) 0 rfl) h da rfl rfl ?_;intro f h
 refine aI h s C2 (qz L (by omega) vo _ (hO.1.keep s.ext) (fun x hx=>(hO.2 x hx).keep s.ext)) rfl rfl ?_;intro f w1 v6 hT hE h sq;replace s:=s.sl_new hE hT
 refine ac h (ai cp (h.ev rfl)) rfl ?_;intro f h
 refine br 2 h s da rfl rfl rfl (by show 0<1;decide) (aQ (s.getSl 0 rfl)) ?_;intro w1 s
 replace s:=s.recell (D:=#[v6]) 2 rfl rfl
 refine ah ?_
 refine hK2 _ _ ?_
 refine al fun K3 hK3=>?_
 refine al fun K4 hK4=>?_
 refine ae ?_
 replace s:=s.grp0 (S:=c6 (L.take 0)) (fun _ x hx=>by simp at hx)
 refine au 3 h s bk rfl rfl (rfl) rfl ?_;intro f h
 refine dl [.agg #[v6]] h kE (fk v6 _ _ _ s) rfl rfl ?_;rintro f w1 r ⟨bn,rfl,s⟩ h
 refine ah ?_
 refine hK4 _ _ ?_
 refine wpIn_block ?_
 refine dW (fun d A9=>∃ (Kd:List N3) (kd:List Nat),(nds Kd=nds L∧∀ j,d≤j→Kd.getD j z3=L.getD j z3)∧A9=[.grp kd (c6 (Kd.take d)),.sl v6 42 68 Kd.length (aG Kd),.blk b2 (.cells (#[bp]) 24),.blk b1 (.cells #[v6] 24)]) [.grp [] (c6 (L.take 0)),.sl v6 42 68 L.length (aG L),.blk b2 (.cells (#[bp]) 24),.blk b1 (.cells #[v6] 24)] [.blk bn (.cells #[v6] 24)] (L.length) (fun _=>false) (fun d=>[Value.pointer (some (a2 v6 (d*68)))]) h s rfl kH (List.Perm.refl _) (⟨L,[],⟨rfl,fun j _=>rfl⟩,rfl⟩) (fun _=>rfl) ?_ ?_ ?_ ?_
 ·intro lp w2 GG g0 hg0 s2 hY;exact eB L.length (by omega) v6 _ _ (bX.of_own (s.getSl 2 rfl)) lp bn (fun _=>false) GG g0 w w2 s2 hg0 hY
 ·intro lp D9 d9 rc R9 A9 w2 hd9 hq9 hJ9 s
  obtain ⟨Kd,kd,⟨hkn,hkj⟩,rfl⟩:=hJ9
  have h:=Sl.round1 (p:=10) (V:=.pointer (some (a2 v6 (d9*68)))) h rfl
  have hdl9:=hd9
  have hlk:Kd.length=L.length:=by have h9:=congrArg List.length hkn;simpa [nds] using h9
  have hdk:d9<Kd.length:=by omega
  have hxd:Kd.getD d9 z3=L.getD d9 z3:=hkj d9 (Nat.le_refl _)
  have hx9:=hb.each _ (bu hdl9)
  refine ae ?_
  refine ac h (ak (h.ev rfl)) rfl ?_;intro f h
  refine ah ?_
  refine bT ?_
  refine ⟨_,s,fun w3 s=>?_⟩
  refine wpIn_block ?_
  refine al fun K5 hK5=>?_
  refine ae ?_
  refine ac h (ag (h.ev rfl)) rfl ?_;intro f h
  refine ac h (ag (h.ev rfl)) rfl ?_;intro f h
  refine ac h (bz (h.ev rfl)) rfl ?_;intro f h
  refine ac h (bL bC (h.ev rfl) ((bX.of_own (s.getSl 3 rfl)).some (by omega))) rfl ?_;intro f h
  refine aq (V:=(Kd.getD d9 z3).2.1) (ez (bX.of_own (s.getSl 3 rfl)) (d9*68+66) (qv Kd d9 hdk)) h bE rfl rfl ?_;intro f h
  refine aI h s rX (gt (L.getD d9 z3).1.sc (by omega) (Kd.getD d9 z3).2.1 _ (by rw [hxd];exact(hO.2 _ (bu hdl9)).1.keep s.ext)) rfl rfl ?_;intro f w1 v16 hT hE h sq;replace s:=s.sl_new hE hT
  refine ac h (bz (h.ev rfl)) rfl ?_;intro f h
  refine ac h (bL bC (h.ev rfl) ((bX.of_own (s.getSl 4 rfl)).some (by omega))) rfl ?_;intro f h
  refine ir 4 h s bE rfl rfl rfl (by omega) (aQ (s.getSl 0 rfl)) (show (aG Kd).set (d9*68+66) v16=aG (Kd.set d9 ((⟨(Kd.getD d9 z3).1.me,(Kd.getD d9 z3).1.pr,(Kd.getD d9 z3).1.sc,(Kd.getD d9 z3).1.fg⟩,v16,(Kd.getD d9 z3).2.2):N3)) from pW hdk _ _) ?_;intro w1 s
  refine ah ?_
  refine hK5 _ _ ?_
  refine ae ?_
  refine ac h (ag (h.ev rfl)) rfl ?_;intro f h
  refine ac h (ag (h.ev rfl)) rfl ?_;intro f h
  refine ac h (bz (h.ev rfl)) rfl ?_;intro f h
  refine ac h (bL cP (h.ev rfl) ((bX.of_own (s.getSl 4 rfl)).some (by omega))) rfl ?_;intro f h
  refine aq (V:=(Kd.getD d9 z3).2.2) (ez (bX.of_own (s.getSl 4 rfl)) (d9*68+67) ((AI _ d9 (by rw [List.length_set];exact hdk)).trans (by rw [en hdk]))) h bE rfl rfl ?_;intro f h
  refine aI h s rX (gt (L.getD d9 z3).1.fg (by omega) (Kd.getD d9 z3).2.2 _ (by rw [hxd];exact(hO.2 _ (bu hdl9)).2.keep s.ext)) rfl rfl ?_;intro f w1 v24 hT hE h sq;replace s:=s.sl_new hE hT
  refine ac h (bz (h.ev rfl)) rfl ?_;intro f h
  refine ac h (bL cP (h.ev rfl) ((bX.of_own (s.getSl 5 rfl)).some (by omega))) rfl ?_;intro f h
  refine ir 5 h s bE rfl rfl rfl (by omega) (aQ (s.getSl 0 rfl)) (show (aG (Kd.set d9 ((⟨(Kd.getD d9 z3).1.me,(Kd.getD d9 z3).1.pr,(Kd.getD d9 z3).1.sc,(Kd.getD d9 z3).1.fg⟩,v16,(Kd.getD d9 z3).2.2):N3))).set (d9*68+67) v24=aG (Kd.set d9 ((⟨(Kd.getD d9 z3).1.me,(Kd.getD d9 z3).1.pr,(Kd.getD d9 z3).1.sc,(Kd.getD d9 z3).1.fg⟩,v16,v24):N3)) from (vQ (by rw [List.length_set];exact hdk) _ (Kd.getD d9 z3).1.fg).trans (by rw [en hdk,jF])) ?_;intro w1 s
  replace s:=s.resl (m:=(Kd.set d9 ((⟨(Kd.getD d9 z3).1.me,(Kd.getD d9 z3).1.pr,(Kd.getD d9 z3).1.sc,(Kd.getD d9 z3).1.fg⟩,v16,v24):N3)).length) (ys:=aG (Kd.set d9 ((⟨(Kd.getD d9 z3).1.me,(Kd.getD d9 z3).1.pr,(Kd.getD d9 z3).1.sc,(Kd.getD d9 z3).1.fg⟩,v16,v24):N3))) 5 rfl (by rw [List.length_set]) rfl
  refine ah ?_
  refine bF ?_
  replace s:=s.bring 4 rfl
  replace s:=s.bring 1 rfl
  replace s:=s.bring 2 rfl
  replace s:St w (.sl v16 28 33 (L.getD d9 z3).1.sc.length (ar (L.getD d9 z3).1.sc)::.sl v24 28 33 (L.getD d9 z3).1.fg.length (ar (L.getD d9 z3).1.fg)::(.grp kd (c6 (Kd.take d9)))::.blk lp (.loop (rc .busy))::.blk D9 (.deferred (some []))::.sl v6 42 68 (Kd.set d9 ((⟨(Kd.getD d9 z3).1.me,(Kd.getD d9 z3).1.pr,(Kd.getD d9 z3).1.sc,(Kd.getD d9 z3).1.fg⟩,v16,v24):N3)).length (aG (Kd.set d9 ((⟨(Kd.getD d9 z3).1.me,(Kd.getD d9 z3).1.pr,(Kd.getD d9 z3).1.sc,(Kd.getD d9 z3).1.fg⟩,v16,v24):N3)))::.blk b2 (.cells (#[bp]) 24)::.blk b1 (.cells (#[v6]) 24)::R9) _:=s
  obtain ⟨kn,s⟩:=s.grpR (S':=c6 ((Kd.set d9 ((⟨(Kd.getD d9 z3).1.me,(Kd.getD d9 z3).1.pr,(Kd.getD d9 z3).1.sc,(Kd.getD d9 z3).1.fg⟩,v16,v24):N3)).take (d9+1))) (fun w9 h1 h2 h3=>yc hdk h3 ⟨by rw [← hxd] at h1;exact h1,by rw [← hxd] at h2;exact h2⟩)
  replace s:=s.bring 2 rfl
  replace s:=s.bring 2 rfl
  replace s:St w (.blk lp (.loop (rc .busy))::.blk D9 (.deferred (some []))::(.grp kn (c6 ((Kd.set d9 ((⟨(Kd.getD d9 z3).1.me,(Kd.getD d9 z3).1.pr,(Kd.getD d9 z3).1.sc,(Kd.getD d9 z3).1.fg⟩,v16,v24):N3)).take (d9+1))))::.sl v6 42 68 (Kd.set d9 ((⟨(Kd.getD d9 z3).1.me,(Kd.getD d9 z3).1.pr,(Kd.getD d9 z3).1.sc,(Kd.getD d9 z3).1.fg⟩,v16,v24):N3)).length (aG (Kd.set d9 ((⟨(Kd.getD d9 z3).1.me,(Kd.getD d9 z3).1.pr,(Kd.getD d9 z3).1.sc,(Kd.getD d9 z3).1.fg⟩,v16,v24):N3)))::.blk b2 (.cells (#[bp]) 24)::.blk b1 (.cells (#[v6]) 24)::R9) _:=s
  refine ⟨rfl,_,⟨(Kd.set d9 ((⟨(Kd.getD d9 z3).1.me,(Kd.getD d9 z3).1.pr,(Kd.getD d9 z3).1.sc,(Kd.getD d9 z3).1.fg⟩,v16,v24):N3)),kn,⟨yp hkn rfl hdk,fun j hj=>(B7 (by omega) _).trans (hkj j (by omega))⟩,rfl⟩,s.pick _ ?_⟩
  exact List.Sublist.cons_cons _ (List.Sublist.refl _)
 ·intro D9 A9 w2 hJ9 hq9 s
  obtain ⟨Kd,kd,⟨hkn,hkj⟩,rfl⟩:=hJ9
  replace h:Sl _ {f with defers:={target:=.collected D9,args:=#[]}::f.defers} _ [{target:=.collected D9,args:=#[]}]:=⟨h.size,by rw [h.defers],h.holds⟩
  have hlk:Kd.length=L.length:=by have h9:=congrArg List.length hkn;simpa [nds] using h9
  rw [show Kd.take L.length=Kd from List.take_of_length_le (by omega)] at s
  refine bF ?_
  refine hK3 _ _ ?_
  refine al fun K6 hK6=>?_
  refine ae ?_
  refine au 5 h s bk rfl rfl (rfl) rfl ?_;intro f h
  refine az 4 h s bk rfl rfl rfl (rfl) (rfl) (cq (aQ (s.getSl 3 rfl))) ?_;intro w1 s
  refine ah ?_
  refine hK6 _ _ ?_
  refine wpIn_ret ?_
  exact wt 4 0 rfl h s bk rfl rfl rfl rfl (rfl) (fun w9 s9=>⟨v6,Kd,kd,rfl,hkn,s9.sel [3,2] rfl (by decide)⟩)
 ·intro D9 d9 A9 w2 hd9 hqd9 hq9 hJ9 s
  cases hqd9
theorem jl (L:List N3) (vo:Value) (no:Int) (w:World) (hO:eN w vo L) (hL:L.length≤40) (hb:RwB L):Calls Tryz.prog 40 [.agg #[vo],.int .i64 no].toArray w (cU w (Cd w 42 L no)):=by
 refine bq Tryz.func40 rfl Tryz.ntmps40 rfl [(0,.agg #[vo]),(1,.int .i64 no)] (by simp) fun f h=>?_
 have s:=St.start w
 refine al fun K1 hK1=>?_
 refine ae ?_
 refine bV (#[vo]) h s rfl rfl rfl ?_;intro f w1 b2 h s
 refine bf (#[bp]) h s d3 rfl rfl ?_;intro f w1 b4 h s
 refine ac h (ak (h.ev rfl)) rfl ?_;intro f h
 refine ac h (ak (h.ev rfl)) rfl ?_;intro f h
 refine ah ?_
 refine hK1 _ _ ?_
 refine al fun K2 hK2=>?_
 refine al fun K3 hK3=>?_
 cases r0:(hQ L:Bool)
 ·skip
  refine ae ?_
  refine au 1 h s bk rfl rfl (rfl) rfl ?_;intro f h
  refine aI h s mA (aM (.bool false) (ex L vo _ (hO.keep s.ext) hL hb) (congrArg Value.bool r0)) rfl rfl ?_;intro f w1 v9 hT hE h s;obtain rfl:=hT
  refine ac h (aw (.bool true) (bB (h.ev rfl)) rfl) rfl ?_;intro f h
  refine ah ?_
  refine hK3 _ _ ?_
  refine wpIn_cond_true (h.ev rfl) ?_
  refine al fun K4 hK4=>?_
  refine ae ?_
  refine ac h (co g5) rfl ?_;intro f h
  refine az 0 h s bk rfl rfl rfl (rfl) (rfl) (cq (rfl)) ?_;intro w1 s
  refine ac h (ak (h.ev rfl)) rfl ?_;intro f h
  refine ac h (ak (h.ev rfl)) rfl ?_;intro f h
  refine ah ?_
  refine hK4 _ _ ?_
  refine wpIn_ret ?_
  refine aY ?_
  exact jm 0 rfl h s bk rfl rfl (rfl) rfl rfl (.inl ⟨1,fY r0,by decide,rfl⟩)
 ·skip
  refine ae ?_
  refine au 1 h s bk rfl rfl (rfl) rfl ?_;intro f h
  refine aI h s mA (aM (.bool true) (ex L vo _ (hO.keep s.ext) hL hb) (congrArg Value.bool r0)) rfl rfl ?_;intro f w1 v9 hT hE h s;obtain rfl:=hT
  refine ac h (aw (.bool false) (bB (h.ev rfl)) rfl) rfl ?_;intro f h
  refine ah ?_
  refine hK3 _ _ ?_
  refine wpIn_cond_false (h.ev rfl) ?_
  refine wpIn_skip ?_
  refine hK2 _ _ ?_
  refine al fun K5 hK5=>?_
  refine ae ?_
  refine au 1 h s bk rfl rfl (rfl) rfl ?_;intro f h
  refine aI h s xp (iA L vo _ (hO.keep s.ext) hL hb) rfl rfl ?_;rintro f w1 v13 ⟨vq,K,ks,rfl,hnk,hS⟩ hE h sq;replace s:=s.add hS;clear hS
  have hlk:K.length=L.length:=by have h9:=congrArg List.length hnk;simpa [nds] using h9
  refine az 3 h s bk rfl rfl rfl (rfl) (rfl) (cq (aQ (s.getSl 0 rfl))) ?_;intro w1 s
  refine ah ?_
  refine hK5 _ _ ?_
  refine al fun K6 hK6=>?_
  cases l0:(cx (aR L) no:Bool)
  ·skip
   refine ae ?_
   have hnos:=(eJ r0).rs.nos
   have hixe:=uO hnk no
   refine au 3 h s bk rfl rfl (rfl) rfl ?_;intro f h
   refine ac h (ag (h.ev rfl)) rfl ?_;intro f h
   refine aI h s lW (aM (.pointer none) (eV K vq no _ ⟨bX.of_own (s.getSl 0 rfl),s.getG 1 rfl⟩ (by omega)) (sm (by rw [hixe,hlk];exact of_decide_eq_false ((fD hnos).trans l0)))) rfl rfl ?_;intro f w1 v9 hT hE h s;obtain rfl:=hT
   refine ac h (ak (h.ev rfl)) rfl ?_;intro f h
   refine ah ?_
   refine hK6 _ _ ?_
   refine al fun K7 hK7=>?_
   refine al fun K8 hK8=>?_
   refine ae ?_
   refine ac h (ag (h.ev rfl)) rfl ?_;intro f h
   refine ac h (aw (.bool true) (fR Tryz.underlying54 (h.ev rfl) (h.ev rfl)) (rfl)) rfl ?_;intro f h
   refine ah ?_
   refine hK8 _ _ ?_
   refine wpIn_cond_true (h.ev rfl) ?_
   refine al fun K9 hK9=>?_
   refine ae ?_
   refine ac h (co g5) rfl ?_;intro f h
   refine az 2 h s bk rfl rfl rfl (rfl) (rfl) (cq (rfl)) ?_;intro w1 s
   refine ac h (ak (h.ev rfl)) rfl ?_;intro f h
   refine ac h (ak (h.ev rfl)) rfl ?_;intro f h
   refine ah ?_
   refine hK9 _ _ ?_
   refine wpIn_ret ?_
   refine aY ?_
   exact jm 2 rfl h s bk rfl rfl (rfl) rfl rfl (.inl ⟨10,eZ r0 l0,by decide,rfl⟩)
  ·skip
   refine ae ?_
   have hnos:=(eJ r0).rs.nos
   have hixe:=uO hnk no
   refine au 3 h s bk rfl rfl (rfl) rfl ?_;intro f h
   refine ac h (ag (h.ev rfl)) rfl ?_;intro f h
   refine aI h s lW (aM (.pointer (some (a2 vq (dx L no*68)))) (eV K vq no _ ⟨bX.of_own (s.getSl 0 rfl),s.getG 1 rfl⟩ (by omega)) (by rw [← hixe];exact oP (by rw [hixe,hlk];exact of_decide_eq_true ((fD hnos).trans l0)))) rfl rfl ?_;intro f w1 v9 hT hE h s;obtain rfl:=hT
   refine ac h (ak (h.ev rfl)) rfl ?_;intro f h
   refine ah ?_
   refine hK6 _ _ ?_
   refine al fun K10 hK10=>?_
   refine al fun K11 hK11=>?_
   refine ae ?_
   refine ac h (ag (h.ev rfl)) rfl ?_;intro f h
   refine ac h (aw (.bool false) (fR Tryz.underlying54 (h.ev rfl) (h.ev rfl)) (rfl)) rfl ?_;intro f h
   refine ah ?_
   refine hK11 _ _ ?_
   refine wpIn_cond_false (h.ev rfl) ?_
   refine wpIn_skip ?_
   refine hK10 _ _ ?_
   refine al fun K12 hK12=>?_
   refine ae ?_
   refine au 3 h s bk rfl rfl (rfl) rfl ?_;intro f h
   refine ac h (ag (h.ev rfl)) rfl ?_;intro f h
   refine az 2 h s bk rfl rfl rfl (rfl) (rfl) (cq (aQ (s.getSl 0 rfl))) ?_;intro w1 s
   refine ac h (ak (h.ev rfl)) rfl ?_;intro f h
   refine ac h (ak (h.ev rfl)) rfl ?_;intro f h
   refine ah ?_
   refine hK12 _ _ ?_
   refine wpIn_ret ?_
   exact jm 2 rfl h s bk rfl rfl (rfl) rfl rfl (.inr ⟨gQ r0 l0,vq,K,ks,rfl,hnk,s.sel [0,1] rfl (by decide)⟩)
set_option maxHeartbeats 1000000 in
theorem mS (L:List N3) (vo:Value) (m:Mb) (w:World) (hO:eN w vo L) (hL:L.length≤40) (hb:RwB L):Calls Tryz.prog 34 [.agg #[vo],.agg (av m)].toArray w (cU w (is (.bool (tZ L m)))):=by
 refine d7 Tryz.func34 rfl Tryz.ntmps34 rfl [(0,.agg #[vo]),(1,.agg (av m))] (by simp) fun f h=>?_
 have s:=St.start w
 refine al fun K1 hK1=>?_
 refine ae ?_
 refine bV (#[vo]) h s rfl rfl rfl ?_;intro f w1 b2 h s
 refine bV ((av m)) h s rfl rfl rfl ?_;intro f w1 b3 h s
 refine bf (#[.bool false]) h s rC rfl rfl ?_;intro f w1 b4 h s
 refine ah ?_
 refine hK1 _ _ ?_
 refine al fun K2 hK2=>?_
 refine al fun K3 hK3=>?_
 refine ae ?_
 refine au 2 h s bk rfl rfl (rfl) rfl ?_;intro f h
 refine dl [.agg #[vo]] h kE (fk vo _ _ _ s) rfl rfl ?_;rintro f w1 r ⟨bn,rfl,s⟩ h
 refine ah ?_
 refine hK3 _ _ ?_
 refine wpIn_block ?_
 refine dW (fun d A9=>A9=[.blk b4 (.cells #[.bool (lq (kY L m) d)] 4),.blk b3 (.cells (av m) 28),.blk b2 (.cells #[vo] 24)]) [.blk b4 (.cells #[.bool false] 4),.blk b3 (.cells (av m) 28),.blk b2 (.cells #[vo] 24)] [.blk bn (.cells #[vo] 24)] (L.length) (kY L m) (fun d=>[Value.pointer (some (a2 vo (d*68)))]) h s rfl kH (List.Perm.refl _) (rfl) (fun _=>rfl) ?_ ?_ ?_ ?_
 ·intro lp w2 GG g0 hg0 s2 hY;exact eB L.length (by omega) vo _ _ hO.1 lp bn (kY L m) GG g0 w w2 s2 hg0 hY
 ·intro lp D9 d9 rc R9 A9 w2 hd9 hq9 hJ9 s
  obtain rfl:=hJ9
  have h:=Sl.round1 (p:=9) (V:=.pointer (some (a2 vo (d9*68)))) h rfl
  have hdl9:=hd9
  replace s:=s.recell (D:=#[.bool false]) 2 rfl (by rw [qV hq9])
  have hx9:=hb.each _ (bu hdl9)
  have hkx:(aJ (L.getD d9 z3).1).length≤1000:=by simp only [aJ,List.length_append,List.length_cons];omega
  refine ae ?_
  refine ac h (ak (h.ev rfl)) rfl ?_;intro f h
  refine ah ?_
  refine bT ?_
  refine ⟨_,s,fun w3 s=>?_⟩
  refine wpIn_block ?_
  refine al fun K4 hK4=>?_
  refine al fun K5 hK5=>?_
  cases e0:(decide ((L.getD d9 z3).1.me.1=m.1):Bool)
  ·skip
   cases e1:(decide ((L.getD d9 z3).1.me.2=m.2):Bool)
   ·skip
    refine bH 18 [[],[0],[0,1],[0,1,2],[0,1,2,3],[],[5],[0,1,2,3,4,5,6],[0,1,2,3,4,5,6,7],[0,1,2,3,4,5,6,7,8],[0,1,2,3,4,5,6,7,8,9],[0,1,2,3,4,5,6,7,8,9,10],[0,1,2,3,4,5,6,7,8,9,10,11],[0,1,2,3,4,5,6,7,8,9,10,11,12],[0,1,2,3,4,5,6,7,8],[0,1,2,3,4,5,6,7,8,14],[0,1,2,3,4,5,6,7,8,9,10,11,12,13,14,15],[0,1,2,3,4,5,6,7,8,9,10,11,12,13,14,15,16]] h (by kernel_rfl) (by kernel_rfl) (by kernel_rfl) ?_
    refine ao h (ag (h.ev rfl)) rfl ?_;intro f h
    refine ao h (bz (h.ev rfl)) rfl ?_;intro f h
    refine ao h (bL aK (h.ev rfl) ((hO.1.keep s.ext).some (by omega))) rfl ?_;intro f h
    refine ao h (bL aH (h.ev rfl) ((hO.1.keep s.ext).some (by omega))) rfl ?_;intro f h
    refine aU (V:=.int .i64 (L.getD d9 z3).1.me.1) (ez (hO.1.keep s.ext) (d9*68+0) (ie L d9 hdl9)) h bw rfl rfl ?_;intro f h
    refine ao h (ai aH (h.ev rfl)) rfl ?_;intro f h
    refine aU (am (aL.of_own s 3 rfl) 0 (aP _)) h bw rfl rfl ?_;intro f h
    refine ao h (aw (.bool false) (bU (h.ev rfl) (h.ev rfl)) (congrArg Value.bool e0)) rfl ?_;intro f h
    refine ao h (ag (h.ev rfl)) rfl ?_;intro f h
    refine aT h rfl rfl rfl ?_
    refine ao h (ag (h.ev rfl)) rfl ?_;intro f h
    refine aT h rfl rfl rfl ?_
    refine ao h (bz (h.ev rfl)) rfl ?_;intro f h
    refine aT h rfl rfl rfl ?_
    refine ao h (bL aK (h.ev rfl) ((hO.1.keep s.ext).some (by omega))) rfl ?_;intro f h
    refine aT h rfl rfl rfl ?_
    refine ao h (bL cj (h.ev rfl) ((hO.1.keep s.ext).some (by omega))) rfl ?_;intro f h
    refine aT h rfl rfl rfl ?_
    refine bi (bX.elF (hO.1.keep s.ext) (d9) 1 32 (by omega) (by decide) (C:=ay (L.getD d9 z3).1.me (L.getD d9 z3).1.pr (L.getD d9 z3).2.1 (L.getD d9 z3).2.2) (df L d9 hdl9) (D:=bO (L.getD d9 z3).1.me.2) (ep _ _ _ _)) h cA rfl (by first|exact ba _|exact a6 _ _) rfl ?_;intro f h
    refine aT h rfl rfl rfl ?_
    refine ao h (ai cj (h.ev rfl)) rfl ?_;intro f h
    refine aT h rfl rfl rfl ?_
    refine bi (aL.subL (aL.of_own s 3 rfl) 1 32 (D:=bO (_)) (cw _)) h cA rfl (by first|exact ba _|exact a6 _ _) rfl ?_;intro f h
    refine aT h rfl rfl rfl ?_
    refine ao h (aw (.bool false) (dN g6 (h.ev rfl) (h.ev rfl)) (congrArg Value.bool e1)) rfl ?_;intro f h
    refine ao h (aF (h.ev rfl) (h.ev rfl)) rfl ?_;intro f h
    refine ck s fun w1 s=>?_
    refine ah ?_
    refine hK5 _ _ ?_
    refine wpIn_cond_false (h.ev rfl) ?_
    refine wpIn_skip ?_
    refine hK4 _ _ ?_
    refine al fun K6 hK6=>?_
    refine ae ?_
    refine ac h (ag (h.ev rfl)) rfl ?_;intro f h
    refine ac h (bz (h.ev rfl)) rfl ?_;intro f h
    refine ax ((hO.1.keep s.ext).el (d9) (by omega) (by decide) (D:=ay (L.getD d9 z3).1.me (L.getD d9 z3).1.pr (L.getD d9 z3).2.1 (L.getD d9 z3).2.2) (df L d9 hdl9)) h aW rfl (ap _ _ _ _) rfl ?_;intro f h
    refine aI h s u0 (jj (L.getD d9 z3).1 (L.getD d9 z3).2.1 (L.getD d9 z3).2.2 _ ((hO.2 _ (bu hdl9)).1.keep s.ext) ((hO.2 _ (bu hdl9)).2.keep s.ext) (by omega) (by omega)) rfl rfl ?_;rintro f w1 r9 ⟨bv,vk,rfl,hS⟩ hE h sq;replace s:=s.add hS;clear hS
    refine ah ?_
    refine hK6 _ _ ?_
    refine wpIn_block ?_
    refine wx (fun d A8=>A8=(.blk lp (.loop (rc .busy))::.blk D9 (.deferred (some []))::.blk b4 (.cells #[.bool (lq (fun j=>j6 m ((aJ (L.getD d9 z3).1).getD j aZ)) d)] 4)::.blk b3 (.cells (av m) 28)::.blk b2 (.cells #[vo] 24)::R9)) (.blk lp (.loop (rc .busy))::.blk D9 (.deferred (some []))::.blk b4 (.cells #[.bool false] 4)::.blk b3 (.cells (av m) 28)::.blk b2 (.cells #[vo] 24)::R9) [.blk bv (.cells #[vk] 36),.sl vk 28 33 (aJ (L.getD d9 z3).1).length (ar (aJ (L.getD d9 z3).1))] ((aJ (L.getD d9 z3).1).length) (fun j=>j6 m ((aJ (L.getD d9 z3).1).getD j aZ)) (fun d=>[Value.agg (av ((aJ (L.getD d9 z3).1).getD d aZ))]) h s rfl nK 2 rfl (List.Perm.refl _) (rfl) (fun _=>rfl) ?_ ?_ ?_ ?_
    ·intro lp2 w2 GG g0 hg0 s2 hY;exact ji (aJ (L.getD d9 z3).1) hkx vk lp2 bv (fun j=>j6 m ((aJ (L.getD d9 z3).1).getD j aZ)) GG g0 w w2 s2 hg0 hY
    ·intro lp2 d8 rc2 R8 A8 w2 hd8 hq8 hJ8 s
     obtain rfl:=hJ8
     have h:=Sl.round1 (p:=32) (V:=.agg (av ((aJ (L.getD d9 z3).1).getD d8 aZ))) h rfl
     replace s:=s.recell (D:=#[.bool false]) 3 rfl (by rw [qV hq8])
     refine ae ?_
     refine bf (av aZ) h s cB rfl rfl ?_;intro f w1 b6 h s
     refine az 0 h s aC rfl rfl rfl (aj _) (aj _) (aS _) ?_;intro w1 s
     refine ah ?_
     refine bT ?_
     refine ⟨_,s.perm (List.perm_middle (l₁:=[_])),fun w3 s=>?_⟩
     refine wpIn_block ?_
     refine al fun K7 hK7=>?_
     cases f0:(decide (((aJ (L.getD d9 z3).1).getD d8 aZ).1=m.1):Bool)
     ·skip
      refine ae ?_
      refine ac h (ai aH (h.ev rfl)) rfl ?_;intro f h
      refine aq (am (aL.of_own s 1 rfl) 0 (aP _)) h bw rfl rfl ?_;intro f h
      refine ac h (ai aH (h.ev rfl)) rfl ?_;intro f h
      refine aq (am (aL.of_own s 5 rfl) 0 (aP _)) h bw rfl rfl ?_;intro f h
      refine ac h (aw (.bool false) (bU (h.ev rfl) (h.ev rfl)) (congrArg Value.bool f0)) rfl ?_;intro f h
      refine ac h (ag (h.ev rfl)) rfl ?_;intro f h
      refine aB (b:=true) h rfl rfl rfl rfl ?_;intro f h
      refine aB (b:=true) h rfl rfl rfl rfl ?_;intro f h
      refine aB (b:=true) h rfl rfl rfl rfl ?_;intro f h
      refine ac h (aF (h.ev rfl) (h.ev rfl)) rfl ?_;intro f h
      refine ah ?_
      refine hK7 _ _ ?_
      refine wpIn_cond_false (h.ev rfl) ?_
      refine wpIn_skip ?_
      refine bF ?_
      replace s:=s.recell (D:=#[.bool (lq (fun j=>j6 m ((aJ (L.getD d9 z3).1).getD j aZ)) (d8+1))]) 4 rfl (by show _=#[Value.bool (j6 m ((aJ (L.getD d9 z3).1).getD d8 aZ))];rw [show j6 m ((aJ (L.getD d9 z3).1).getD d8 aZ)=false from by unfold j6;rw [f0];rfl])
      refine ⟨(by show j6 m _=_;unfold j6;rw [f0];rfl),_,rfl,s.pick _ ?_⟩
      exact List.Sublist.cons_cons _ (List.Sublist.cons _ (List.Sublist.refl _))
     ·skip
      cases f1:(decide (((aJ (L.getD d9 z3).1).getD d8 aZ)=m):Bool)
      ·skip
       refine ae ?_
       refine ac h (ai aH (h.ev rfl)) rfl ?_;intro f h
       refine aq (am (aL.of_own s 1 rfl) 0 (aP _)) h bw rfl rfl ?_;intro f h
       refine ac h (ai aH (h.ev rfl)) rfl ?_;intro f h
       refine aq (am (aL.of_own s 5 rfl) 0 (aP _)) h bw rfl rfl ?_;intro f h
       refine ac h (aw (.bool true) (bU (h.ev rfl) (h.ev rfl)) (congrArg Value.bool f0)) rfl ?_;intro f h
       refine ac h (ag (h.ev rfl)) rfl ?_;intro f h
       refine aA h rfl rfl rfl ?_
       refine au 1 h s aC rfl rfl (aj _) rfl ?_;intro f h
       refine aA h rfl rfl rfl ?_
       refine au 5 h s aC rfl rfl (aj _) rfl ?_;intro f h
       refine aA h rfl rfl rfl ?_
       refine ac h (aw (.bool true) (eh (eo _ _) (by kernel_rfl) (by decide) (h.ev rfl) (h.ev rfl) (decide (((aJ (L.getD d9 z3).1).getD d8 aZ)=m)) (cR _ _)) (by rw [f1];rfl)) rfl ?_;intro f h
       refine ac h (aD (h.ev rfl) (h.ev rfl)) rfl ?_;intro f h
       refine ah ?_
       refine hK7 _ _ ?_
       refine wpIn_cond_true (h.ev rfl) ?_
       refine al fun K8 hK8=>?_
       refine ae ?_
       refine br 4 h s fl rfl rfl rfl (by simp) (rfl) ?_;intro w1 s
       refine ah ?_
       refine hK8 _ _ ?_
       refine wpIn_ret ?_
       refine bQ ?_
       replace s:=s.recell (D:=#[.bool (lq (fun j=>j6 m ((aJ (L.getD d9 z3).1).getD j aZ)) (d8+1))]) 4 rfl (by show _=#[Value.bool (j6 m ((aJ (L.getD d9 z3).1).getD d8 aZ))];rw [show j6 m ((aJ (L.getD d9 z3).1).getD d8 aZ)=true from by unfold j6;rw [f0,f1];rfl];rfl)
       refine ⟨(by show j6 m _=_;unfold j6;rw [f0,f1];rfl),_,rfl,s.pick _ ?_⟩
       exact List.Sublist.cons_cons _ (List.Sublist.cons _ (List.Sublist.refl _))
      ·skip
       refine ae ?_
       refine ac h (ai aH (h.ev rfl)) rfl ?_;intro f h
       refine aq (am (aL.of_own s 1 rfl) 0 (aP _)) h bw rfl rfl ?_;intro f h
       refine ac h (ai aH (h.ev rfl)) rfl ?_;intro f h
       refine aq (am (aL.of_own s 5 rfl) 0 (aP _)) h bw rfl rfl ?_;intro f h
       refine ac h (aw (.bool true) (bU (h.ev rfl) (h.ev rfl)) (congrArg Value.bool f0)) rfl ?_;intro f h
       refine ac h (ag (h.ev rfl)) rfl ?_;intro f h
       refine aA h rfl rfl rfl ?_
       refine au 1 h s aC rfl rfl (aj _) rfl ?_;intro f h
       refine aA h rfl rfl rfl ?_
       refine au 5 h s aC rfl rfl (aj _) rfl ?_;intro f h
       refine aA h rfl rfl rfl ?_
       refine ac h (aw (.bool false) (eh (eo _ _) (by kernel_rfl) (by decide) (h.ev rfl) (h.ev rfl) (decide (((aJ (L.getD d9 z3).1).getD d8 aZ)=m)) (cR _ _)) (by rw [f1];rfl)) rfl ?_;intro f h
       refine ac h (aD (h.ev rfl) (h.ev rfl)) rfl ?_;intro f h
       refine ah ?_
       refine hK7 _ _ ?_
       refine wpIn_cond_false (h.ev rfl) ?_
       refine wpIn_skip ?_
       refine bF ?_
       replace s:=s.recell (D:=#[.bool (lq (fun j=>j6 m ((aJ (L.getD d9 z3).1).getD j aZ)) (d8+1))]) 4 rfl (by show _=#[Value.bool (j6 m ((aJ (L.getD d9 z3).1).getD d8 aZ))];rw [show j6 m ((aJ (L.getD d9 z3).1).getD d8 aZ)=false from by unfold j6;rw [f0,f1];rfl])
       refine ⟨(by show j6 m _=_;unfold j6;rw [f0,f1];rfl),_,rfl,s.pick _ ?_⟩
       exact List.Sublist.cons_cons _ (List.Sublist.cons _ (List.Sublist.refl _))
    ·intro A8 w2 hJ8 hq8 s
     obtain rfl:=hJ8
     refine bF ?_
     refine bF ?_
     have hb9:=BU (m:=m) e0 e1 (Nat.le_refl _) hq8
     replace s:=s.recell (D:=#[.bool (lq (kY L m) (d9+1))]) 4 rfl (by rw [qV hq8];show #[Value.bool false]=#[Value.bool (kY L m d9)];rw [hb9])
     refine ⟨BU e0 e1 (Nat.le_refl _) hq8,_,rfl,s.pick _ ?_⟩
     exact List.Sublist.cons _ (List.Sublist.cons _ (List.Sublist.cons_cons _ (List.Sublist.refl _)))
    ·intro d8 A8 w2 hd8 hqd8 hq8 hJ8 s
     obtain rfl:=hJ8
     refine bQ ?_
     refine bQ ?_
     have hb9:kY L m d9=true:=CZ hd8 hqd8
     replace s:=s.recell (D:=#[.bool (lq (kY L m) (d9+1))]) 4 rfl (by show #[Value.bool (j6 m ((aJ (L.getD d9 z3).1).getD d8 aZ))]=#[Value.bool (kY L m d9)];rw [hb9,show j6 m ((aJ (L.getD d9 z3).1).getD d8 aZ)=true from hqd8])
     refine ⟨CZ hd8 hqd8,_,rfl,s.pick _ ?_⟩
     exact List.Sublist.cons _ (List.Sublist.cons _ (List.Sublist.cons_cons _ (List.Sublist.refl _)))
   ·skip
    refine bH 18 [[],[0],[0,1],[0,1,2],[0,1,2,3],[],[5],[0,1,2,3,4,5,6],[0,1,2,3,4,5,6,7],[0,1,2,3,4,5,6,7,8],[0,1,2,3,4,5,6,7,8,9],[0,1,2,3,4,5,6,7,8,9,10],[0,1,2,3,4,5,6,7,8,9,10,11],[0,1,2,3,4,5,6,7,8,9,10,11,12],[0,1,2,3,4,5,6,7,8],[0,1,2,3,4,5,6,7,8,14],[0,1,2,3,4,5,6,7,8,9,10,11,12,13,14,15],[0,1,2,3,4,5,6,7,8,9,10,11,12,13,14,15,16]] h (by kernel_rfl) (by kernel_rfl) (by kernel_rfl) ?_
    refine ao h (ag (h.ev rfl)) rfl ?_;intro f h
    refine ao h (bz (h.ev rfl)) rfl ?_;intro f h
    refine ao h (bL aK (h.ev rfl) ((hO.1.keep s.ext).some (by omega))) rfl ?_;intro f h
    refine ao h (bL aH (h.ev rfl) ((hO.1.keep s.ext).some (by omega))) rfl ?_;intro f h
    refine aU (V:=.int .i64 (L.getD d9 z3).1.me.1) (ez (hO.1.keep s.ext) (d9*68+0) (ie L d9 hdl9)) h bw rfl rfl ?_;intro f h
    refine ao h (ai aH (h.ev rfl)) rfl ?_;intro f h
    refine aU (am (aL.of_own s 3 rfl) 0 (aP _)) h bw rfl rfl ?_;intro f h
    refine ao h (aw (.bool false) (bU (h.ev rfl) (h.ev rfl)) (congrArg Value.bool e0)) rfl ?_;intro f h
    refine ao h (ag (h.ev rfl)) rfl ?_;intro f h
    refine aT h rfl rfl rfl ?_
    refine ao h (ag (h.ev rfl)) rfl ?_;intro f h
    refine aT h rfl rfl rfl ?_
    refine ao h (bz (h.ev rfl)) rfl ?_;intro f h
    refine aT h rfl rfl rfl ?_
    refine ao h (bL aK (h.ev rfl) ((hO.1.keep s.ext).some (by omega))) rfl ?_;intro f h
    refine aT h rfl rfl rfl ?_
    refine ao h (bL cj (h.ev rfl) ((hO.1.keep s.ext).some (by omega))) rfl ?_;intro f h
    refine aT h rfl rfl rfl ?_
    refine bi (bX.elF (hO.1.keep s.ext) (d9) 1 32 (by omega) (by decide) (C:=ay (L.getD d9 z3).1.me (L.getD d9 z3).1.pr (L.getD d9 z3).2.1 (L.getD d9 z3).2.2) (df L d9 hdl9) (D:=bO (L.getD d9 z3).1.me.2) (ep _ _ _ _)) h cA rfl (by first|exact ba _|exact a6 _ _) rfl ?_;intro f h
    refine aT h rfl rfl rfl ?_
    refine ao h (ai cj (h.ev rfl)) rfl ?_;intro f h
    refine aT h rfl rfl rfl ?_
    refine bi (aL.subL (aL.of_own s 3 rfl) 1 32 (D:=bO (_)) (cw _)) h cA rfl (by first|exact ba _|exact a6 _ _) rfl ?_;intro f h
    refine aT h rfl rfl rfl ?_
    refine ao h (aw (.bool true) (dN g6 (h.ev rfl) (h.ev rfl)) (congrArg Value.bool e1)) rfl ?_;intro f h
    refine ao h (aF (h.ev rfl) (h.ev rfl)) rfl ?_;intro f h
    refine ck s fun w1 s=>?_
    refine ah ?_
    refine hK5 _ _ ?_
    refine wpIn_cond_true (h.ev rfl) ?_
    refine al fun K9 hK9=>?_
    refine ae ?_
    refine br 2 h s fl rfl rfl rfl (by simp) (rfl) ?_;intro w1 s
    refine ah ?_
    refine hK9 _ _ ?_
    refine wpIn_ret ?_
    refine aY ?_
    refine bQ ?_
    have hb9:kY L m d9=true:=Cr e1
    replace s:=s.recell (D:=#[.bool (lq (kY L m) (d9+1))]) 2 rfl (by show #[Value.bool true]=#[Value.bool (kY L m d9)];rw [hb9])
    refine ⟨Cr e1,_,rfl,s.pick _ ?_⟩
    exact List.Sublist.cons_cons _ (List.Sublist.refl _)
  ·skip
   refine bH 18 [[],[0],[0,1],[0,1,2],[0,1,2,3],[],[5],[0,1,2,3,4,5,6],[0,1,2,3,4,5,6,7],[0,1,2,3,4,5,6,7,8],[0,1,2,3,4,5,6,7,8,9],[0,1,2,3,4,5,6,7,8,9,10],[0,1,2,3,4,5,6,7,8,9,10,11],[0,1,2,3,4,5,6,7,8,9,10,11,12],[0,1,2,3,4,5,6,7,8],[0,1,2,3,4,5,6,7,8,14],[0,1,2,3,4,5,6,7,8,9,10,11,12,13,14,15],[0,1,2,3,4,5,6,7,8,9,10,11,12,13,14,15,16]] h (by kernel_rfl) (by kernel_rfl) (by kernel_rfl) ?_
   refine ao h (ag (h.ev rfl)) rfl ?_;intro f h
   refine ao h (bz (h.ev rfl)) rfl ?_;intro f h
   refine ao h (bL aK (h.ev rfl) ((hO.1.keep s.ext).some (by omega))) rfl ?_;intro f h
   refine ao h (bL aH (h.ev rfl) ((hO.1.keep s.ext).some (by omega))) rfl ?_;intro f h
   refine aU (V:=.int .i64 (L.getD d9 z3).1.me.1) (ez (hO.1.keep s.ext) (d9*68+0) (ie L d9 hdl9)) h bw rfl rfl ?_;intro f h
   refine ao h (ai aH (h.ev rfl)) rfl ?_;intro f h
   refine aU (am (aL.of_own s 3 rfl) 0 (aP _)) h bw rfl rfl ?_;intro f h
   refine ao h (aw (.bool true) (bU (h.ev rfl) (h.ev rfl)) (congrArg Value.bool e0)) rfl ?_;intro f h
   refine ao h (ag (h.ev rfl)) rfl ?_;intro f h
   refine aX (b:=false) h rfl rfl rfl rfl ?_;intro f h
   refine aX (b:=false) h rfl rfl rfl rfl ?_;intro f h
   refine aX (b:=false) h rfl rfl rfl rfl ?_;intro f h
   refine aX (b:=false) h rfl rfl rfl rfl ?_;intro f h
   refine aX (b:=false) h rfl rfl rfl rfl ?_;intro f h
   refine aX (b:=false) h rfl rfl rfl rfl ?_;intro f h
   refine aX (b:=false) h rfl rfl rfl rfl ?_;intro f h
   refine aX (b:=false) h rfl rfl rfl rfl ?_;intro f h
   refine ao h (aD (h.ev rfl) (h.ev rfl)) rfl ?_;intro f h
   refine ck s fun w1 s=>?_
   refine ah ?_
   refine hK5 _ _ ?_
   refine wpIn_cond_true (h.ev rfl) ?_
   refine al fun K10 hK10=>?_
   refine ae ?_
   refine br 2 h s fl rfl rfl rfl (by simp) (rfl) ?_;intro w1 s
   refine ah ?_
   refine hK10 _ _ ?_
   refine wpIn_ret ?_
   refine aY ?_
   refine bQ ?_
   have hb9:kY L m d9=true:=A2 e0
   replace s:=s.recell (D:=#[.bool (lq (kY L m) (d9+1))]) 2 rfl (by show #[Value.bool true]=#[Value.bool (kY L m d9)];rw [hb9])
   refine ⟨A2 e0,_,rfl,s.pick _ ?_⟩
   exact List.Sublist.cons_cons _ (List.Sublist.refl _)
 ·intro D9 A9 w2 hJ9 hq9 s
  obtain rfl:=hJ9
  replace h:Sl _ {f with defers:={target:=.collected D9,args:=#[]}::f.defers} _ [{target:=.collected D9,args:=#[]}]:=⟨h.size,by rw [h.defers],h.holds⟩
  refine bF ?_
  refine hK2 _ _ ?_
  refine al fun K11 hK11=>?_
  refine ae ?_
  refine br 2 h s fl rfl rfl rfl (by simp) (rfl) ?_;intro w1 s
  refine ah ?_
  refine hK11 _ _ ?_
  refine wpIn_ret ?_
  exact fa 2 0 rfl h s fl rfl rfl rfl rfl rfl (fun w9=>(congrArg Value.bool (DR (Nat.le_refl _) hq9)).symm)
 ·intro D9 d9 A9 w2 hd9 hqd9 hq9 hJ9 s
  obtain rfl:=hJ9
  replace h:Sl _ {f with defers:={target:=.collected D9,args:=#[]}::f.defers} _ [{target:=.collected D9,args:=#[]}]:=⟨h.size,by rw [h.defers],h.holds⟩
  refine bQ ?_
  refine aY ?_
  exact fa 2 0 rfl h s fl rfl rfl rfl rfl rfl (fun w9=>congrArg Value.bool (hqd9.trans (CD hd9 hqd9).symm))
theorem tL (x y:N3) (w:World):Calls Tryz.prog 38 [.agg (ay x.1.me x.1.pr x.2.1 x.2.2),.agg (ay y.1.me y.1.pr y.2.1 y.2.2)].toArray w (cU w (is (.int .i64 (d4 x.1.me.1 y.1.me.1)))):=by
 refine bq Tryz.func38 rfl Tryz.ntmps38 rfl [(0,.agg (ay x.1.me x.1.pr x.2.1 x.2.2)),(1,.agg (ay y.1.me y.1.pr y.2.1 y.2.2))] (by simp) fun f h=>?_
 have s:=St.start w
 refine al fun K1 hK1=>?_
 refine ae ?_
 refine bV (ay x.1.me x.1.pr x.2.1 x.2.2) h s rfl rfl rfl ?_;intro f w1 b2 h s
 refine bV (ay y.1.me y.1.pr y.2.1 y.2.2) h s rfl rfl rfl ?_;intro f w1 b3 h s
 refine ac h (ak (h.ev rfl)) rfl ?_;intro f h
 refine ah ?_
 refine hK1 _ _ ?_
 refine al fun K2 hK2=>?_
 refine ae ?_
 refine ac h (ai aK (h.ev rfl)) rfl ?_;intro f h
 refine ax (aL.subL (aL.of_own s 1 rfl) 0 33 (D:=av x.1.me) (bj _ _ _ _)) h aC rfl (aj _) rfl ?_;intro f h
 refine ac h (ai aK (h.ev rfl)) rfl ?_;intro f h
 refine ax (aL.subL (aL.of_own s 0 rfl) 0 33 (D:=av y.1.me) (bj _ _ _ _)) h aC rfl (aj _) rfl ?_;intro f h
 refine aI h s wd (lF _ _ _) rfl rfl ?_;intro f w1 v9 hT hE h s;obtain rfl:=hT
 refine ac h (ak (h.ev rfl)) rfl ?_;intro f h
 refine ah ?_
 refine hK2 _ _ ?_
 refine wpIn_ret ?_
 exact bo rfl h s rfl (rfl)
theorem py (L:List N3) (hL:L.length≤1000) (ho:∀ x∈L,x.2.1.oneCell'=true∧x.2.2.oneCell'=true) (hd:L.Pairwise fun a b=>a.1.me.1≠b.1.me.1) (v:Value) (B9:List Own) (w0 w:World) (s:St w0 (.sl v 42 68 L.length (aG L)::B9) w):
 Calls Tryz.prog 37 [v,.func (.func 38) #[] #[]].toArray w (fun e w'=>∃ r,e=.returned r∧∃ K:List N3,K.Perm L∧(K.Pairwise fun a b=>a.1.me.1<b.1.me.1)∧St w0 (.sl v 42 68 K.length (aG K)::B9) w'):=by
 by_cases h0:L.length=0
 ·have hl:L=[]:=List.eq_nil_of_length_eq_zero h0
  subst hl
  obtain ⟨a,c,rfl⟩:=dX (s.getSl 0 rfl)
  refine(Go.Proofs.AnyF.slices_SortFunc_none (P:=Tryz.prog) (ρ:=Tryz.layN_ren) Tryz.layN a c (.func (.func 38) #[] #[]) w).mono ?_
  rintro e w' ⟨rfl,rfl⟩
  exact ⟨_,rfl,[],List.Perm.refl _,List.Pairwise.nil,s⟩
 ·obtain ⟨l,hl⟩:∃ l,l=Bg L ho:=⟨_,rfl⟩
  have hm:l.map (·.1)=L:=by rw [hl];exact px L ho
  have hln:l.length=L.length:=by rw [hl];exact wN L ho
  have hc:aG L=fy l:=by rw [lK,hm]
  rw [hc,← hln] at s
  obtain ⟨g,cap,rfl,hlt,hgo,hH,hst⟩:=xt s rfl (by omega)
  have hcon:=Go.Proofs.AnyQ.slices_SortFunc (P:=Tryz.prog) (ρ:=Tryz.layN_ren) Tryz.layN 68 Tryz.isAgg42 Tryz.sizeOf42 mf lj vN (fun x y:k7=>d4 x.1.1.me.1 y.1.1.me.1) uN 38 #[] g 0 cap l.toArray w (enters_of Tryz.func38 (by kernel_rfl) rfl) (fun m os dk _ x y=>by
   have h9:=tL x.1 y.1 (Go.Proofs.sortWorldK mf 68 w g 0 m dk os)
   refine h9.mono ?_
   rintro e w' ⟨v,rfl,hv,hE⟩
   obtain rfl:=hv
   exact ⟨rfl,sn hE⟩) hH hlt (by rw [List.size_toArray];omega)
  refine hcon.mono ?_
  rintro e w' ⟨rfl,d',n,os,hp,hs,rfl⟩
  have hsz:d'.size=l.length:=by rw [hp.1,List.size_toArray]
  have s2:=hst n os d' hsz
  obtain ⟨h1,h2⟩:=tK (l:=l) (by rw [← hm] at hd;exact vP.1 hd) hp hs
  have hKl:(d'.toList.map (·.1)).length=l.length:=by rw [List.length_map,Array.length_toList,hsz]
  refine ⟨_,rfl,d'.toList.map (·.1),?_,vP.2 h2,?_⟩
  ·rw [← hm];exact h1.map _
  ·rw [lK] at s2;rw [hKl];exact s2
theorem mQ (m:Mb) (w:World):Calls Tryz.prog 33 [.agg (av m)].toArray w (cU w (qg w 28 (C9 m) (De m))):=by
 refine bq Tryz.func33 rfl Tryz.ntmps33 rfl [(0,.agg (av m))] (by simp) fun f h=>?_
 have s:=St.start w
 refine al fun K1 hK1=>?_
 refine ae ?_
 refine bV ((av m)) h s rfl rfl rfl ?_;intro f w1 b1 h s
 refine bf (ay aZ aZ bp bp) h s dL rfl rfl ?_;intro f w1 b2 h s
 refine ac h (ak (h.ev rfl)) rfl ?_;intro f h
 refine ah ?_
 refine hK1 _ _ ?_
 refine al fun K2 hK2=>?_
 refine al fun K3 hK3=>?_
 cases h0:(dO m:Bool)
 ·skip
  refine ae ?_
  refine au 1 h s aC rfl rfl (aj _) rfl ?_;intro f h
  refine aI h s fN (aM (.bool false) (dF m _) (congrArg Value.bool h0)) rfl rfl ?_;intro f w1 v9 hT hE h s;obtain rfl:=hT
  refine ac h (aw (.bool true) (bB (h.ev rfl)) rfl) rfl ?_;intro f h
  refine ah ?_
  refine hK3 _ _ ?_
  refine wpIn_cond_true (h.ev rfl) ?_
  refine al fun K4 hK4=>?_
  refine ae ?_
  refine ac h (ef p3) rfl ?_;intro f h
  refine az 0 h s aW rfl rfl rfl (ap _ _ _ _) (ap _ _ _ _) (a7 (rfl) (rfl)) ?_;intro w1 s
  refine ac h (ak (h.ev rfl)) rfl ?_;intro f h
  refine ah ?_
  refine hK4 _ _ ?_
  refine wpIn_ret ?_
  refine aY ?_
  exact ci 0 rfl h s aW rfl rfl (ap _ _ _ _) rfl (kr s (oY h0).1 (oY h0).2)
 ·skip
  refine ae ?_
  refine au 1 h s aC rfl rfl (aj _) rfl ?_;intro f h
  refine aI h s fN (aM (.bool true) (dF m _) (congrArg Value.bool h0)) rfl rfl ?_;intro f w1 v9 hT hE h s;obtain rfl:=hT
  refine ac h (aw (.bool false) (bB (h.ev rfl)) rfl) rfl ?_;intro f h
  refine ah ?_
  refine hK3 _ _ ?_
  refine wpIn_cond_false (h.ev rfl) ?_
  refine wpIn_skip ?_
  refine hK2 _ _ ?_
  refine al fun K5 hK5=>?_
  refine nx 0 5 [[],[],[],[2],[0,1,2,3],[0,1,2,3,4],[0,1,2,3,4,5]] [[],[],[],[],[],[],[]] [fun _=>[],fun _=>[],fun _=>[],fun v=>[.sl (v 3) 28 33 [m].length (ar [m])],fun _=>[],fun _=>[],fun _=>[]] [] [fun v=>v 0=.agg ((av m)),fun v=>v 1=.agg (av dB),fun v=>v 2=.agg ((av m)),fun v=>∃ a c,v 3=.slice a [m].length c,fun v=>v 4=.agg (ay m dB (v 3) bp),fun _=>True,fun _=>True] [.blk b2 (.cells (ay aZ aZ bp bp) 42),.blk b1 (.cells ((av m)) 28)] h s rfl (by kernel_rfl) (by kernel_rfl) (by kernel_rfl) (And.intro ?_ (And.intro ?_ (And.intro ?_ (And.intro ?_ (And.intro ?_ (trivial)))))) [0,1,2,3,4] (by kernel_rfl) ?_
  ·intro f9 w2 vl3 E9 hs9 hd9 hl hF s
   have e1:f9.tmps.getD 1 undef=_:=dt hl 1 (by kernel_rfl) (by kernel_rfl) (h.holds 1 _ rfl)
   have h:=aE [(1,_)] (hs9.trans h.size) (hd9.trans h.defers) (holds_lk ⟨e1,trivial⟩)
   replace s:St w (.blk b2 (.cells (ay aZ aZ bp bp) 42)::.blk b1 (.cells ((av m)) 28)::E9) _:=s
   refine au 1 h s aC rfl rfl (aj _) rfl ?_;intro f h
   exact ah ⟨_,bY 8 rfl (h.holds 8 _ rfl),rfl,s⟩
  ·intro f9 w2 vl3 E9 hs9 hd9 hl hF s
   have h:=aE [] (hs9.trans h.size) (hd9.trans h.defers) (holds_lk trivial)
   replace s:St w (.blk b2 (.cells (ay aZ aZ bp bp) 42)::.blk b1 (.cells ((av m)) 28)::E9) _:=s
   refine aI h s fT (dH _) rfl rfl ?_;intro f w1 v9 hT hE h s;obtain rfl:=hT
   exact ah ⟨_,bY 9 rfl (h.holds 9 _ rfl),rfl,s⟩
  ·intro f9 w2 vl3 E9 hs9 hd9 hl hF s
   have e1:f9.tmps.getD 1 undef=_:=dt hl 1 (by kernel_rfl) (by kernel_rfl) (h.holds 1 _ rfl)
   have h:=aE [(1,_)] (hs9.trans h.size) (hd9.trans h.defers) (holds_lk ⟨e1,trivial⟩)
   replace s:St w (.blk b2 (.cells (ay aZ aZ bp bp) 42)::.blk b1 (.cells ((av m)) 28)::E9) _:=s
   refine au 1 h s aC rfl rfl (aj _) rfl ?_;intro f h
   exact ah ⟨_,bY 10 rfl (h.holds 10 _ rfl),rfl,s⟩
  ·intro f9 w2 vl3 E9 hs9 hd9 hl hF s
   have e10:f9.tmps.getD 10 undef=.agg ((av m)):=(cd hl 10 2 (by kernel_rfl) (by kernel_rfl)).trans (hF 2 (by decide))
   have h:=aE [(10,.agg ((av m)))] (hs9.trans h.size) (hd9.trans h.defers) (holds_lk ⟨e10,trivial⟩)
   replace s:St w (.blk b2 (.cells (ay aZ aZ bp bp) 42)::.blk b1 (.cells ((av m)) 28)::E9) _:=s
   refine cm (vs:=[.agg (av m)]) [.tmp 10] h s Tryz.underlying36 c8 rfl rfl (eI _) rfl rfl rfl ?_;intro f w1 v11 h s
   replace s:=s.resl (m:=[m].length) (ys:=ar [m]) 0 rfl rfl (by rw [dh,cQ])
   exact ah ⟨_,bY 11 rfl (h.holds 11 _ rfl),dX (s.getSl 0 rfl),s⟩
  ·intro f9 w2 vl3 E9 hs9 hd9 hl hF s
   have e8:f9.tmps.getD 8 undef=.agg ((av m)):=(cd hl 8 0 (by kernel_rfl) (by kernel_rfl)).trans (hF 0 (by decide))
   have e9:f9.tmps.getD 9 undef=.agg (av dB):=(cd hl 9 1 (by kernel_rfl) (by kernel_rfl)).trans (hF 1 (by decide))
   have e11:f9.tmps.getD 11 undef=(vl3 3):=cd hl 11 3 (by kernel_rfl) (by kernel_rfl)
   have h:=aE [(8,.agg ((av m))),(9,.agg (av dB)),(11,(vl3 3))] (hs9.trans h.size) (hd9.trans h.defers) (holds_lk ⟨e8,e9,e11,trivial⟩)
   replace s:St w (.blk b2 (.cells (ay aZ aZ bp bp) 42)::.blk b1 (.cells ((av m)) 28)::E9) _:=s
   obtain ⟨a9,c9,hv9⟩:=hF 3 (by decide)
   refine ac h (oe p3 (by rw [show vl3 3=_ from hv9];rfl) (by rw [show vl3 3=_ from hv9];rfl) (h.ev rfl) (h.ev rfl) (h.ev rfl)) rfl ?_;intro f h
   exact ah ⟨_,bY 12 rfl (h.holds 12 _ rfl),rfl,s⟩
  intro f w1 vl3 hs9 hd9 hv hr hF s
  replace hv:=fun i d h9=>hv i d (show Nat.blt i 5=true from h9)
  replace h:=oG 5 (ops:=_) [(8,.agg ((av m))),(9,.agg (av dB)),(10,.agg ((av m))),(11,(vl3 3)),(12,.agg (ay m dB (vl3 3) bp))] h hs9 hd9 hr ⟨(hv 0 8 rfl rfl).trans (hF 0 (by kernel_rfl)),(hv 1 9 rfl rfl).trans (hF 1 (by kernel_rfl)),(hv 2 10 rfl rfl).trans (hF 2 (by kernel_rfl)),hv 3 11 rfl rfl,(hv 4 12 rfl rfl).trans (hF 4 (by kernel_rfl)),trivial⟩ (by kernel_rfl)
  replace s:St w [.sl (vl3 3) 28 33 [m].length (ar [m]),.blk b2 (.cells (ay aZ aZ bp bp) 42),.blk b1 (.cells ((av m)) 28)] _:=s
  refine az 1 h s aW rfl rfl rfl (ap _ _ _ _) (ap _ _ _ _) (a7 (aQ (s.getSl 0 rfl)) (rfl)) ?_;intro w1 s
  refine ac h (ak (h.ev rfl)) rfl ?_;intro f h
  refine ah ?_
  refine hK5 _ _ ?_
  refine wpIn_ret ?_
  exact ci 1 rfl h s aW rfl rfl (ap _ _ _ _) rfl (x2 (pg h0).1 (pg h0).2 (s.pick _ (List.Sublist.cons_cons _ (List.Sublist.cons _ (List.Sublist.cons _ (List.nil_sublist _))))))
set_option maxHeartbeats 1000000 in
theorem tC (L:List N3) (vo:Value) (m:Mb) (no:Int) (w:World) (hO:eN w vo L) (hL:L.length≤40) (hb:RwB L):Calls Tryz.prog 8 [.agg #[vo],.agg (av m),.int .i64 no].toArray w (cU w (zr w (Do vo L) (zc L m no) (BN L m no))):=by
 refine bq Tryz.func8 rfl Tryz.ntmps8 rfl [(0,.agg #[vo]),(1,.agg (av m)),(2,.int .i64 no)] (by simp) fun f h=>?_
 have s:=St.start w
 refine al fun K1 hK1=>?_
 refine ae ?_
 refine bV (#[vo]) h s rfl rfl rfl ?_;intro f w1 b3 h s
 refine bV ((av m)) h s rfl rfl rfl ?_;intro f w1 b4 h s
 refine bf (#[bp]) h s d3 rfl rfl ?_;intro f w1 b6 h s
 refine ac h (ak (h.ev rfl)) rfl ?_;intro f h
 refine ah ?_
 refine hK1 _ _ ?_
 refine al fun K2 hK2=>?_
 refine al fun K3 hK3=>?_
 cases r0:(hQ L:Bool)
 ·skip
  refine ae ?_
  refine au 2 h s bk rfl rfl (rfl) rfl ?_;intro f h
  refine aI h s mA (aM (.bool false) (ex L vo _ (hO.keep s.ext) hL hb) (congrArg Value.bool r0)) rfl rfl ?_;intro f w1 v9 hT hE h s;obtain rfl:=hT
  refine ac h (aw (.bool true) (bB (h.ev rfl)) rfl) rfl ?_;intro f h
  refine ah ?_
  refine hK3 _ _ ?_
  refine wpIn_cond_true (h.ev rfl) ?_
  refine al fun K4 hK4=>?_
  refine ae ?_
  refine ac h (co g5) rfl ?_;intro f h
  refine az 0 h s bk rfl rfl rfl (rfl) (rfl) (cq (rfl)) ?_;intro w1 s
  refine ac h (ak (h.ev rfl)) rfl ?_;intro f h
  refine ah ?_
  refine hK4 _ _ ?_
  refine wpIn_ret ?_
  refine aY ?_
  exact ci 0 rfl h s bk rfl rfl (rfl) rfl (jg s (n7 (Ab r0)).2 (n7 (Ab r0)).1)
 ·skip
  refine ae ?_
  refine au 2 h s bk rfl rfl (rfl) rfl ?_;intro f h
  refine aI h s mA (aM (.bool true) (ex L vo _ (hO.keep s.ext) hL hb) (congrArg Value.bool r0)) rfl rfl ?_;intro f w1 v9 hT hE h s;obtain rfl:=hT
  refine ac h (aw (.bool false) (bB (h.ev rfl)) rfl) rfl ?_;intro f h
  refine ah ?_
  refine hK3 _ _ ?_
  refine wpIn_cond_false (h.ev rfl) ?_
  refine wpIn_skip ?_
  refine hK2 _ _ ?_
  refine al fun K5 hK5=>?_
  cases h0:(dO m:Bool)
  ·skip
   refine ae ?_
   refine au 1 h s aC rfl rfl (aj _) rfl ?_;intro f h
   refine aI h s Ae (mQ m _) rfl rfl ?_;rintro f w1 v17 ⟨us,uf,rfl,hS⟩ hE h sq;rw [(oY h0).1,(oY h0).2] at h;rw [(oY h0).1] at hS;replace s:=s.add hS;clear hS
   refine ac h (ag (h.ev rfl)) rfl ?_;intro f h
   refine ac h (bG (h.ev rfl) rfl) rfl ?_;intro f h
   refine ac h (bG (h.ev rfl) rfl) rfl ?_;intro f h
   refine bf (ay aZ aZ bp bp) h s dL rfl rfl ?_;intro f w1 b8 h s
   refine az 0 h s aW rfl rfl rfl (ap _ _ _ _) (ap _ _ _ _) (a7 (aQ (s.getSl 1 rfl)) (aQ (s.getSl 2 rfl))) ?_;intro w1 s
   refine ac h (ak (h.ev rfl)) rfl ?_;intro f h
   refine ah ?_
   refine hK5 _ _ ?_
   refine al fun K6 hK6=>?_
   refine al fun K7 hK7=>?_
   refine ae ?_
   refine ac h (ag (h.ev rfl)) rfl ?_;intro f h
   refine ac h (aw (.bool true) (cy (h.ev rfl) (h.ev rfl)) (by rfl)) rfl ?_;intro f h
   refine ah ?_
   refine hK7 _ _ ?_
   refine wpIn_cond_true (h.ev rfl) ?_
   refine al fun K8 hK8=>?_
   refine ae ?_
   refine ac h (co g5) rfl ?_;intro f h
   refine ac h (ag (h.ev rfl)) rfl ?_;intro f h
   refine az 3 h s bk rfl rfl rfl (rfl) (rfl) (cq (rfl)) ?_;intro w1 s
   refine ac h (ak (h.ev rfl)) rfl ?_;intro f h
   refine ah ?_
   refine hK8 _ _ ?_
   refine wpIn_ret ?_
   refine aY ?_
   exact ci 3 rfl h s bk rfl rfl (rfl) rfl (jg s (n7 (Ag h0)).2 (n7 (Ag h0)).1)
  ·skip
   refine ae ?_
   refine au 1 h s aC rfl rfl (aj _) rfl ?_;intro f h
   refine aI h s Ae (mQ m _) rfl rfl ?_;rintro f w1 v17 ⟨us,uf,rfl,hS⟩ hE h sq;rw [(pg h0).1,(pg h0).2] at h;rw [(pg h0).1] at hS;replace s:=s.add hS;clear hS
   replace s:=s.resl (m:=1) (ys:=ar [m]) 0 rfl rfl rfl
   refine ac h (ag (h.ev rfl)) rfl ?_;intro f h
   refine ac h (bG (h.ev rfl) rfl) rfl ?_;intro f h
   refine ac h (bG (h.ev rfl) rfl) rfl ?_;intro f h
   refine bf (ay aZ aZ bp bp) h s dL rfl rfl ?_;intro f w1 b8 h s
   refine az 0 h s aW rfl rfl rfl (ap _ _ _ _) (ap _ _ _ _) (a7 (aQ (s.getSl 1 rfl)) (aQ (s.getSl 2 rfl))) ?_;intro w1 s
   refine ac h (ak (h.ev rfl)) rfl ?_;intro f h
   refine ah ?_
   refine hK5 _ _ ?_
   refine al fun K9 hK9=>?_
   refine al fun K10 hK10=>?_
   refine ae ?_
   refine ac h (ag (h.ev rfl)) rfl ?_;intro f h
   refine ac h (aw (.bool false) (cy (h.ev rfl) (h.ev rfl)) (by rfl)) rfl ?_;intro f h
   refine ah ?_
   refine hK10 _ _ ?_
   refine wpIn_cond_false (h.ev rfl) ?_
   refine wpIn_skip ?_
   refine hK9 _ _ ?_
   refine al fun K11 hK11=>?_
   refine al fun K12 hK12=>?_
   cases j0:(tZ L m:Bool)
   ·skip
    refine ae ?_
    have hok:=zX r0 h0
    have hnos:=(eJ r0).rs.nos
    refine au 5 h s bk rfl rfl (rfl) rfl ?_;intro f h
    refine au 4 h s aC rfl rfl (aj _) rfl ?_;intro f h
    refine aI h s zx (aM (.bool false) (mS L vo m _ (hO.keep s.ext) hL hb) (congrArg Value.bool j0)) rfl rfl ?_;intro f w1 v9 hT hE h s;obtain rfl:=hT
    refine ah ?_
    refine hK12 _ _ ?_
    refine wpIn_cond_false (h.ev rfl) ?_
    refine wpIn_skip ?_
    refine hK11 _ _ ?_
    refine al fun K13 hK13=>?_
    refine al fun K14 hK14=>?_
    refine ae ?_
    refine ac h (ai cp (h.ev rfl)) rfl ?_;intro f h
    refine aq (V:=vo) (am (aL.of_own s 5 rfl) 0 rfl) h da rfl rfl ?_;intro f h
    refine ac h (a8 (hO.1.keep s.ext) Tryz.underlying22 (h.ev rfl)) rfl ?_;intro f h
    refine ac h (cY (h.ev rfl) (h.ev rfl)) rfl ?_;intro f h
    refine ah ?_
    refine hK14 _ _ ?_
    refine bK h rfl (fun hc=>?_) (fun hc=>?_)
    ·have hl0:0<L.length:=by have:=of_decide_eq_true hc;omega
     refine al fun K15 hK15=>?_
     cases l0:(cx (aR L) no:Bool)
     ·skip
      refine ae ?_
      refine au 5 h s bk rfl rfl (rfl) rfl ?_;intro f h
      refine ac h (ag (h.ev rfl)) rfl ?_;intro f h
      refine aI h s lW (aM (.pointer none) (eV L vo no _ (hO.keep s.ext) hL) (sm (of_decide_eq_false ((fD hnos).trans l0)))) rfl rfl ?_;intro f w1 v9 hT hE h s;obtain rfl:=hT
      refine ac h (ak (h.ev rfl)) rfl ?_;intro f h
      refine ah ?_
      refine hK15 _ _ ?_
      refine al fun K16 hK16=>?_
      refine al fun K17 hK17=>?_
      refine ae ?_
      refine ac h (ag (h.ev rfl)) rfl ?_;intro f h
      refine ac h (aw (.bool true) (fR Tryz.underlying54 (h.ev rfl) (h.ev rfl)) (rfl)) rfl ?_;intro f h
      refine ah ?_
      refine hK17 _ _ ?_
      refine wpIn_cond_true (h.ev rfl) ?_
      refine al fun K18 hK18=>?_
      refine ae ?_
      refine ac h (co g5) rfl ?_;intro f h
      refine az 3 h s bk rfl rfl rfl (rfl) (rfl) (cq (rfl)) ?_;intro w1 s
      refine ac h (ak (h.ev rfl)) rfl ?_;intro f h
      refine ah ?_
      refine hK18 _ _ ?_
      refine wpIn_ret ?_
      refine aY ?_
      refine aY ?_
      exact ci 3 rfl h s bk rfl rfl (rfl) rfl (jg s ((lI hok).2.trans (Aa (Ah j0 hl0 l0) (by decide))) ((lI hok).1.trans (Ah j0 hl0 l0)))
     ·skip
      refine ae ?_
      refine au 5 h s bk rfl rfl (rfl) rfl ?_;intro f h
      refine ac h (ag (h.ev rfl)) rfl ?_;intro f h
      refine aI h s lW (aM (.pointer (some (a2 vo (dx L no*68)))) (eV L vo no _ (hO.keep s.ext) hL) (oP (of_decide_eq_true ((fD hnos).trans l0)))) rfl rfl ?_;intro f w1 v9 hT hE h s;obtain rfl:=hT
      refine ac h (ak (h.ev rfl)) rfl ?_;intro f h
      refine ah ?_
      refine hK15 _ _ ?_
      refine al fun K19 hK19=>?_
      refine al fun K20 hK20=>?_
      refine ae ?_
      have hix:dx L no<L.length:=of_decide_eq_true ((fD hnos).trans l0)
      refine ac h (ag (h.ev rfl)) rfl ?_;intro f h
      refine ac h (aw (.bool false) (fR Tryz.underlying54 (h.ev rfl) (h.ev rfl)) (rfl)) rfl ?_;intro f h
      refine ah ?_
      refine hK20 _ _ ?_
      refine wpIn_cond_false (h.ev rfl) ?_
      refine wpIn_skip ?_
      refine hK19 _ _ ?_
      refine bH 7 [[],[0],[],[2],[2,3],[2,3,4],[0,1,2,3,4,5]] h (by kernel_rfl) (by kernel_rfl) (by kernel_rfl) ?_
      refine ao h (ai bC (h.ev rfl)) rfl ?_;intro f h
      refine aU (V:=us) (am (aL.of_own s 0 rfl) 66 (bA _ _ _ _)) h bE rfl rfl ?_;intro f h
      refine ao h (ag (h.ev rfl)) rfl ?_;intro f h
      refine ao h (bz (h.ev rfl)) rfl ?_;intro f h
      refine ao h (bL aK (h.ev rfl) ((hO.1.keep s.ext).some (by omega))) rfl ?_;intro f h
      refine bi (bX.elF (hO.1.keep s.ext) (dx L no) 0 33 (by omega) (by decide) (C:=ay (L.getD (dx L no) z3).1.me (L.getD (dx L no) z3).1.pr (L.getD (dx L no) z3).2.1 (L.getD (dx L no) z3).2.2) (df L _ hix) (D:=av (L.getD (dx L no) z3).1.me) (bj _ _ _ _)) h aC rfl (aj _) rfl ?_;intro f h
      refine ao h (cc (bX.of_own (s.getSl 1 rfl)) (0) Tryz.underlying36 cD (h.ev rfl) (h.ev rfl) (by omega) (by omega)) rfl ?_;intro f h
      refine ck s fun w1 s=>?_
      refine eX 1 (0) h s aC rfl rfl rfl (aj _) (by omega) (aS _) (show _=ar [(L.getD (dx L no) z3).1.me] from qi (l:=[m]) _ Nat.zero_lt_one) ?_;intro w1 s
      refine ah ?_
      refine hK13 _ _ ?_
      refine al fun K21 hK21=>?_
      refine ae ?_
      refine au 5 h s bk rfl rfl (rfl) rfl ?_;intro f h
      refine aI h s xp (iA L vo _ (hO.keep s.ext) hL hb) rfl rfl ?_;rintro f w1 v46 ⟨vq,K,ks,rfl,hnk,hS⟩ hE h sq;replace s:=s.add hS;clear hS
      have hlk:K.length=L.length:=by have h9:=congrArg List.length hnk;simpa [nds] using h9
      refine az 7 h s bk rfl rfl rfl (rfl) (rfl) (cq (aQ (s.getSl 0 rfl))) ?_;intro w1 s
      refine ah ?_
      refine hK21 _ _ ?_
      refine al fun K22 hK22=>?_
      refine ae ?_
      refine ac h (ai cp (h.ev rfl)) rfl ?_;intro f h
      refine aq (V:=vq) (am (aL.of_own s 7 rfl) 0 rfl) h da rfl rfl ?_;intro f h
      refine au 2 h s aW rfl rfl (ap _ _ _ _) rfl ?_;intro f h
      have ho1:=aQ (s.getSl 3 rfl)
      have ho2:=aQ (s.getSl 4 rfl)
      refine cm (vs:=[.agg (ay m dB us uf)]) [.tmp 49] h s Tryz.underlying22 gY rfl rfl (jU ((⟨m,dB,[(L.getD (dx L no) z3).1.me],[]⟩,us,uf):N3)) rfl rfl rfl ?_;intro f w1 v50 h s
      replace s:=s.resl (m:=1) (ys:=ll ((⟨m,dB,[(L.getD (dx L no) z3).1.me],[]⟩,us,uf):N3)) 0 rfl rfl (kp ((⟨m,dB,[(L.getD (dx L no) z3).1.me],[]⟩,us,uf):N3))
      refine dP 1 0 h s Tryz.underlying22 gY rfl rfl rfl rfl (by decide) (a7 ho1 ho2) (by unfold maxLen;omega) (by omega) rfl ?_;intro f w1 v51 h s
      replace s:=s.pick _ (List.sublist_cons_self _ _)
      replace s:=s.resl (m:=(K++[((⟨m,dB,[(L.getD (dx L no) z3).1.me],[]⟩,us,uf):N3)]).length) (ys:=aG (K++[((⟨m,dB,[(L.getD (dx L no) z3).1.me],[]⟩,us,uf):N3)])) 0 rfl (by rw [List.length_append];rfl) (jM _ _)
      refine ac h (ai cp (h.ev rfl)) rfl ?_;intro f h
      refine br 7 h s da rfl rfl rfl (by show 0<1;decide) (aQ (s.getSl 0 rfl)) ?_;intro w1 s
      replace s:=s.recell (D:=#[v51]) 7 rfl rfl
      refine ah ?_
      refine hK22 _ _ ?_
      refine al fun K23 hK23=>?_
      refine ae ?_
      refine ac h (ai cp (h.ev rfl)) rfl ?_;intro f h
      refine aq (V:=v51) (am (aL.of_own s 7 rfl) 0 rfl) h da rfl rfl ?_;intro f h
      have hrs:=(eJ r0).rs
      have ho9:∀ y∈K++[((⟨m,dB,[(L.getD (dx L no) z3).1.me],[]⟩,us,uf):N3)],y.2.1.oneCell'=true∧y.2.2.oneCell'=true:=fun y hy=>by rcases List.mem_append.1 hy with hy|hy;exact(s.getG 1 rfl y hy).ones;rw [List.mem_singleton] at hy;subst hy;exact ⟨ho1,ho2⟩
      refine dl [v51,.func (.func 38) #[] #[]] h zB (py (K++[((⟨m,dB,[(L.getD (dx L no) z3).1.me],[]⟩,us,uf):N3)]) (by rw [List.length_append];show K.length+1≤1000;omega) ho9 (sg hrs j0 hnk rfl) v51 _ _ _ s) rfl rfl ?_;rintro f w1 r ⟨K2,hkp,hks,s⟩ h
      replace s:=s.bring 1 rfl
      replace s:=s.bring 4 rfl
      replace s:=s.bring 4 rfl
      replace s:St w [.sl us 28 33 1 (ar [(L.getD (dx L no) z3).1.me]),.sl uf 28 33 ([]:List Mb).length (ar []),(.grp ks (c6 K)),.sl v51 42 68 K2.length (aG K2),.blk b8 (.cells (ay m dB us uf) 42),.blk b6 (.cells (#[bp]) 24),.blk b4 (.cells ((av m)) 28),.blk b3 (.cells (#[v51]) 24)] _:=s
      obtain ⟨kn,s⟩:=s.grpR (S':=c6 K2) (fun w9 h1 h2 h3 y hy=>by rcases List.mem_append.1 (hkp.mem_iff.1 hy) with hy|hy;exact h3 y hy;rw [List.mem_singleton] at hy;subst hy;exact ⟨h1,h2⟩)
      refine ah ?_
      refine hK23 _ _ ?_
      refine al fun K24 hK24=>?_
      refine ae ?_
      refine au 5 h s bk rfl rfl (rfl) rfl ?_;intro f h
      refine az 3 h s bk rfl rfl rfl (rfl) (rfl) (cq (aQ (s.getSl 1 rfl))) ?_;intro w1 s
      refine ac h (ak (h.ev rfl)) rfl ?_;intro f h
      refine ah ?_
      refine hK24 _ _ ?_
      refine wpIn_ret ?_
      exact ci 3 rfl h s bk rfl rfl (rfl) rfl (oz ((lI hok).1.trans (y8 j0 (.inr l0))) (oO (xi hok hrs j0 (y8 j0 (.inr l0)) hnk (by rw [DO hl0,← (qr hix).1]) hkp hks) (s.sel [1,0] rfl (by decide))))
    ·have hl0:¬ 0<L.length:=by have:=of_decide_eq_false hc;omega
     refine wpIn_skip ?_
     refine hK13 _ _ ?_
     refine al fun K25 hK25=>?_
     refine ae ?_
     refine au 5 h s bk rfl rfl (rfl) rfl ?_;intro f h
     refine aI h s xp (iA L vo _ (hO.keep s.ext) hL hb) rfl rfl ?_;rintro f w1 v46 ⟨vq,K,ks,rfl,hnk,hS⟩ hE h sq;replace s:=s.add hS;clear hS
     have hlk:K.length=L.length:=by have h9:=congrArg List.length hnk;simpa [nds] using h9
     refine az 7 h s bk rfl rfl rfl (rfl) (rfl) (cq (aQ (s.getSl 0 rfl))) ?_;intro w1 s
     refine ah ?_
     refine hK25 _ _ ?_
     refine al fun K26 hK26=>?_
     refine ae ?_
     refine ac h (ai cp (h.ev rfl)) rfl ?_;intro f h
     refine aq (V:=vq) (am (aL.of_own s 7 rfl) 0 rfl) h da rfl rfl ?_;intro f h
     refine au 2 h s aW rfl rfl (ap _ _ _ _) rfl ?_;intro f h
     have ho1:=aQ (s.getSl 3 rfl)
     have ho2:=aQ (s.getSl 4 rfl)
     refine cm (vs:=[.agg (ay m dB us uf)]) [.tmp 49] h s Tryz.underlying22 gY rfl rfl (jU ((⟨m,dB,[m],[]⟩,us,uf):N3)) rfl rfl rfl ?_;intro f w1 v50 h s
     replace s:=s.resl (m:=1) (ys:=ll ((⟨m,dB,[m],[]⟩,us,uf):N3)) 0 rfl rfl (kp ((⟨m,dB,[m],[]⟩,us,uf):N3))
     refine dP 1 0 h s Tryz.underlying22 gY rfl rfl rfl rfl (by decide) (a7 ho1 ho2) (by unfold maxLen;omega) (by omega) rfl ?_;intro f w1 v51 h s
     replace s:=s.pick _ (List.sublist_cons_self _ _)
     replace s:=s.resl (m:=(K++[((⟨m,dB,[m],[]⟩,us,uf):N3)]).length) (ys:=aG (K++[((⟨m,dB,[m],[]⟩,us,uf):N3)])) 0 rfl (by rw [List.length_append];rfl) (jM _ _)
     refine ac h (ai cp (h.ev rfl)) rfl ?_;intro f h
     refine br 7 h s da rfl rfl rfl (by show 0<1;decide) (aQ (s.getSl 0 rfl)) ?_;intro w1 s
     replace s:=s.recell (D:=#[v51]) 7 rfl rfl
     refine ah ?_
     refine hK26 _ _ ?_
     refine al fun K27 hK27=>?_
     refine ae ?_
     refine ac h (ai cp (h.ev rfl)) rfl ?_;intro f h
     refine aq (V:=v51) (am (aL.of_own s 7 rfl) 0 rfl) h da rfl rfl ?_;intro f h
     have hrs:=(eJ r0).rs
     have ho9:∀ y∈K++[((⟨m,dB,[m],[]⟩,us,uf):N3)],y.2.1.oneCell'=true∧y.2.2.oneCell'=true:=fun y hy=>by rcases List.mem_append.1 hy with hy|hy;exact(s.getG 1 rfl y hy).ones;rw [List.mem_singleton] at hy;subst hy;exact ⟨ho1,ho2⟩
     refine dl [v51,.func (.func 38) #[] #[]] h zB (py (K++[((⟨m,dB,[m],[]⟩,us,uf):N3)]) (by rw [List.length_append];show K.length+1≤1000;omega) ho9 (sg hrs j0 hnk rfl) v51 _ _ _ s) rfl rfl ?_;rintro f w1 r ⟨K2,hkp,hks,s⟩ h
     replace s:=s.bring 1 rfl
     replace s:=s.bring 4 rfl
     replace s:=s.bring 4 rfl
     replace s:St w [.sl us 28 33 1 (ar [m]),.sl uf 28 33 ([]:List Mb).length (ar []),(.grp ks (c6 K)),.sl v51 42 68 K2.length (aG K2),.blk b8 (.cells (ay m dB us uf) 42),.blk b6 (.cells (#[bp]) 24),.blk b4 (.cells ((av m)) 28),.blk b3 (.cells (#[v51]) 24)] _:=s
     obtain ⟨kn,s⟩:=s.grpR (S':=c6 K2) (fun w9 h1 h2 h3 y hy=>by rcases List.mem_append.1 (hkp.mem_iff.1 hy) with hy|hy;exact h3 y hy;rw [List.mem_singleton] at hy;subst hy;exact ⟨h1,h2⟩)
     refine ah ?_
     refine hK27 _ _ ?_
     refine al fun K28 hK28=>?_
     refine ae ?_
     refine au 5 h s bk rfl rfl (rfl) rfl ?_;intro f h
     refine az 3 h s bk rfl rfl rfl (rfl) (rfl) (cq (aQ (s.getSl 1 rfl))) ?_;intro w1 s
     refine ac h (ak (h.ev rfl)) rfl ?_;intro f h
     refine ah ?_
     refine hK28 _ _ ?_
     refine wpIn_ret ?_
     exact ci 3 rfl h s bk rfl rfl (rfl) rfl (oz ((lI hok).1.trans (y8 j0 (.inl hl0))) (oO (xi hok hrs j0 (y8 j0 (.inl hl0)) hnk (by rw [DB hl0]) hkp hks) (s.sel [1,0] rfl (by decide))))
   ·skip
    refine ae ?_
    have hok:=zX r0 h0
    have hnos:=(eJ r0).rs.nos
    refine au 5 h s bk rfl rfl (rfl) rfl ?_;intro f h
    refine au 4 h s aC rfl rfl (aj _) rfl ?_;intro f h
    refine aI h s zx (aM (.bool true) (mS L vo m _ (hO.keep s.ext) hL hb) (congrArg Value.bool j0)) rfl rfl ?_;intro f w1 v9 hT hE h s;obtain rfl:=hT
    refine ah ?_
    refine hK12 _ _ ?_
    refine wpIn_cond_true (h.ev rfl) ?_
    refine al fun K29 hK29=>?_
    refine ae ?_
    refine ac h (co g5) rfl ?_;intro f h
    refine az 3 h s bk rfl rfl rfl (rfl) (rfl) (cq (rfl)) ?_;intro w1 s
    refine ac h (ak (h.ev rfl)) rfl ?_;intro f h
    refine ah ?_
    refine hK29 _ _ ?_
    refine wpIn_ret ?_
    refine aY ?_
    exact ci 3 rfl h s bk rfl rfl (rfl) rfl (jg s ((lI hok).2.trans (Aa (CQ j0) (by decide))) ((lI hok).1.trans (CQ j0)))
end Go.Proofs.YthggibfkgofncaaGreat
