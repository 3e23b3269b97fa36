/- Overlays, copied; an overlay opened; who is taken; what Join of package chord answers. -/
import Derived.Test.YthggibfkgofncaaGreatWa
import Derived.Test.YthggibfkgofncaaGreatSn
set_option linter.unusedVariables false
set_option linter.unusedSimpArgs false
set_option linter.unusedSectionVars false
namespace Go.Proofs.YthggibfkgofncaaGreat
open Go.RowKit
theorem uF (L:List N3) (hL:L.length≤1000) (a9:Option Addr) (n9 c9:Nat) (w:World) (hR:bq w (.slice a9 n9 c9) 68 L.length (aD L)) (ho:∀ x∈L,jX w x):Calls Tryz.prog 70 [.slice a9 n9 c9].toArray w (cU w (fun v w'=>cQ w' w.heap.size 42 68 v L.length (aD L))):=by
 refine bp Tryz.func70 rfl Tryz.ntmps70 rfl [(0,.slice a9 n9 c9)] (by simp) fun f h=>?_
 have s:=St.start w
 refine al fun K1 hK1=>?_
 refine ae ?_
 refine ac h (aj (h.ev rfl)) rfl ?_;intro f h
 refine ah ?_
 refine hK1 _ _ ?_
 refine al fun K2 hK2=>?_
 refine al fun K3 hK3=>?_
 cases hn:(a9.isNone:Bool)
 ·skip
  refine ae ?_
  refine ac h (ag (h.ev rfl)) rfl ?_;intro f h
  refine ac h (av (.bool false) (ga Tryz.underlying22 (h.ev rfl) (h.ev rfl)) (congrArg Value.bool hn)) rfl ?_;intro f h
  refine ah ?_
  refine hK3 _ _ ?_
  refine wpIn_cond_false (h.ev rfl) ?_
  refine wpIn_skip ?_
  refine hK2 _ _ ?_
  refine al fun K4 hK4=>?_
  refine ae ?_
  refine oh (base:=w.heap.size) h Tryz.underlying22 fc (Nat.le_refl _) rfl ?_;intro f w2 v5 h hE3 e5
  refine ac h (ag (h.ev rfl)) rfl ?_;intro f h
  refine j5 (base:=w.heap.size) e5 (hR.keep hE3) h Tryz.underlying22 fc rfl rfl hE3.le (pm ho) (by unfold maxLen;omega) (by omega) rfl ?_;intro f w3 v7 h hE4 e7
  replace s:=s.sl_new (hE3.trans hE4) e7
  refine ac h (aj (h.ev rfl)) rfl ?_;intro f h
  refine ah ?_
  refine hK4 _ _ ?_
  refine wpIn_ret ?_
  exact bf rfl h s rfl (s.getSl 0 rfl)
 ·skip
  refine ae ?_
  refine ac h (ag (h.ev rfl)) rfl ?_;intro f h
  refine ac h (av (.bool true) (ga Tryz.underlying22 (h.ev rfl) (h.ev rfl)) (congrArg Value.bool hn)) rfl ?_;intro f h
  refine ah ?_
  refine hK3 _ _ ?_
  refine wpIn_cond_true (h.ev rfl) ?_
  refine al fun K5 hK5=>?_
  refine ae ?_
  refine ac h (aj (h.ev rfl)) rfl ?_;intro f h
  refine ah ?_
  refine hK5 _ _ ?_
  refine wpIn_ret ?_
  refine aW ?_
  exact bf rfl h s rfl (by obtain rfl:=rz hn hR;exact gB _ _ _ _)
theorem rG (L:List N3) (hL:L.length≤1000) (v9:Value) (w:World) (hR:bq w v9 68 L.length (aD L)) (ho:∀ x∈L,jX w x):Calls Tryz.prog 70 [v9].toArray w (cU w (fun v w'=>cQ w' w.heap.size 42 68 v L.length (aD L))):=by
 obtain ⟨a,c,rfl⟩:=hR.len
 exact uF L hL a _ c w hR ho
set_option maxHeartbeats 1000000 in
theorem f8 (L:List N3) (vo:Value) (w:World) (hO:dN w vo L) (hL:L.length≤40) (hb:RwB L):Calls Tryz.prog 36 [.agg #[vo]].toArray w (cU w (ET w 42 (nds L))):=by
 refine ep Tryz.func36 rfl Tryz.ntmps36 rfl [(0,.agg #[vo])] (by simp) fun f h=>?_
 have s:=St.start w
 refine al fun K1 hK1=>?_
 refine ae ?_
 refine bV (#[vo]) h s rfl rfl rfl ?_;intro f w1 b1 h s
 refine bj (#[a8]) h s eY rfl rfl ?_;intro f w1 b2 h s
 refine ah ?_
 refine hK1 _ _ ?_
 refine al fun K2 hK2=>?_
 refine ae ?_
 refine ac h (ai cp (h.ev rfl)) rfl ?_;intro f h
 refine au (V:=vo) (am (aU.of_own s 1 rfl) 0 rfl) h c4 rfl rfl ?_;intro f h
 refine aH h s Db (rG L (by omega) vo _ (hO.1.keep s.ext) (fun x hx=>(hO.2 x hx).keep s.ext)) rfl rfl ?_;intro f w1 v6 hT hE h sq;replace s:=s.sl_new hE hT
 refine ac h (ai cp (h.ev rfl)) rfl ?_;intro f h
 refine bg 2 h s c4 rfl rfl rfl (by show 0<1;decide) (aX (s.getSl 0 rfl)) ?_;intro w1 s
 replace s:=s.recell (D:=#[v6]) 2 rfl rfl
 refine ah ?_
 refine hK2 _ _ ?_
 refine al fun K3 hK3=>?_
 refine al fun K4 hK4=>?_
 refine ae ?_
 replace s:=s.grp0 (S:=cS (L.take 0)) (fun _ x hx=>by simp at hx)
 refine ar 3 h s a6 rfl rfl (rfl) rfl ?_;intro f h
 refine dq [.agg #[v6]] h lA (fy v6 _ _ _ s) rfl rfl ?_;rintro f w1 r ⟨bn,rfl,s⟩ h
 refine ah ?_
 refine hK4 _ _ ?_
 refine wpIn_block ?_
 refine ed (fun d A9=>∃ (Kd:List N3) (kd:List Nat),(nds Kd=nds L∧∀ j,d≤j→Kd.getD j z3=L.getD j z3)∧A9=[.grp kd (cS (Kd.take d)),.sl v6 42 68 Kd.length (aD Kd),.blk b2 (.cells (#[a8]) 24),.blk b1 (.cells #[v6] 24)]) [.grp [] (cS (L.take 0)),.sl v6 42 68 L.length (aD L),.blk b2 (.cells (#[a8]) 24),.blk b1 (.cells #[v6] 24)] [.blk bn (.cells #[v6] 24)] (L.length) (fun _=>false) (fun d=>[Value.pointer (some (aN v6 (d*68)))]) h s rfl lm (List.Perm.refl _) (⟨L,[],⟨rfl,fun j _=>rfl⟩,rfl⟩) (fun _=>rfl) ?_ ?_ ?_ ?_
 ·intro lp w2 GG g0 hg0 s2 hY;exact eR L.length (by omega) v6 _ _ (bq.of_own (s.getSl 2 rfl)) lp bn (fun _=>false) GG g0 w w2 s2 hg0 hY
 ·intro lp D9 d9 rc R9 A9 w2 hd9 hq9 hJ9 s
  obtain ⟨Kd,kd,⟨hkn,hkj⟩,rfl⟩:=hJ9
  have h:=Sl.round1 (p:=10) (V:=.pointer (some (aN v6 (d9*68)))) h rfl
  have hdl9:=hd9
  have hlk:Kd.length=L.length:=by have h9:=congrArg List.length hkn;simpa [nds] using h9
  have hdk:d9<Kd.length:=by omega
  have hxd:Kd.getD d9 z3=L.getD d9 z3:=hkj d9 (Nat.le_refl _)
  have hx9:=hb.each _ (bw hdl9)
  refine ae ?_
  refine ac h (aj (h.ev rfl)) rfl ?_;intro f h
  refine ah ?_
  refine bQ ?_
  refine ⟨_,s,fun w3 s=>?_⟩
  refine wpIn_block ?_
  refine al fun K5 hK5=>?_
  refine ae ?_
  refine ac h (ag (h.ev rfl)) rfl ?_;intro f h
  refine ac h (ag (h.ev rfl)) rfl ?_;intro f h
  refine ac h (bo (h.ev rfl)) rfl ?_;intro f h
  refine ac h (bG bD (h.ev rfl) ((bq.of_own (s.getSl 3 rfl)).some (by omega))) rfl ?_;intro f h
  refine au (V:=(Kd.getD d9 z3).2.1) (dt (bq.of_own (s.getSl 3 rfl)) (d9*68+66) (iy Kd d9 hdk)) h bE rfl rfl ?_;intro f h
  refine aH h s sO (gX (L.getD d9 z3).1.sc (by omega) (Kd.getD d9 z3).2.1 _ (by rw [hxd];exact(hO.2 _ (bw hdl9)).1.keep s.ext)) rfl rfl ?_;intro f w1 v16 hT hE h sq;replace s:=s.sl_new hE hT
  refine ac h (bo (h.ev rfl)) rfl ?_;intro f h
  refine ac h (bG bD (h.ev rfl) ((bq.of_own (s.getSl 4 rfl)).some (by omega))) rfl ?_;intro f h
  refine lu 4 h s bE rfl rfl rfl (by omega) (aX (s.getSl 0 rfl)) (show (aD Kd).set (d9*68+66) v16=aD (Kd.set d9 ((⟨(Kd.getD d9 z3).1.me,(Kd.getD d9 z3).1.pr,(Kd.getD d9 z3).1.sc,(Kd.getD d9 z3).1.fg⟩,v16,(Kd.getD d9 z3).2.2):N3)) from vE hdk _ _) ?_;intro w1 s
  refine ah ?_
  refine hK5 _ _ ?_
  refine ae ?_
  refine ac h (ag (h.ev rfl)) rfl ?_;intro f h
  refine ac h (ag (h.ev rfl)) rfl ?_;intro f h
  refine ac h (bo (h.ev rfl)) rfl ?_;intro f h
  refine ac h (bG cR (h.ev rfl) ((bq.of_own (s.getSl 4 rfl)).some (by omega))) rfl ?_;intro f h
  refine au (V:=(Kd.getD d9 z3).2.2) (dt (bq.of_own (s.getSl 4 rfl)) (d9*68+67) ((Bl _ d9 (by rw [List.length_set];exact hdk)).trans (by rw [kP hdk]))) h bE rfl rfl ?_;intro f h
  refine aH h s sO (gX (L.getD d9 z3).1.fg (by omega) (Kd.getD d9 z3).2.2 _ (by rw [hxd];exact(hO.2 _ (bw hdl9)).2.keep s.ext)) rfl rfl ?_;intro f w1 v24 hT hE h sq;replace s:=s.sl_new hE hT
  refine ac h (bo (h.ev rfl)) rfl ?_;intro f h
  refine ac h (bG cR (h.ev rfl) ((bq.of_own (s.getSl 5 rfl)).some (by omega))) rfl ?_;intro f h
  refine lu 5 h s bE rfl rfl rfl (by omega) (aX (s.getSl 0 rfl)) (show (aD (Kd.set d9 ((⟨(Kd.getD d9 z3).1.me,(Kd.getD d9 z3).1.pr,(Kd.getD d9 z3).1.sc,(Kd.getD d9 z3).1.fg⟩,v16,(Kd.getD d9 z3).2.2):N3))).set (d9*68+67) v24=aD (Kd.set d9 ((⟨(Kd.getD d9 z3).1.me,(Kd.getD d9 z3).1.pr,(Kd.getD d9 z3).1.sc,(Kd.getD d9 z3).1.fg⟩,v16,v24):N3)) from (w6 (by rw [List.length_set];exact hdk) _ (Kd.getD d9 z3).1.fg).trans (by rw [kP hdk,wU])) ?_;intro w1 s
  replace s:=s.resl (m:=(Kd.set d9 ((⟨(Kd.getD d9 z3).1.me,(Kd.getD d9 z3).1.pr,(Kd.getD d9 z3).1.sc,(Kd.getD d9 z3).1.fg⟩,v16,v24):N3)).length) (ys:=aD (Kd.set d9 ((⟨(Kd.getD d9 z3).1.me,(Kd.getD d9 z3).1.pr,(Kd.getD d9 z3).1.sc,(Kd.getD d9 z3).1.fg⟩,v16,v24):N3))) 5 rfl (by rw [List.length_set]) rfl
  refine ah ?_
  refine bF ?_
  replace s:=s.bring 4 rfl
  replace s:=s.bring 1 rfl
  replace s:=s.bring 2 rfl
  replace s:St w (.sl v16 28 33 (L.getD d9 z3).1.sc.length (ap (L.getD d9 z3).1.sc)::.sl v24 28 33 (L.getD d9 z3).1.fg.length (ap (L.getD d9 z3).1.fg)::(.grp kd (cS (Kd.take d9)))::.blk lp (.loop (rc .busy))::.blk D9 (.deferred (some []))::.sl v6 42 68 (Kd.set d9 ((⟨(Kd.getD d9 z3).1.me,(Kd.getD d9 z3).1.pr,(Kd.getD d9 z3).1.sc,(Kd.getD d9 z3).1.fg⟩,v16,v24):N3)).length (aD (Kd.set d9 ((⟨(Kd.getD d9 z3).1.me,(Kd.getD d9 z3).1.pr,(Kd.getD d9 z3).1.sc,(Kd.getD d9 z3).1.fg⟩,v16,v24):N3)))::.blk b2 (.cells (#[a8]) 24)::.blk b1 (.cells (#[v6]) 24)::R9) _:=s
  obtain ⟨kn,s⟩:=s.grpR (S':=cS ((Kd.set d9 ((⟨(Kd.getD d9 z3).1.me,(Kd.getD d9 z3).1.pr,(Kd.getD d9 z3).1.sc,(Kd.getD d9 z3).1.fg⟩,v16,v24):N3)).take (d9+1))) (fun w9 h1 h2 h3=>zv hdk h3 ⟨by rw [← hxd] at h1;exact h1,by rw [← hxd] at h2;exact h2⟩)
  replace s:=s.bring 2 rfl
  replace s:=s.bring 2 rfl
  replace s:St w (.blk lp (.loop (rc .busy))::.blk D9 (.deferred (some []))::(.grp kn (cS ((Kd.set d9 ((⟨(Kd.getD d9 z3).1.me,(Kd.getD d9 z3).1.pr,(Kd.getD d9 z3).1.sc,(Kd.getD d9 z3).1.fg⟩,v16,v24):N3)).take (d9+1))))::.sl v6 42 68 (Kd.set d9 ((⟨(Kd.getD d9 z3).1.me,(Kd.getD d9 z3).1.pr,(Kd.getD d9 z3).1.sc,(Kd.getD d9 z3).1.fg⟩,v16,v24):N3)).length (aD (Kd.set d9 ((⟨(Kd.getD d9 z3).1.me,(Kd.getD d9 z3).1.pr,(Kd.getD d9 z3).1.sc,(Kd.getD d9 z3).1.fg⟩,v16,v24):N3)))::.blk b2 (.cells (#[a8]) 24)::.blk b1 (.cells (#[v6]) 24)::R9) _:=s
  refine ⟨rfl,_,⟨(Kd.set d9 ((⟨(Kd.getD d9 z3).1.me,(Kd.getD d9 z3).1.pr,(Kd.getD d9 z3).1.sc,(Kd.getD d9 z3).1.fg⟩,v16,v24):N3)),kn,⟨zR hkn rfl hdk,fun j hj=>(Di (by omega) _).trans (hkj j (by omega))⟩,rfl⟩,s.pick _ ?_⟩
  exact List.Sublist.cons_cons _ (List.Sublist.refl _)
 ·intro D9 A9 w2 hJ9 hq9 s
  obtain ⟨Kd,kd,⟨hkn,hkj⟩,rfl⟩:=hJ9
  replace h:Sl _ {f with defers:={target:=.collected D9,args:=#[]}::f.defers} _ [{target:=.collected D9,args:=#[]}]:=⟨h.size,by rw [h.defers],h.holds⟩
  have hlk:Kd.length=L.length:=by have h9:=congrArg List.length hkn;simpa [nds] using h9
  rw [show Kd.take L.length=Kd from List.take_of_length_le (by omega)] at s
  refine bF ?_
  refine hK3 _ _ ?_
  refine al fun K6 hK6=>?_
  refine ae ?_
  refine ar 5 h s a6 rfl rfl (rfl) rfl ?_;intro f h
  refine ax 4 h s a6 rfl rfl rfl (rfl) (rfl) (cn (aX (s.getSl 3 rfl))) ?_;intro w1 s
  refine ah ?_
  refine hK6 _ _ ?_
  refine wpIn_ret ?_
  exact wy 4 0 rfl h s a6 rfl rfl rfl rfl (rfl) (fun w9 s9=>⟨v6,Kd,kd,rfl,hkn,s9.sel [3,2] rfl (by decide)⟩)
 ·intro D9 d9 A9 w2 hd9 hqd9 hq9 hJ9 s
  cases hqd9
theorem jy (L:List N3) (vo:Value) (no:Int) (w:World) (hO:dN w vo L) (hL:L.length≤40) (hb:RwB L):Calls Tryz.prog 40 [.agg #[vo],.int .i64 no].toArray w (cU w (CY w 42 L no)):=by
 refine bp Tryz.func40 rfl Tryz.ntmps40 rfl [(0,.agg #[vo]),(1,.int .i64 no)] (by simp) fun f h=>?_
 have s:=St.start w
 refine al fun K1 hK1=>?_
 refine ae ?_
 refine bV (#[vo]) h s rfl rfl rfl ?_;intro f w1 b2 h s
 refine bj (#[a8]) h s eY rfl rfl ?_;intro f w1 b4 h s
 refine ac h (aj (h.ev rfl)) rfl ?_;intro f h
 refine ac h (aj (h.ev rfl)) rfl ?_;intro f h
 refine ah ?_
 refine hK1 _ _ ?_
 refine al fun K2 hK2=>?_
 refine al fun K3 hK3=>?_
 cases r0:(gm L:Bool)
 ·skip
  refine ae ?_
  refine ar 1 h s a6 rfl rfl (rfl) rfl ?_;intro f h
  refine aH h s jV (aO (.bool false) (d4 L vo _ (hO.keep s.ext) hL hb) (congrArg Value.bool r0)) rfl rfl ?_;intro f w1 v9 hT hE h s;obtain rfl:=hT
  refine ac h (av (.bool true) (bh (h.ev rfl)) rfl) rfl ?_;intro f h
  refine ah ?_
  refine hK3 _ _ ?_
  refine wpIn_cond_true (h.ev rfl) ?_
  refine al fun K4 hK4=>?_
  refine ae ?_
  refine ac h (cG jK) rfl ?_;intro f h
  refine ax 0 h s a6 rfl rfl rfl (rfl) (rfl) (cn (rfl)) ?_;intro w1 s
  refine ac h (aj (h.ev rfl)) rfl ?_;intro f h
  refine ac h (aj (h.ev rfl)) rfl ?_;intro f h
  refine ah ?_
  refine hK4 _ _ ?_
  refine wpIn_ret ?_
  refine aW ?_
  exact jg 0 rfl h s a6 rfl rfl (rfl) rfl rfl (.inl ⟨1,kR r0,by decide,rfl⟩)
 ·skip
  refine ae ?_
  refine ar 1 h s a6 rfl rfl (rfl) rfl ?_;intro f h
  refine aH h s jV (aO (.bool true) (d4 L vo _ (hO.keep s.ext) hL hb) (congrArg Value.bool r0)) rfl rfl ?_;intro f w1 v9 hT hE h s;obtain rfl:=hT
  refine ac h (av (.bool false) (bh (h.ev rfl)) rfl) rfl ?_;intro f h
  refine ah ?_
  refine hK3 _ _ ?_
  refine wpIn_cond_false (h.ev rfl) ?_
  refine wpIn_skip ?_
  refine hK2 _ _ ?_
  refine al fun K5 hK5=>?_
  refine ae ?_
  refine ar 1 h s a6 rfl rfl (rfl) rfl ?_;intro f h
  refine aH h s tM (f8 L vo _ (hO.keep s.ext) hL hb) rfl rfl ?_;rintro f w1 v13 ⟨vq,K,ks,rfl,hnk,hS⟩ hE h sq;replace s:=s.add hS;clear hS
  have hlk:K.length=L.length:=by have h9:=congrArg List.length hnk;simpa [nds] using h9
  refine ax 3 h s a6 rfl rfl rfl (rfl) (rfl) (cn (aX (s.getSl 0 rfl))) ?_;intro w1 s
  refine ah ?_
  refine hK5 _ _ ?_
  refine al fun K6 hK6=>?_
  cases l0:(ce (aM L) no:Bool)
  ·skip
   refine ae ?_
   have hnos:=(eT r0).rs.nos
   have hixe:=wo hnk no
   refine ar 3 h s a6 rfl rfl (rfl) rfl ?_;intro f h
   refine ac h (ag (h.ev rfl)) rfl ?_;intro f h
   refine aH h s iH (aO (.pointer none) (dV K vq no _ ⟨bq.of_own (s.getSl 0 rfl),s.getG 1 rfl⟩ (by omega)) (ob (by rw [hixe,hlk];exact of_decide_eq_false ((eX hnos).trans l0)))) rfl rfl ?_;intro f w1 v9 hT hE h s;obtain rfl:=hT
   refine ac h (aj (h.ev rfl)) rfl ?_;intro f h
   refine ah ?_
   refine hK6 _ _ ?_
   refine al fun K7 hK7=>?_
   refine al fun K8 hK8=>?_
   refine ae ?_
   refine ac h (ag (h.ev rfl)) rfl ?_;intro f h
   refine ac h (av (.bool true) (gd Tryz.underlying54 (h.ev rfl) (h.ev rfl)) (rfl)) rfl ?_;intro f h
   refine ah ?_
   refine hK8 _ _ ?_
   refine wpIn_cond_true (h.ev rfl) ?_
   refine al fun K9 hK9=>?_
   refine ae ?_
   refine ac h (cG jK) rfl ?_;intro f h
   refine ax 2 h s a6 rfl rfl rfl (rfl) (rfl) (cn (rfl)) ?_;intro w1 s
   refine ac h (aj (h.ev rfl)) rfl ?_;intro f h
   refine ac h (aj (h.ev rfl)) rfl ?_;intro f h
   refine ah ?_
   refine hK9 _ _ ?_
   refine wpIn_ret ?_
   refine aW ?_
   exact jg 2 rfl h s a6 rfl rfl (rfl) rfl rfl (.inl ⟨10,iX r0 l0,by decide,rfl⟩)
  ·skip
   refine ae ?_
   have hnos:=(eT r0).rs.nos
   have hixe:=wo hnk no
   refine ar 3 h s a6 rfl rfl (rfl) rfl ?_;intro f h
   refine ac h (ag (h.ev rfl)) rfl ?_;intro f h
   refine aH h s iH (aO (.pointer (some (aN vq (eb L no*68)))) (dV K vq no _ ⟨bq.of_own (s.getSl 0 rfl),s.getG 1 rfl⟩ (by omega)) (by rw [← hixe];exact mK (by rw [hixe,hlk];exact of_decide_eq_true ((eX hnos).trans l0)))) rfl rfl ?_;intro f w1 v9 hT hE h s;obtain rfl:=hT
   refine ac h (aj (h.ev rfl)) rfl ?_;intro f h
   refine ah ?_
   refine hK6 _ _ ?_
   refine al fun K10 hK10=>?_
   refine al fun K11 hK11=>?_
   refine ae ?_
   refine ac h (ag (h.ev rfl)) rfl ?_;intro f h
   refine ac h (av (.bool false) (gd Tryz.underlying54 (h.ev rfl) (h.ev rfl)) (rfl)) rfl ?_;intro f h
   refine ah ?_
   refine hK11 _ _ ?_
   refine wpIn_cond_false (h.ev rfl) ?_
   refine wpIn_skip ?_
   refine hK10 _ _ ?_
   refine al fun K12 hK12=>?_
   refine ae ?_
   refine ar 3 h s a6 rfl rfl (rfl) rfl ?_;intro f h
   refine ac h (ag (h.ev rfl)) rfl ?_;intro f h
   refine ax 2 h s a6 rfl rfl rfl (rfl) (rfl) (cn (aX (s.getSl 0 rfl))) ?_;intro w1 s
   refine ac h (aj (h.ev rfl)) rfl ?_;intro f h
   refine ac h (aj (h.ev rfl)) rfl ?_;intro f h
   refine ah ?_
   refine hK12 _ _ ?_
   refine wpIn_ret ?_
   exact jg 2 rfl h s a6 rfl rfl (rfl) rfl rfl (.inr ⟨nP r0 l0,vq,K,ks,rfl,hnk,s.sel [0,1] rfl (by decide)⟩)
set_option maxHeartbeats 1000000 in
theorem ow (L:List N3) (vo:Value) (m:Mb) (w:World) (hO:dN w vo L) (hL:L.length≤40) (hb:RwB L):Calls Tryz.prog 34 [.agg #[vo],.agg (aw m)].toArray w (cU w (is (.bool (vg L m)))):=by
 refine ep Tryz.func34 rfl Tryz.ntmps34 rfl [(0,.agg #[vo]),(1,.agg (aw m))] (by simp) fun f h=>?_
 have s:=St.start w
 refine al fun K1 hK1=>?_
 refine ae ?_
 refine bV (#[vo]) h s rfl rfl rfl ?_;intro f w1 b2 h s
 refine bV ((aw m)) h s rfl rfl rfl ?_;intro f w1 b3 h s
 refine bj (#[.bool false]) h s sU rfl rfl ?_;intro f w1 b4 h s
 refine ah ?_
 refine hK1 _ _ ?_
 refine al fun K2 hK2=>?_
 refine al fun K3 hK3=>?_
 refine ae ?_
 refine ar 2 h s a6 rfl rfl (rfl) rfl ?_;intro f h
 refine dq [.agg #[vo]] h lA (fy vo _ _ _ s) rfl rfl ?_;rintro f w1 r ⟨bn,rfl,s⟩ h
 refine ah ?_
 refine hK3 _ _ ?_
 refine wpIn_block ?_
 refine ed (fun d A9=>A9=[.blk b4 (.cells #[.bool (lq (lT L m) d)] 4),.blk b3 (.cells (aw m) 28),.blk b2 (.cells #[vo] 24)]) [.blk b4 (.cells #[.bool false] 4),.blk b3 (.cells (aw m) 28),.blk b2 (.cells #[vo] 24)] [.blk bn (.cells #[vo] 24)] (L.length) (lT L m) (fun d=>[Value.pointer (some (aN vo (d*68)))]) h s rfl lm (List.Perm.refl _) (rfl) (fun _=>rfl) ?_ ?_ ?_ ?_
 ·intro lp w2 GG g0 hg0 s2 hY;exact eR L.length (by omega) vo _ _ hO.1 lp bn (lT L m) GG g0 w w2 s2 hg0 hY
 ·intro lp D9 d9 rc R9 A9 w2 hd9 hq9 hJ9 s
  obtain rfl:=hJ9
  have h:=Sl.round1 (p:=9) (V:=.pointer (some (aN vo (d9*68)))) h rfl
  have hdl9:=hd9
  replace s:=s.recell (D:=#[.bool false]) 2 rfl (by rw [si hq9])
  have hx9:=hb.each _ (bw hdl9)
  have hkx:(aE (L.getD d9 z3).1).length≤1000:=by simp only [aE,List.length_append,List.length_cons];omega
  refine ae ?_
  refine ac h (aj (h.ev rfl)) rfl ?_;intro f h
  refine ah ?_
  refine bQ ?_
  refine ⟨_,s,fun w3 s=>?_⟩
  refine wpIn_block ?_
  refine al fun K4 hK4=>?_
  refine al fun K5 hK5=>?_
  cases e0:(decide ((L.getD d9 z3).1.me.1=m.1):Bool)
  ·skip
   cases e1:(decide ((L.getD d9 z3).1.me.2=m.2):Bool)
   ·skip
    refine bI 18 [[],[0],[0,1],[0,1,2],[0,1,2,3],[],[5],[0,1,2,3,4,5,6],[0,1,2,3,4,5,6,7],[0,1,2,3,4,5,6,7,8],[0,1,2,3,4,5,6,7,8,9],[0,1,2,3,4,5,6,7,8,9,10],[0,1,2,3,4,5,6,7,8,9,10,11],[0,1,2,3,4,5,6,7,8,9,10,11,12],[0,1,2,3,4,5,6,7,8],[0,1,2,3,4,5,6,7,8,14],[0,1,2,3,4,5,6,7,8,9,10,11,12,13,14,15],[0,1,2,3,4,5,6,7,8,9,10,11,12,13,14,15,16]] h (by kernel_rfl) (by kernel_rfl) (by kernel_rfl) ?_
    refine ao h (ag (h.ev rfl)) rfl ?_;intro f h
    refine ao h (bo (h.ev rfl)) rfl ?_;intro f h
    refine ao h (bG aR (h.ev rfl) ((hO.1.keep s.ext).some (by omega))) rfl ?_;intro f h
    refine ao h (bG aJ (h.ev rfl) ((hO.1.keep s.ext).some (by omega))) rfl ?_;intro f h
    refine a2 (V:=.int .i64 (L.getD d9 z3).1.me.1) (dt (hO.1.keep s.ext) (d9*68+0) (lg L d9 hdl9)) h bz rfl rfl ?_;intro f h
    refine ao h (ai aJ (h.ev rfl)) rfl ?_;intro f h
    refine a2 (am (aU.of_own s 3 rfl) 0 (aP _)) h bz rfl rfl ?_;intro f h
    refine ao h (av (.bool false) (bX (h.ev rfl) (h.ev rfl)) (congrArg Value.bool e0)) rfl ?_;intro f h
    refine ao h (ag (h.ev rfl)) rfl ?_;intro f h
    refine aV h rfl rfl rfl ?_
    refine ao h (ag (h.ev rfl)) rfl ?_;intro f h
    refine aV h rfl rfl rfl ?_
    refine ao h (bo (h.ev rfl)) rfl ?_;intro f h
    refine aV h rfl rfl rfl ?_
    refine ao h (bG aR (h.ev rfl) ((hO.1.keep s.ext).some (by omega))) rfl ?_;intro f h
    refine aV h rfl rfl rfl ?_
    refine ao h (bG bW (h.ev rfl) ((hO.1.keep s.ext).some (by omega))) rfl ?_;intro f h
    refine aV h rfl rfl rfl ?_
    refine bk (bq.elF (hO.1.keep s.ext) (d9) 1 32 (by omega) (by decide) (C:=aC (L.getD d9 z3).1.me (L.getD d9 z3).1.pr (L.getD d9 z3).2.1 (L.getD d9 z3).2.2) (df L d9 hdl9) (D:=bA (L.getD d9 z3).1.me.2) (da _ _ _ _)) h bP rfl (by first|exact aK _|exact aF _ _) rfl ?_;intro f h
    refine aV h rfl rfl rfl ?_
    refine ao h (ai bW (h.ev rfl)) rfl ?_;intro f h
    refine aV h rfl rfl rfl ?_
    refine bk (aU.subL (aU.of_own s 3 rfl) 1 32 (D:=bA (_)) (cj _)) h bP rfl (by first|exact aK _|exact aF _ _) rfl ?_;intro f h
    refine aV h rfl rfl rfl ?_
    refine ao h (av (.bool false) (dp fC (h.ev rfl) (h.ev rfl)) (congrArg Value.bool e1)) rfl ?_;intro f h
    refine ao h (aG (h.ev rfl) (h.ev rfl)) rfl ?_;intro f h
    refine cq s fun w1 s=>?_
    refine ah ?_
    refine hK5 _ _ ?_
    refine wpIn_cond_false (h.ev rfl) ?_
    refine wpIn_skip ?_
    refine hK4 _ _ ?_
    refine al fun K6 hK6=>?_
    refine ae ?_
    refine ac h (ag (h.ev rfl)) rfl ?_;intro f h
    refine ac h (bo (h.ev rfl)) rfl ?_;intro f h
    refine aB ((hO.1.keep s.ext).el (d9) (by omega) (by decide) (D:=aC (L.getD d9 z3).1.me (L.getD d9 z3).1.pr (L.getD d9 z3).2.1 (L.getD d9 z3).2.2) (df L d9 hdl9)) h aZ rfl (aq _ _ _ _) rfl ?_;intro f h
    refine aH h s vG (jJ (L.getD d9 z3).1 (L.getD d9 z3).2.1 (L.getD d9 z3).2.2 _ ((hO.2 _ (bw hdl9)).1.keep s.ext) ((hO.2 _ (bw hdl9)).2.keep s.ext) (by omega) (by omega)) rfl rfl ?_;rintro f w1 r9 ⟨bv,vk,rfl,hS⟩ hE h sq;replace s:=s.add hS;clear hS
    refine ah ?_
    refine hK6 _ _ ?_
    refine wpIn_block ?_
    refine vt (fun d A8=>A8=(.blk lp (.loop (rc .busy))::.blk D9 (.deferred (some []))::.blk b4 (.cells #[.bool (lq (fun j=>ku m ((aE (L.getD d9 z3).1).getD j aT)) d)] 4)::.blk b3 (.cells (aw m) 28)::.blk b2 (.cells #[vo] 24)::R9)) (.blk lp (.loop (rc .busy))::.blk D9 (.deferred (some []))::.blk b4 (.cells #[.bool false] 4)::.blk b3 (.cells (aw m) 28)::.blk b2 (.cells #[vo] 24)::R9) [.blk bv (.cells #[vk] 36),.sl vk 28 33 (aE (L.getD d9 z3).1).length (ap (aE (L.getD d9 z3).1))] ((aE (L.getD d9 z3).1).length) (fun j=>ku m ((aE (L.getD d9 z3).1).getD j aT)) (fun d=>[Value.agg (aw ((aE (L.getD d9 z3).1).getD d aT))]) h s rfl o5 2 rfl (List.Perm.refl _) (rfl) (fun _=>rfl) ?_ ?_ ?_ ?_
    ·intro lp2 w2 GG g0 hg0 s2 hY;exact jj (aE (L.getD d9 z3).1) hkx vk lp2 bv (fun j=>ku m ((aE (L.getD d9 z3).1).getD j aT)) GG g0 w w2 s2 hg0 hY
    ·intro lp2 d8 rc2 R8 A8 w2 hd8 hq8 hJ8 s
     obtain rfl:=hJ8
     have h:=Sl.round1 (p:=32) (V:=.agg (aw ((aE (L.getD d9 z3).1).getD d8 aT))) h rfl
     replace s:=s.recell (D:=#[.bool false]) 3 rfl (by rw [si hq8])
     refine ae ?_
     refine bj (aw aT) h s cB rfl rfl ?_;intro f w1 b6 h s
     refine ax 0 h s aL rfl rfl rfl (ak _) (ak _) (aS _) ?_;intro w1 s
     refine ah ?_
     refine bQ ?_
     refine ⟨_,s.perm (List.perm_middle (l₁:=[_])),fun w3 s=>?_⟩
     refine wpIn_block ?_
     refine al fun K7 hK7=>?_
     cases f0:(decide (((aE (L.getD d9 z3).1).getD d8 aT).1=m.1):Bool)
     ·skip
      refine ae ?_
      refine ac h (ai aJ (h.ev rfl)) rfl ?_;intro f h
      refine au (am (aU.of_own s 1 rfl) 0 (aP _)) h bz rfl rfl ?_;intro f h
      refine ac h (ai aJ (h.ev rfl)) rfl ?_;intro f h
      refine au (am (aU.of_own s 5 rfl) 0 (aP _)) h bz rfl rfl ?_;intro f h
      refine ac h (av (.bool false) (bX (h.ev rfl) (h.ev rfl)) (congrArg Value.bool f0)) rfl ?_;intro f h
      refine ac h (ag (h.ev rfl)) rfl ?_;intro f h
      refine aA (b:=true) h rfl rfl rfl rfl ?_;intro f h
      refine aA (b:=true) h rfl rfl rfl rfl ?_;intro f h
      refine aA (b:=true) h rfl rfl rfl rfl ?_;intro f h
      refine ac h (aG (h.ev rfl) (h.ev rfl)) rfl ?_;intro f h
      refine ah ?_
      refine hK7 _ _ ?_
      refine wpIn_cond_false (h.ev rfl) ?_
      refine wpIn_skip ?_
      refine bF ?_
      replace s:=s.recell (D:=#[.bool (lq (fun j=>ku m ((aE (L.getD d9 z3).1).getD j aT)) (d8+1))]) 4 rfl (by show _=#[Value.bool (ku m ((aE (L.getD d9 z3).1).getD d8 aT))];rw [show ku m ((aE (L.getD d9 z3).1).getD d8 aT)=false from by unfold ku;rw [f0];rfl])
      refine ⟨(by show ku m _=_;unfold ku;rw [f0];rfl),_,rfl,s.pick _ ?_⟩
      exact List.Sublist.cons_cons _ (List.Sublist.cons _ (List.Sublist.refl _))
     ·skip
      cases f1:(decide (((aE (L.getD d9 z3).1).getD d8 aT)=m):Bool)
      ·skip
       refine ae ?_
       refine ac h (ai aJ (h.ev rfl)) rfl ?_;intro f h
       refine au (am (aU.of_own s 1 rfl) 0 (aP _)) h bz rfl rfl ?_;intro f h
       refine ac h (ai aJ (h.ev rfl)) rfl ?_;intro f h
       refine au (am (aU.of_own s 5 rfl) 0 (aP _)) h bz rfl rfl ?_;intro f h
       refine ac h (av (.bool true) (bX (h.ev rfl) (h.ev rfl)) (congrArg Value.bool f0)) rfl ?_;intro f h
       refine ac h (ag (h.ev rfl)) rfl ?_;intro f h
       refine az h rfl rfl rfl ?_
       refine ar 1 h s aL rfl rfl (ak _) rfl ?_;intro f h
       refine az h rfl rfl rfl ?_
       refine ar 5 h s aL rfl rfl (ak _) rfl ?_;intro f h
       refine az h rfl rfl rfl ?_
       refine ac h (av (.bool true) (eE (g4 _ _) (by kernel_rfl) (by decide) (h.ev rfl) (h.ev rfl) (decide (((aE (L.getD d9 z3).1).getD d8 aT)=m)) (ee _ _)) (by rw [f1];rfl)) rfl ?_;intro f h
       refine ac h (aI (h.ev rfl) (h.ev rfl)) rfl ?_;intro f h
       refine ah ?_
       refine hK7 _ _ ?_
       refine wpIn_cond_true (h.ev rfl) ?_
       refine al fun K8 hK8=>?_
       refine ae ?_
       refine bg 4 h s fx rfl rfl rfl (by simp) (rfl) ?_;intro w1 s
       refine ah ?_
       refine hK8 _ _ ?_
       refine wpIn_ret ?_
       refine bU ?_
       replace s:=s.recell (D:=#[.bool (lq (fun j=>ku m ((aE (L.getD d9 z3).1).getD j aT)) (d8+1))]) 4 rfl (by show _=#[Value.bool (ku m ((aE (L.getD d9 z3).1).getD d8 aT))];rw [show ku m ((aE (L.getD d9 z3).1).getD d8 aT)=true from by unfold ku;rw [f0,f1];rfl];rfl)
       refine ⟨(by show ku m _=_;unfold ku;rw [f0,f1];rfl),_,rfl,s.pick _ ?_⟩
       exact List.Sublist.cons_cons _ (List.Sublist.cons _ (List.Sublist.refl _))
      ·skip
       refine ae ?_
       refine ac h (ai aJ (h.ev rfl)) rfl ?_;intro f h
       refine au (am (aU.of_own s 1 rfl) 0 (aP _)) h bz rfl rfl ?_;intro f h
       refine ac h (ai aJ (h.ev rfl)) rfl ?_;intro f h
       refine au (am (aU.of_own s 5 rfl) 0 (aP _)) h bz rfl rfl ?_;intro f h
       refine ac h (av (.bool true) (bX (h.ev rfl) (h.ev rfl)) (congrArg Value.bool f0)) rfl ?_;intro f h
       refine ac h (ag (h.ev rfl)) rfl ?_;intro f h
       refine az h rfl rfl rfl ?_
       refine ar 1 h s aL rfl rfl (ak _) rfl ?_;intro f h
       refine az h rfl rfl rfl ?_
       refine ar 5 h s aL rfl rfl (ak _) rfl ?_;intro f h
       refine az h rfl rfl rfl ?_
       refine ac h (av (.bool false) (eE (g4 _ _) (by kernel_rfl) (by decide) (h.ev rfl) (h.ev rfl) (decide (((aE (L.getD d9 z3).1).getD d8 aT)=m)) (ee _ _)) (by rw [f1];rfl)) rfl ?_;intro f h
       refine ac h (aI (h.ev rfl) (h.ev rfl)) rfl ?_;intro f h
       refine ah ?_
       refine hK7 _ _ ?_
       refine wpIn_cond_false (h.ev rfl) ?_
       refine wpIn_skip ?_
       refine bF ?_
       replace s:=s.recell (D:=#[.bool (lq (fun j=>ku m ((aE (L.getD d9 z3).1).getD j aT)) (d8+1))]) 4 rfl (by show _=#[Value.bool (ku m ((aE (L.getD d9 z3).1).getD d8 aT))];rw [show ku m ((aE (L.getD d9 z3).1).getD d8 aT)=false from by unfold ku;rw [f0,f1];rfl])
       refine ⟨(by show ku m _=_;unfold ku;rw [f0,f1];rfl),_,rfl,s.pick _ ?_⟩
       exact List.Sublist.cons_cons _ (List.Sublist.cons _ (List.Sublist.refl _))
    ·intro A8 w2 hJ8 hq8 s
     obtain rfl:=hJ8
     refine bF ?_
     refine bF ?_
     have hb9:=DL (m:=m) e0 e1 (Nat.le_refl _) hq8
     replace s:=s.recell (D:=#[.bool (lq (lT L m) (d9+1))]) 4 rfl (by rw [si hq8];show #[Value.bool false]=#[Value.bool (lT L m d9)];rw [hb9])
     refine ⟨DL e0 e1 (Nat.le_refl _) hq8,_,rfl,s.pick _ ?_⟩
     exact List.Sublist.cons _ (List.Sublist.cons _ (List.Sublist.cons_cons _ (List.Sublist.refl _)))
    ·intro d8 A8 w2 hd8 hqd8 hq8 hJ8 s
     obtain rfl:=hJ8
     refine bU ?_
     refine bU ?_
     have hb9:lT L m d9=true:=CK hd8 hqd8
     replace s:=s.recell (D:=#[.bool (lq (lT L m) (d9+1))]) 4 rfl (by show #[Value.bool (ku m ((aE (L.getD d9 z3).1).getD d8 aT))]=#[Value.bool (lT L m d9)];rw [hb9,show ku m ((aE (L.getD d9 z3).1).getD d8 aT)=true from hqd8])
     refine ⟨CK hd8 hqd8,_,rfl,s.pick _ ?_⟩
     exact List.Sublist.cons _ (List.Sublist.cons _ (List.Sublist.cons_cons _ (List.Sublist.refl _)))
   ·skip
    refine bI 18 [[],[0],[0,1],[0,1,2],[0,1,2,3],[],[5],[0,1,2,3,4,5,6],[0,1,2,3,4,5,6,7],[0,1,2,3,4,5,6,7,8],[0,1,2,3,4,5,6,7,8,9],[0,1,2,3,4,5,6,7,8,9,10],[0,1,2,3,4,5,6,7,8,9,10,11],[0,1,2,3,4,5,6,7,8,9,10,11,12],[0,1,2,3,4,5,6,7,8],[0,1,2,3,4,5,6,7,8,14],[0,1,2,3,4,5,6,7,8,9,10,11,12,13,14,15],[0,1,2,3,4,5,6,7,8,9,10,11,12,13,14,15,16]] h (by kernel_rfl) (by kernel_rfl) (by kernel_rfl) ?_
    refine ao h (ag (h.ev rfl)) rfl ?_;intro f h
    refine ao h (bo (h.ev rfl)) rfl ?_;intro f h
    refine ao h (bG aR (h.ev rfl) ((hO.1.keep s.ext).some (by omega))) rfl ?_;intro f h
    refine ao h (bG aJ (h.ev rfl) ((hO.1.keep s.ext).some (by omega))) rfl ?_;intro f h
    refine a2 (V:=.int .i64 (L.getD d9 z3).1.me.1) (dt (hO.1.keep s.ext) (d9*68+0) (lg L d9 hdl9)) h bz rfl rfl ?_;intro f h
    refine ao h (ai aJ (h.ev rfl)) rfl ?_;intro f h
    refine a2 (am (aU.of_own s 3 rfl) 0 (aP _)) h bz rfl rfl ?_;intro f h
    refine ao h (av (.bool false) (bX (h.ev rfl) (h.ev rfl)) (congrArg Value.bool e0)) rfl ?_;intro f h
    refine ao h (ag (h.ev rfl)) rfl ?_;intro f h
    refine aV h rfl rfl rfl ?_
    refine ao h (ag (h.ev rfl)) rfl ?_;intro f h
    refine aV h rfl rfl rfl ?_
    refine ao h (bo (h.ev rfl)) rfl ?_;intro f h
    refine aV h rfl rfl rfl ?_
    refine ao h (bG aR (h.ev rfl) ((hO.1.keep s.ext).some (by omega))) rfl ?_;intro f h
    refine aV h rfl rfl rfl ?_
    refine ao h (bG bW (h.ev rfl) ((hO.1.keep s.ext).some (by omega))) rfl ?_;intro f h
    refine aV h rfl rfl rfl ?_
    refine bk (bq.elF (hO.1.keep s.ext) (d9) 1 32 (by omega) (by decide) (C:=aC (L.getD d9 z3).1.me (L.getD d9 z3).1.pr (L.getD d9 z3).2.1 (L.getD d9 z3).2.2) (df L d9 hdl9) (D:=bA (L.getD d9 z3).1.me.2) (da _ _ _ _)) h bP rfl (by first|exact aK _|exact aF _ _) rfl ?_;intro f h
    refine aV h rfl rfl rfl ?_
    refine ao h (ai bW (h.ev rfl)) rfl ?_;intro f h
    refine aV h rfl rfl rfl ?_
    refine bk (aU.subL (aU.of_own s 3 rfl) 1 32 (D:=bA (_)) (cj _)) h bP rfl (by first|exact aK _|exact aF _ _) rfl ?_;intro f h
    refine aV h rfl rfl rfl ?_
    refine ao h (av (.bool true) (dp fC (h.ev rfl) (h.ev rfl)) (congrArg Value.bool e1)) rfl ?_;intro f h
    refine ao h (aG (h.ev rfl) (h.ev rfl)) rfl ?_;intro f h
    refine cq s fun w1 s=>?_
    refine ah ?_
    refine hK5 _ _ ?_
    refine wpIn_cond_true (h.ev rfl) ?_
    refine al fun K9 hK9=>?_
    refine ae ?_
    refine bg 2 h s fx rfl rfl rfl (by simp) (rfl) ?_;intro w1 s
    refine ah ?_
    refine hK9 _ _ ?_
    refine wpIn_ret ?_
    refine aW ?_
    refine bU ?_
    have hb9:lT L m d9=true:=DH e1
    replace s:=s.recell (D:=#[.bool (lq (lT L m) (d9+1))]) 2 rfl (by show #[Value.bool true]=#[Value.bool (lT L m d9)];rw [hb9])
    refine ⟨DH e1,_,rfl,s.pick _ ?_⟩
    exact List.Sublist.cons_cons _ (List.Sublist.refl _)
  ·skip
   refine bI 18 [[],[0],[0,1],[0,1,2],[0,1,2,3],[],[5],[0,1,2,3,4,5,6],[0,1,2,3,4,5,6,7],[0,1,2,3,4,5,6,7,8],[0,1,2,3,4,5,6,7,8,9],[0,1,2,3,4,5,6,7,8,9,10],[0,1,2,3,4,5,6,7,8,9,10,11],[0,1,2,3,4,5,6,7,8,9,10,11,12],[0,1,2,3,4,5,6,7,8],[0,1,2,3,4,5,6,7,8,14],[0,1,2,3,4,5,6,7,8,9,10,11,12,13,14,15],[0,1,2,3,4,5,6,7,8,9,10,11,12,13,14,15,16]] h (by kernel_rfl) (by kernel_rfl) (by kernel_rfl) ?_
   refine ao h (ag (h.ev rfl)) rfl ?_;intro f h
   refine ao h (bo (h.ev rfl)) rfl ?_;intro f h
   refine ao h (bG aR (h.ev rfl) ((hO.1.keep s.ext).some (by omega))) rfl ?_;intro f h
   refine ao h (bG aJ (h.ev rfl) ((hO.1.keep s.ext).some (by omega))) rfl ?_;intro f h
   refine a2 (V:=.int .i64 (L.getD d9 z3).1.me.1) (dt (hO.1.keep s.ext) (d9*68+0) (lg L d9 hdl9)) h bz rfl rfl ?_;intro f h
   refine ao h (ai aJ (h.ev rfl)) rfl ?_;intro f h
   refine a2 (am (aU.of_own s 3 rfl) 0 (aP _)) h bz rfl rfl ?_;intro f h
   refine ao h (av (.bool true) (bX (h.ev rfl) (h.ev rfl)) (congrArg Value.bool e0)) rfl ?_;intro f h
   refine ao h (ag (h.ev rfl)) rfl ?_;intro f h
   refine aY (b:=false) h rfl rfl rfl rfl ?_;intro f h
   refine aY (b:=false) h rfl rfl rfl rfl ?_;intro f h
   refine aY (b:=false) h rfl rfl rfl rfl ?_;intro f h
   refine aY (b:=false) h rfl rfl rfl rfl ?_;intro f h
   refine aY (b:=false) h rfl rfl rfl rfl ?_;intro f h
   refine aY (b:=false) h rfl rfl rfl rfl ?_;intro f h
   refine aY (b:=false) h rfl rfl rfl rfl ?_;intro f h
   refine aY (b:=false) h rfl rfl rfl rfl ?_;intro f h
   refine ao h (aI (h.ev rfl) (h.ev rfl)) rfl ?_;intro f h
   refine cq s fun w1 s=>?_
   refine ah ?_
   refine hK5 _ _ ?_
   refine wpIn_cond_true (h.ev rfl) ?_
   refine al fun K10 hK10=>?_
   refine ae ?_
   refine bg 2 h s fx rfl rfl rfl (by simp) (rfl) ?_;intro w1 s
   refine ah ?_
   refine hK10 _ _ ?_
   refine wpIn_ret ?_
   refine aW ?_
   refine bU ?_
   have hb9:lT L m d9=true:=Ca e0
   replace s:=s.recell (D:=#[.bool (lq (lT L m) (d9+1))]) 2 rfl (by show #[Value.bool true]=#[Value.bool (lT L m d9)];rw [hb9])
   refine ⟨Ca e0,_,rfl,s.pick _ ?_⟩
   exact List.Sublist.cons_cons _ (List.Sublist.refl _)
 ·intro D9 A9 w2 hJ9 hq9 s
  obtain rfl:=hJ9
  replace h:Sl _ {f with defers:={target:=.collected D9,args:=#[]}::f.defers} _ [{target:=.collected D9,args:=#[]}]:=⟨h.size,by rw [h.defers],h.holds⟩
  refine bF ?_
  refine hK2 _ _ ?_
  refine al fun K11 hK11=>?_
  refine ae ?_
  refine bg 2 h s fx rfl rfl rfl (by simp) (rfl) ?_;intro w1 s
  refine ah ?_
  refine hK11 _ _ ?_
  refine wpIn_ret ?_
  exact ft 2 0 rfl h s fx rfl rfl rfl rfl rfl (fun w9=>(congrArg Value.bool (ED (Nat.le_refl _) hq9)).symm)
 ·intro D9 d9 A9 w2 hd9 hqd9 hq9 hJ9 s
  obtain rfl:=hJ9
  replace h:Sl _ {f with defers:={target:=.collected D9,args:=#[]}::f.defers} _ [{target:=.collected D9,args:=#[]}]:=⟨h.size,by rw [h.defers],h.holds⟩
  refine bU ?_
  refine aW ?_
  exact ft 2 0 rfl h s fx rfl rfl rfl rfl rfl (fun w9=>congrArg Value.bool (hqd9.trans (Dh hd9 hqd9).symm))
theorem uo (x y:N3) (w:World):Calls Tryz.prog 38 [.agg (aC x.1.me x.1.pr x.2.1 x.2.2),.agg (aC y.1.me y.1.pr y.2.1 y.2.2)].toArray w (cU w (is (.int .i64 (ei x.1.me.1 y.1.me.1)))):=by
 refine bp Tryz.func38 rfl Tryz.ntmps38 rfl [(0,.agg (aC x.1.me x.1.pr x.2.1 x.2.2)),(1,.agg (aC y.1.me y.1.pr y.2.1 y.2.2))] (by simp) fun f h=>?_
 have s:=St.start w
 refine al fun K1 hK1=>?_
 refine ae ?_
 refine bV (aC x.1.me x.1.pr x.2.1 x.2.2) h s rfl rfl rfl ?_;intro f w1 b2 h s
 refine bV (aC y.1.me y.1.pr y.2.1 y.2.2) h s rfl rfl rfl ?_;intro f w1 b3 h s
 refine ac h (aj (h.ev rfl)) rfl ?_;intro f h
 refine ah ?_
 refine hK1 _ _ ?_
 refine al fun K2 hK2=>?_
 refine ae ?_
 refine ac h (ai aR (h.ev rfl)) rfl ?_;intro f h
 refine aB (aU.subL (aU.of_own s 1 rfl) 0 33 (D:=aw x.1.me) (bT _ _ _ _)) h aL rfl (ak _) rfl ?_;intro f h
 refine ac h (ai aR (h.ev rfl)) rfl ?_;intro f h
 refine aB (aU.subL (aU.of_own s 0 rfl) 0 33 (D:=aw y.1.me) (bT _ _ _ _)) h aL rfl (ak _) rfl ?_;intro f h
 refine aH h s xf (ml _ _ _) rfl rfl ?_;intro f w1 v9 hT hE h s;obtain rfl:=hT
 refine ac h (aj (h.ev rfl)) rfl ?_;intro f h
 refine ah ?_
 refine hK2 _ _ ?_
 refine wpIn_ret ?_
 exact bf rfl h s rfl (rfl)
theorem qJ (L:List N3) (hL:L.length≤1000) (ho:∀ x∈L,x.2.1.oneCell'=true∧x.2.2.oneCell'=true) (hd:L.Pairwise fun a b=>a.1.me.1≠b.1.me.1) (v:Value) (B9:List Own) (w0 w:World) (s:St w0 (.sl v 42 68 L.length (aD L)::B9) w):
 Calls Tryz.prog 37 [v,.func (.func 38) #[] #[]].toArray w (fun e w'=>∃ r,e=.returned r∧∃ K:List N3,K.Perm L∧(K.Pairwise fun a b=>a.1.me.1<b.1.me.1)∧St w0 (.sl v 42 68 K.length (aD K)::B9) w'):=by
 by_cases h0:L.length=0
 ·have hl:L=[]:=List.eq_nil_of_length_eq_zero h0
  subst hl
  obtain ⟨a,c,rfl⟩:=ef (s.getSl 0 rfl)
  refine(Go.Proofs.AnyF.slices_SortFunc_none (P:=Tryz.prog) (ρ:=Tryz.layN_ren) Tryz.layN a c (.func (.func 38) #[] #[]) w).mono ?_
  rintro e w' ⟨rfl,rfl⟩
  exact ⟨_,rfl,[],List.Perm.refl _,List.Pairwise.nil,s⟩
 ·obtain ⟨l,hl⟩:∃ l,l=BE L ho:=⟨_,rfl⟩
  have hm:l.map (·.1)=L:=by rw [hl];exact qj L ho
  have hln:l.length=L.length:=by rw [hl];exact yc L ho
  have hc:aD L=fP l:=by rw [mV,hm]
  rw [hc,← hln] at s
  obtain ⟨g,cap,rfl,hlt,hgo,hH,hst⟩:=xE s rfl (by omega)
  have hcon:=Go.Proofs.AnyQ.slices_SortFunc (P:=Tryz.prog) (ρ:=Tryz.layN_ren) Tryz.layN 68 Tryz.isAgg42 Tryz.sizeOf42 mw l8 xG (fun x y:lL=>ei x.1.1.me.1 y.1.1.me.1) xl 38 #[] g 0 cap l.toArray w (enters_of Tryz.func38 (by kernel_rfl) rfl) (fun m os dk _ x y=>by
   have h9:=uo x.1 y.1 (Go.Proofs.sortWorldK mw 68 w g 0 m dk os)
   refine h9.mono ?_
   rintro e w' ⟨v,rfl,hv,hE⟩
   obtain rfl:=hv
   exact ⟨rfl,sJ hE⟩) hH hlt (by rw [List.size_toArray];omega)
  refine hcon.mono ?_
  rintro e w' ⟨rfl,d',n,os,hp,hs,rfl⟩
  have hsz:d'.size=l.length:=by rw [hp.1,List.size_toArray]
  have s2:=hst n os d' hsz
  obtain ⟨h1,h2⟩:=uT (l:=l) (by rw [← hm] at hd;exact wn.1 hd) hp hs
  have hKl:(d'.toList.map (·.1)).length=l.length:=by rw [List.length_map,Array.length_toList,hsz]
  refine ⟨_,rfl,d'.toList.map (·.1),?_,wn.2 h2,?_⟩
  ·rw [← hm];exact h1.map _
  ·rw [mV] at s2;rw [hKl];exact s2
theorem nS (m:Mb) (w:World):Calls Tryz.prog 33 [.agg (aw m)].toArray w (cU w (rK w 28 (Dg m) (CR m))):=by
 refine bp Tryz.func33 rfl Tryz.ntmps33 rfl [(0,.agg (aw m))] (by simp) fun f h=>?_
 have s:=St.start w
 refine al fun K1 hK1=>?_
 refine ae ?_
 refine bV ((aw m)) h s rfl rfl rfl ?_;intro f w1 b1 h s
 refine bj (aC aT aT a8 a8) h s ea rfl rfl ?_;intro f w1 b2 h s
 refine ac h (aj (h.ev rfl)) rfl ?_;intro f h
 refine ah ?_
 refine hK1 _ _ ?_
 refine al fun K2 hK2=>?_
 refine al fun K3 hK3=>?_
 cases h0:(dT m:Bool)
 ·skip
  refine ae ?_
  refine ar 1 h s aL rfl rfl (ak _) rfl ?_;intro f h
  refine aH h s gi (aO (.bool false) (dK m _) (congrArg Value.bool h0)) rfl rfl ?_;intro f w1 v9 hT hE h s;obtain rfl:=hT
  refine ac h (av (.bool true) (bh (h.ev rfl)) rfl) rfl ?_;intro f h
  refine ah ?_
  refine hK3 _ _ ?_
  refine wpIn_cond_true (h.ev rfl) ?_
  refine al fun K4 hK4=>?_
  refine ae ?_
  refine ac h (eC qt) rfl ?_;intro f h
  refine ax 0 h s aZ rfl rfl rfl (aq _ _ _ _) (aq _ _ _ _) (a7 (rfl) (rfl)) ?_;intro w1 s
  refine ac h (aj (h.ev rfl)) rfl ?_;intro f h
  refine ah ?_
  refine hK4 _ _ ?_
  refine wpIn_ret ?_
  refine aW ?_
  exact ct 0 rfl h s aZ rfl rfl (aq _ _ _ _) rfl (kO s (pO h0).1 (pO h0).2)
 ·skip
  refine ae ?_
  refine ar 1 h s aL rfl rfl (ak _) rfl ?_;intro f h
  refine aH h s gi (aO (.bool true) (dK m _) (congrArg Value.bool h0)) rfl rfl ?_;intro f w1 v9 hT hE h s;obtain rfl:=hT
  refine ac h (av (.bool false) (bh (h.ev rfl)) rfl) rfl ?_;intro f h
  refine ah ?_
  refine hK3 _ _ ?_
  refine wpIn_cond_false (h.ev rfl) ?_
  refine wpIn_skip ?_
  refine hK2 _ _ ?_
  refine al fun K5 hK5=>?_
  refine mt 0 5 [[],[],[],[2],[0,1,2,3],[0,1,2,3,4],[0,1,2,3,4,5]] [[],[],[],[],[],[],[]] [fun _=>[],fun _=>[],fun _=>[],fun v=>[.sl (v 3) 28 33 [m].length (ap [m])],fun _=>[],fun _=>[],fun _=>[]] [] [fun v=>v 0=.agg ((aw m)),fun v=>v 1=.agg (aw de),fun v=>v 2=.agg ((aw m)),fun v=>∃ a c,v 3=.slice a [m].length c,fun v=>v 4=.agg (aC m de (v 3) a8),fun _=>True,fun _=>True] [.blk b2 (.cells (aC aT aT a8 a8) 42),.blk b1 (.cells ((aw m)) 28)] h s rfl (by kernel_rfl) (by kernel_rfl) (by kernel_rfl) (And.intro ?_ (And.intro ?_ (And.intro ?_ (And.intro ?_ (And.intro ?_ (trivial)))))) [0,1,2,3,4] (by kernel_rfl) ?_
  ·intro f9 w2 vl3 E9 hs9 hd9 hl hF s
   have e1:f9.tmps.getD 1 undef=_:=cI hl 1 (by kernel_rfl) (by kernel_rfl) (h.holds 1 _ rfl)
   have h:=ay [(1,_)] (hs9.trans h.size) (hd9.trans h.defers) (holds_lk ⟨e1,trivial⟩)
   replace s:St w (.blk b2 (.cells (aC aT aT a8 a8) 42)::.blk b1 (.cells ((aw m)) 28)::E9) _:=s
   refine ar 1 h s aL rfl rfl (ak _) rfl ?_;intro f h
   exact ah ⟨_,bi 8 rfl (h.holds 8 _ rfl),rfl,s⟩
  ·intro f9 w2 vl3 E9 hs9 hd9 hl hF s
   have h:=ay [] (hs9.trans h.size) (hd9.trans h.defers) (holds_lk trivial)
   replace s:St w (.blk b2 (.cells (aC aT aT a8 a8) 42)::.blk b1 (.cells ((aw m)) 28)::E9) _:=s
   refine aH h s gb (dL _) rfl rfl ?_;intro f w1 v9 hT hE h s;obtain rfl:=hT
   exact ah ⟨_,bi 9 rfl (h.holds 9 _ rfl),rfl,s⟩
  ·intro f9 w2 vl3 E9 hs9 hd9 hl hF s
   have e1:f9.tmps.getD 1 undef=_:=cI hl 1 (by kernel_rfl) (by kernel_rfl) (h.holds 1 _ rfl)
   have h:=ay [(1,_)] (hs9.trans h.size) (hd9.trans h.defers) (holds_lk ⟨e1,trivial⟩)
   replace s:St w (.blk b2 (.cells (aC aT aT a8 a8) 42)::.blk b1 (.cells ((aw m)) 28)::E9) _:=s
   refine ar 1 h s aL rfl rfl (ak _) rfl ?_;intro f h
   exact ah ⟨_,bi 10 rfl (h.holds 10 _ rfl),rfl,s⟩
  ·intro f9 w2 vl3 E9 hs9 hd9 hl hF s
   have e10:f9.tmps.getD 10 undef=.agg ((aw m)):=(br hl 10 2 (by kernel_rfl) (by kernel_rfl)).trans (hF 2 (by decide))
   have h:=ay [(10,.agg ((aw m)))] (hs9.trans h.size) (hd9.trans h.defers) (holds_lk ⟨e10,trivial⟩)
   replace s:St w (.blk b2 (.cells (aC aT aT a8 a8) 42)::.blk b1 (.cells ((aw m)) 28)::E9) _:=s
   refine cg (vs:=[.agg (aw m)]) [.tmp 10] h s Tryz.underlying36 cP rfl rfl (eS _) rfl rfl rfl ?_;intro f w1 v11 h s
   replace s:=s.resl (m:=[m].length) (ys:=ap [m]) 0 rfl rfl (by rw [c0,cM])
   exact ah ⟨_,bi 11 rfl (h.holds 11 _ rfl),ef (s.getSl 0 rfl),s⟩
  ·intro f9 w2 vl3 E9 hs9 hd9 hl hF s
   have e8:f9.tmps.getD 8 undef=.agg ((aw m)):=(br hl 8 0 (by kernel_rfl) (by kernel_rfl)).trans (hF 0 (by decide))
   have e9:f9.tmps.getD 9 undef=.agg (aw de):=(br hl 9 1 (by kernel_rfl) (by kernel_rfl)).trans (hF 1 (by decide))
   have e11:f9.tmps.getD 11 undef=(vl3 3):=br hl 11 3 (by kernel_rfl) (by kernel_rfl)
   have h:=ay [(8,.agg ((aw m))),(9,.agg (aw de)),(11,(vl3 3))] (hs9.trans h.size) (hd9.trans h.defers) (holds_lk ⟨e8,e9,e11,trivial⟩)
   replace s:St w (.blk b2 (.cells (aC aT aT a8 a8) 42)::.blk b1 (.cells ((aw m)) 28)::E9) _:=s
   obtain ⟨a9,c9,hv9⟩:=hF 3 (by decide)
   refine ac h (oW qt (by rw [show vl3 3=_ from hv9];rfl) (by rw [show vl3 3=_ from hv9];rfl) (h.ev rfl) (h.ev rfl) (h.ev rfl)) rfl ?_;intro f h
   exact ah ⟨_,bi 12 rfl (h.holds 12 _ rfl),rfl,s⟩
  intro f w1 vl3 hs9 hd9 hv hr hF s
  replace hv:=fun i d h9=>hv i d (show Nat.blt i 5=true from h9)
  replace h:=nf 5 (ops:=_) [(8,.agg ((aw m))),(9,.agg (aw de)),(10,.agg ((aw m))),(11,(vl3 3)),(12,.agg (aC m de (vl3 3) a8))] h hs9 hd9 hr ⟨(hv 0 8 rfl rfl).trans (hF 0 (by kernel_rfl)),(hv 1 9 rfl rfl).trans (hF 1 (by kernel_rfl)),(hv 2 10 rfl rfl).trans (hF 2 (by kernel_rfl)),hv 3 11 rfl rfl,(hv 4 12 rfl rfl).trans (hF 4 (by kernel_rfl)),trivial⟩ (by kernel_rfl)
  replace s:St w [.sl (vl3 3) 28 33 [m].length (ap [m]),.blk b2 (.cells (aC aT aT a8 a8) 42),.blk b1 (.cells ((aw m)) 28)] _:=s
  refine ax 1 h s aZ rfl rfl rfl (aq _ _ _ _) (aq _ _ _ _) (a7 (aX (s.getSl 0 rfl)) (rfl)) ?_;intro w1 s
  refine ac h (aj (h.ev rfl)) rfl ?_;intro f h
  refine ah ?_
  refine hK5 _ _ ?_
  refine wpIn_ret ?_
  exact ct 1 rfl h s aZ rfl rfl (aq _ _ _ _) rfl (y4 (qv h0).1 (qv h0).2 (s.pick _ (List.Sublist.cons_cons _ (List.Sublist.cons _ (List.Sublist.cons _ (List.nil_sublist _))))))
set_option maxHeartbeats 1000000 in
theorem uz (L:List N3) (vo:Value) (m:Mb) (no:Int) (w:World) (hO:dN w vo L) (hL:L.length≤40) (hb:RwB L):Calls Tryz.prog 8 [.agg #[vo],.agg (aw m),.int .i64 no].toArray w (cU w (Av w (DR vo L) (zT L m no) (Cy L m no))):=by
 refine bp Tryz.func8 rfl Tryz.ntmps8 rfl [(0,.agg #[vo]),(1,.agg (aw m)),(2,.int .i64 no)] (by simp) fun f h=>?_
 have s:=St.start w
 refine al fun K1 hK1=>?_
 refine ae ?_
 refine bV (#[vo]) h s rfl rfl rfl ?_;intro f w1 b3 h s
 refine bV ((aw m)) h s rfl rfl rfl ?_;intro f w1 b4 h s
 refine bj (#[a8]) h s eY rfl rfl ?_;intro f w1 b6 h s
 refine ac h (aj (h.ev rfl)) rfl ?_;intro f h
 refine ah ?_
 refine hK1 _ _ ?_
 refine al fun K2 hK2=>?_
 refine al fun K3 hK3=>?_
 cases r0:(gm L:Bool)
 ·skip
  refine ae ?_
  refine ar 2 h s a6 rfl rfl (rfl) rfl ?_;intro f h
  refine aH h s jV (aO (.bool false) (d4 L vo _ (hO.keep s.ext) hL hb) (congrArg Value.bool r0)) rfl rfl ?_;intro f w1 v9 hT hE h s;obtain rfl:=hT
  refine ac h (av (.bool true) (bh (h.ev rfl)) rfl) rfl ?_;intro f h
  refine ah ?_
  refine hK3 _ _ ?_
  refine wpIn_cond_true (h.ev rfl) ?_
  refine al fun K4 hK4=>?_
  refine ae ?_
  refine ac h (cG jK) rfl ?_;intro f h
  refine ax 0 h s a6 rfl rfl rfl (rfl) (rfl) (cn (rfl)) ?_;intro w1 s
  refine ac h (aj (h.ev rfl)) rfl ?_;intro f h
  refine ah ?_
  refine hK4 _ _ ?_
  refine wpIn_ret ?_
  refine aW ?_
  exact ct 0 rfl h s a6 rfl rfl (rfl) rfl (iC s (pc (Am r0)).2 (pc (Am r0)).1)
 ·skip
  refine ae ?_
  refine ar 2 h s a6 rfl rfl (rfl) rfl ?_;intro f h
  refine aH h s jV (aO (.bool true) (d4 L vo _ (hO.keep s.ext) hL hb) (congrArg Value.bool r0)) rfl rfl ?_;intro f w1 v9 hT hE h s;obtain rfl:=hT
  refine ac h (av (.bool false) (bh (h.ev rfl)) rfl) rfl ?_;intro f h
  refine ah ?_
  refine hK3 _ _ ?_
  refine wpIn_cond_false (h.ev rfl) ?_
  refine wpIn_skip ?_
  refine hK2 _ _ ?_
  refine al fun K5 hK5=>?_
  cases h0:(dT m:Bool)
  ·skip
   refine ae ?_
   refine ar 1 h s aL rfl rfl (ak _) rfl ?_;intro f h
   refine aH h s AO (nS m _) rfl rfl ?_;rintro f w1 v17 ⟨us,uf,rfl,hS⟩ hE h sq;rw [(pO h0).1,(pO h0).2] at h;rw [(pO h0).1] at hS;replace s:=s.add hS;clear hS
   refine ac h (ag (h.ev rfl)) rfl ?_;intro f h
   refine ac h (bK (h.ev rfl) rfl) rfl ?_;intro f h
   refine ac h (bK (h.ev rfl) rfl) rfl ?_;intro f h
   refine bj (aC aT aT a8 a8) h s ea rfl rfl ?_;intro f w1 b8 h s
   refine ax 0 h s aZ rfl rfl rfl (aq _ _ _ _) (aq _ _ _ _) (a7 (aX (s.getSl 1 rfl)) (aX (s.getSl 2 rfl))) ?_;intro w1 s
   refine ac h (aj (h.ev rfl)) rfl ?_;intro f h
   refine ah ?_
   refine hK5 _ _ ?_
   refine al fun K6 hK6=>?_
   refine al fun K7 hK7=>?_
   refine ae ?_
   refine ac h (ag (h.ev rfl)) rfl ?_;intro f h
   refine ac h (av (.bool true) (c3 (h.ev rfl) (h.ev rfl)) (by rfl)) rfl ?_;intro f h
   refine ah ?_
   refine hK7 _ _ ?_
   refine wpIn_cond_true (h.ev rfl) ?_
   refine al fun K8 hK8=>?_
   refine ae ?_
   refine ac h (cG jK) rfl ?_;intro f h
   refine ac h (ag (h.ev rfl)) rfl ?_;intro f h
   refine ax 3 h s a6 rfl rfl rfl (rfl) (rfl) (cn (rfl)) ?_;intro w1 s
   refine ac h (aj (h.ev rfl)) rfl ?_;intro f h
   refine ah ?_
   refine hK8 _ _ ?_
   refine wpIn_ret ?_
   refine aW ?_
   exact ct 3 rfl h s a6 rfl rfl (rfl) rfl (iC s (pc (Az h0)).2 (pc (Az h0)).1)
  ·skip
   refine ae ?_
   refine ar 1 h s aL rfl rfl (ak _) rfl ?_;intro f h
   refine aH h s AO (nS m _) rfl rfl ?_;rintro f w1 v17 ⟨us,uf,rfl,hS⟩ hE h sq;rw [(qv h0).1,(qv h0).2] at h;rw [(qv h0).1] at hS;replace s:=s.add hS;clear hS
   replace s:=s.resl (m:=1) (ys:=ap [m]) 0 rfl rfl rfl
   refine ac h (ag (h.ev rfl)) rfl ?_;intro f h
   refine ac h (bK (h.ev rfl) rfl) rfl ?_;intro f h
   refine ac h (bK (h.ev rfl) rfl) rfl ?_;intro f h
   refine bj (aC aT aT a8 a8) h s ea rfl rfl ?_;intro f w1 b8 h s
   refine ax 0 h s aZ rfl rfl rfl (aq _ _ _ _) (aq _ _ _ _) (a7 (aX (s.getSl 1 rfl)) (aX (s.getSl 2 rfl))) ?_;intro w1 s
   refine ac h (aj (h.ev rfl)) rfl ?_;intro f h
   refine ah ?_
   refine hK5 _ _ ?_
   refine al fun K9 hK9=>?_
   refine al fun K10 hK10=>?_
   refine ae ?_
   refine ac h (ag (h.ev rfl)) rfl ?_;intro f h
   refine ac h (av (.bool false) (c3 (h.ev rfl) (h.ev rfl)) (by rfl)) rfl ?_;intro f h
   refine ah ?_
   refine hK10 _ _ ?_
   refine wpIn_cond_false (h.ev rfl) ?_
   refine wpIn_skip ?_
   refine hK9 _ _ ?_
   refine al fun K11 hK11=>?_
   refine al fun K12 hK12=>?_
   cases j0:(vg L m:Bool)
   ·skip
    refine ae ?_
    have hok:=AA r0 h0
    have hnos:=(eT r0).rs.nos
    refine ar 5 h s a6 rfl rfl (rfl) rfl ?_;intro f h
    refine ar 4 h s aL rfl rfl (ak _) rfl ?_;intro f h
    refine aH h s A7 (aO (.bool false) (ow L vo m _ (hO.keep s.ext) hL hb) (congrArg Value.bool j0)) rfl rfl ?_;intro f w1 v9 hT hE h s;obtain rfl:=hT
    refine ah ?_
    refine hK12 _ _ ?_
    refine wpIn_cond_false (h.ev rfl) ?_
    refine wpIn_skip ?_
    refine hK11 _ _ ?_
    refine al fun K13 hK13=>?_
    refine al fun K14 hK14=>?_
    refine ae ?_
    refine ac h (ai cp (h.ev rfl)) rfl ?_;intro f h
    refine au (V:=vo) (am (aU.of_own s 5 rfl) 0 rfl) h c4 rfl rfl ?_;intro f h
    refine ac h (bc (hO.1.keep s.ext) Tryz.underlying22 (h.ev rfl)) rfl ?_;intro f h
    refine ac h (c6 (h.ev rfl) (h.ev rfl)) rfl ?_;intro f h
    refine ah ?_
    refine hK14 _ _ ?_
    refine bM h rfl (fun hc=>?_) (fun hc=>?_)
    ·have hl0:0<L.length:=by have:=of_decide_eq_true hc;omega
     refine al fun K15 hK15=>?_
     cases l0:(ce (aM L) no:Bool)
     ·skip
      refine ae ?_
      refine ar 5 h s a6 rfl rfl (rfl) rfl ?_;intro f h
      refine ac h (ag (h.ev rfl)) rfl ?_;intro f h
      refine aH h s iH (aO (.pointer none) (dV L vo no _ (hO.keep s.ext) hL) (ob (of_decide_eq_false ((eX hnos).trans l0)))) rfl rfl ?_;intro f w1 v9 hT hE h s;obtain rfl:=hT
      refine ac h (aj (h.ev rfl)) rfl ?_;intro f h
      refine ah ?_
      refine hK15 _ _ ?_
      refine al fun K16 hK16=>?_
      refine al fun K17 hK17=>?_
      refine ae ?_
      refine ac h (ag (h.ev rfl)) rfl ?_;intro f h
      refine ac h (av (.bool true) (gd Tryz.underlying54 (h.ev rfl) (h.ev rfl)) (rfl)) rfl ?_;intro f h
      refine ah ?_
      refine hK17 _ _ ?_
      refine wpIn_cond_true (h.ev rfl) ?_
      refine al fun K18 hK18=>?_
      refine ae ?_
      refine ac h (cG jK) rfl ?_;intro f h
      refine ax 3 h s a6 rfl rfl rfl (rfl) (rfl) (cn (rfl)) ?_;intro w1 s
      refine ac h (aj (h.ev rfl)) rfl ?_;intro f h
      refine ah ?_
      refine hK18 _ _ ?_
      refine wpIn_ret ?_
      refine aW ?_
      refine aW ?_
      exact ct 3 rfl h s a6 rfl rfl (rfl) rfl (iC s ((mr hok).2.trans (A3 (AN j0 hl0 l0) (by decide))) ((mr hok).1.trans (AN j0 hl0 l0)))
     ·skip
      refine ae ?_
      refine ar 5 h s a6 rfl rfl (rfl) rfl ?_;intro f h
      refine ac h (ag (h.ev rfl)) rfl ?_;intro f h
      refine aH h s iH (aO (.pointer (some (aN vo (eb L no*68)))) (dV L vo no _ (hO.keep s.ext) hL) (mK (of_decide_eq_true ((eX hnos).trans l0)))) rfl rfl ?_;intro f w1 v9 hT hE h s;obtain rfl:=hT
      refine ac h (aj (h.ev rfl)) rfl ?_;intro f h
      refine ah ?_
      refine hK15 _ _ ?_
      refine al fun K19 hK19=>?_
      refine al fun K20 hK20=>?_
      refine ae ?_
      have hix:eb L no<L.length:=of_decide_eq_true ((eX hnos).trans l0)
      refine ac h (ag (h.ev rfl)) rfl ?_;intro f h
      refine ac h (av (.bool false) (gd Tryz.underlying54 (h.ev rfl) (h.ev rfl)) (rfl)) rfl ?_;intro f h
      refine ah ?_
      refine hK20 _ _ ?_
      refine wpIn_cond_false (h.ev rfl) ?_
      refine wpIn_skip ?_
      refine hK19 _ _ ?_
      refine bI 7 [[],[0],[],[2],[2,3],[2,3,4],[0,1,2,3,4,5]] h (by kernel_rfl) (by kernel_rfl) (by kernel_rfl) ?_
      refine ao h (ai bD (h.ev rfl)) rfl ?_;intro f h
      refine a2 (V:=us) (am (aU.of_own s 0 rfl) 66 (bL _ _ _ _)) h bE rfl rfl ?_;intro f h
      refine ao h (ag (h.ev rfl)) rfl ?_;intro f h
      refine ao h (bo (h.ev rfl)) rfl ?_;intro f h
      refine ao h (bG aR (h.ev rfl) ((hO.1.keep s.ext).some (by omega))) rfl ?_;intro f h
      refine bk (bq.elF (hO.1.keep s.ext) (eb L no) 0 33 (by omega) (by decide) (C:=aC (L.getD (eb L no) z3).1.me (L.getD (eb L no) z3).1.pr (L.getD (eb L no) z3).2.1 (L.getD (eb L no) z3).2.2) (df L _ hix) (D:=aw (L.getD (eb L no) z3).1.me) (bT _ _ _ _)) h aL rfl (ak _) rfl ?_;intro f h
      refine ao h (bZ (bq.of_own (s.getSl 1 rfl)) (0) Tryz.underlying36 cz (h.ev rfl) (h.ev rfl) (by omega) (by omega)) rfl ?_;intro f h
      refine cq s fun w1 s=>?_
      refine er 1 (0) h s aL rfl rfl rfl (ak _) (by omega) (aS _) (show _=ap [(L.getD (eb L no) z3).1.me] from q8 (l:=[m]) _ Nat.zero_lt_one) ?_;intro w1 s
      refine ah ?_
      refine hK13 _ _ ?_
      refine al fun K21 hK21=>?_
      refine ae ?_
      refine ar 5 h s a6 rfl rfl (rfl) rfl ?_;intro f h
      refine aH h s tM (f8 L vo _ (hO.keep s.ext) hL hb) rfl rfl ?_;rintro f w1 v46 ⟨vq,K,ks,rfl,hnk,hS⟩ hE h sq;replace s:=s.add hS;clear hS
      have hlk:K.length=L.length:=by have h9:=congrArg List.length hnk;simpa [nds] using h9
      refine ax 7 h s a6 rfl rfl rfl (rfl) (rfl) (cn (aX (s.getSl 0 rfl))) ?_;intro w1 s
      refine ah ?_
      refine hK21 _ _ ?_
      refine al fun K22 hK22=>?_
      refine ae ?_
      refine ac h (ai cp (h.ev rfl)) rfl ?_;intro f h
      refine au (V:=vq) (am (aU.of_own s 7 rfl) 0 rfl) h c4 rfl rfl ?_;intro f h
      refine ar 2 h s aZ rfl rfl (aq _ _ _ _) rfl ?_;intro f h
      have ho1:=aX (s.getSl 3 rfl)
      have ho2:=aX (s.getSl 4 rfl)
      refine cg (vs:=[.agg (aC m de us uf)]) [.tmp 49] h s Tryz.underlying22 fc rfl rfl (f5 ((⟨m,de,[(L.getD (eb L no) z3).1.me],[]⟩,us,uf):N3)) rfl rfl rfl ?_;intro f w1 v50 h s
      replace s:=s.resl (m:=1) (ys:=nG ((⟨m,de,[(L.getD (eb L no) z3).1.me],[]⟩,us,uf):N3)) 0 rfl rfl (gQ ((⟨m,de,[(L.getD (eb L no) z3).1.me],[]⟩,us,uf):N3))
      refine cZ 1 0 h s Tryz.underlying22 fc rfl rfl rfl rfl (by decide) (a7 ho1 ho2) (by unfold maxLen;omega) (by omega) rfl ?_;intro f w1 v51 h s
      replace s:=s.pick _ (List.sublist_cons_self _ _)
      replace s:=s.resl (m:=(K++[((⟨m,de,[(L.getD (eb L no) z3).1.me],[]⟩,us,uf):N3)]).length) (ys:=aD (K++[((⟨m,de,[(L.getD (eb L no) z3).1.me],[]⟩,us,uf):N3)])) 0 rfl (by rw [List.length_append];rfl) (f7 _ _)
      refine ac h (ai cp (h.ev rfl)) rfl ?_;intro f h
      refine bg 7 h s c4 rfl rfl rfl (by show 0<1;decide) (aX (s.getSl 0 rfl)) ?_;intro w1 s
      replace s:=s.recell (D:=#[v51]) 7 rfl rfl
      refine ah ?_
      refine hK22 _ _ ?_
      refine al fun K23 hK23=>?_
      refine ae ?_
      refine ac h (ai cp (h.ev rfl)) rfl ?_;intro f h
      refine au (V:=v51) (am (aU.of_own s 7 rfl) 0 rfl) h c4 rfl rfl ?_;intro f h
      have hrs:=(eT r0).rs
      have ho9:∀ y∈K++[((⟨m,de,[(L.getD (eb L no) z3).1.me],[]⟩,us,uf):N3)],y.2.1.oneCell'=true∧y.2.2.oneCell'=true:=fun y hy=>by rcases List.mem_append.1 hy with hy|hy;exact(s.getG 1 rfl y hy).ones;rw [List.mem_singleton] at hy;subst hy;exact ⟨ho1,ho2⟩
      refine dq [v51,.func (.func 38) #[] #[]] h A5 (qJ (K++[((⟨m,de,[(L.getD (eb L no) z3).1.me],[]⟩,us,uf):N3)]) (by rw [List.length_append];show K.length+1≤1000;omega) ho9 (sp hrs j0 hnk rfl) v51 _ _ _ s) rfl rfl ?_;rintro f w1 r ⟨K2,hkp,hks,s⟩ h
      replace s:=s.bring 1 rfl
      replace s:=s.bring 4 rfl
      replace s:=s.bring 4 rfl
      replace s:St w [.sl us 28 33 1 (ap [(L.getD (eb L no) z3).1.me]),.sl uf 28 33 ([]:List Mb).length (ap []),(.grp ks (cS K)),.sl v51 42 68 K2.length (aD K2),.blk b8 (.cells (aC m de us uf) 42),.blk b6 (.cells (#[a8]) 24),.blk b4 (.cells ((aw m)) 28),.blk b3 (.cells (#[v51]) 24)] _:=s
      obtain ⟨kn,s⟩:=s.grpR (S':=cS K2) (fun w9 h1 h2 h3 y hy=>by rcases List.mem_append.1 (hkp.mem_iff.1 hy) with hy|hy;exact h3 y hy;rw [List.mem_singleton] at hy;subst hy;exact ⟨h1,h2⟩)
      refine ah ?_
      refine hK23 _ _ ?_
      refine al fun K24 hK24=>?_
      refine ae ?_
      refine ar 5 h s a6 rfl rfl (rfl) rfl ?_;intro f h
      refine ax 3 h s a6 rfl rfl rfl (rfl) (rfl) (cn (aX (s.getSl 1 rfl))) ?_;intro w1 s
      refine ac h (aj (h.ev rfl)) rfl ?_;intro f h
      refine ah ?_
      refine hK24 _ _ ?_
      refine wpIn_ret ?_
      exact ct 3 rfl h s a6 rfl rfl (rfl) rfl (m7 ((mr hok).1.trans (zG j0 (.inr l0))) (p8 (wq hok hrs j0 (zG j0 (.inr l0)) hnk (by rw [EE hl0,← (nA hix).1]) hkp hks) (s.sel [1,0] rfl (by decide))))
    ·have hl0:¬ 0<L.length:=by have:=of_decide_eq_false hc;omega
     refine wpIn_skip ?_
     refine hK13 _ _ ?_
     refine al fun K25 hK25=>?_
     refine ae ?_
     refine ar 5 h s a6 rfl rfl (rfl) rfl ?_;intro f h
     refine aH h s tM (f8 L vo _ (hO.keep s.ext) hL hb) rfl rfl ?_;rintro f w1 v46 ⟨vq,K,ks,rfl,hnk,hS⟩ hE h sq;replace s:=s.add hS;clear hS
     have hlk:K.length=L.length:=by have h9:=congrArg List.length hnk;simpa [nds] using h9
     refine ax 7 h s a6 rfl rfl rfl (rfl) (rfl) (cn (aX (s.getSl 0 rfl))) ?_;intro w1 s
     refine ah ?_
     refine hK25 _ _ ?_
     refine al fun K26 hK26=>?_
     refine ae ?_
     refine ac h (ai cp (h.ev rfl)) rfl ?_;intro f h
     refine au (V:=vq) (am (aU.of_own s 7 rfl) 0 rfl) h c4 rfl rfl ?_;intro f h
     refine ar 2 h s aZ rfl rfl (aq _ _ _ _) rfl ?_;intro f h
     have ho1:=aX (s.getSl 3 rfl)
     have ho2:=aX (s.getSl 4 rfl)
     refine cg (vs:=[.agg (aC m de us uf)]) [.tmp 49] h s Tryz.underlying22 fc rfl rfl (f5 ((⟨m,de,[m],[]⟩,us,uf):N3)) rfl rfl rfl ?_;intro f w1 v50 h s
     replace s:=s.resl (m:=1) (ys:=nG ((⟨m,de,[m],[]⟩,us,uf):N3)) 0 rfl rfl (gQ ((⟨m,de,[m],[]⟩,us,uf):N3))
     refine cZ 1 0 h s Tryz.underlying22 fc rfl rfl rfl rfl (by decide) (a7 ho1 ho2) (by unfold maxLen;omega) (by omega) rfl ?_;intro f w1 v51 h s
     replace s:=s.pick _ (List.sublist_cons_self _ _)
     replace s:=s.resl (m:=(K++[((⟨m,de,[m],[]⟩,us,uf):N3)]).length) (ys:=aD (K++[((⟨m,de,[m],[]⟩,us,uf):N3)])) 0 rfl (by rw [List.length_append];rfl) (f7 _ _)
     refine ac h (ai cp (h.ev rfl)) rfl ?_;intro f h
     refine bg 7 h s c4 rfl rfl rfl (by show 0<1;decide) (aX (s.getSl 0 rfl)) ?_;intro w1 s
     replace s:=s.recell (D:=#[v51]) 7 rfl rfl
     refine ah ?_
     refine hK26 _ _ ?_
     refine al fun K27 hK27=>?_
     refine ae ?_
     refine ac h (ai cp (h.ev rfl)) rfl ?_;intro f h
     refine au (V:=v51) (am (aU.of_own s 7 rfl) 0 rfl) h c4 rfl rfl ?_;intro f h
     have hrs:=(eT r0).rs
     have ho9:∀ y∈K++[((⟨m,de,[m],[]⟩,us,uf):N3)],y.2.1.oneCell'=true∧y.2.2.oneCell'=true:=fun y hy=>by rcases List.mem_append.1 hy with hy|hy;exact(s.getG 1 rfl y hy).ones;rw [List.mem_singleton] at hy;subst hy;exact ⟨ho1,ho2⟩
     refine dq [v51,.func (.func 38) #[] #[]] h A5 (qJ (K++[((⟨m,de,[m],[]⟩,us,uf):N3)]) (by rw [List.length_append];show K.length+1≤1000;omega) ho9 (sp hrs j0 hnk rfl) v51 _ _ _ s) rfl rfl ?_;rintro f w1 r ⟨K2,hkp,hks,s⟩ h
     replace s:=s.bring 1 rfl
     replace s:=s.bring 4 rfl
     replace s:=s.bring 4 rfl
     replace s:St w [.sl us 28 33 1 (ap [m]),.sl uf 28 33 ([]:List Mb).length (ap []),(.grp ks (cS K)),.sl v51 42 68 K2.length (aD K2),.blk b8 (.cells (aC m de us uf) 42),.blk b6 (.cells (#[a8]) 24),.blk b4 (.cells ((aw m)) 28),.blk b3 (.cells (#[v51]) 24)] _:=s
     obtain ⟨kn,s⟩:=s.grpR (S':=cS K2) (fun w9 h1 h2 h3 y hy=>by rcases List.mem_append.1 (hkp.mem_iff.1 hy) with hy|hy;exact h3 y hy;rw [List.mem_singleton] at hy;subst hy;exact ⟨h1,h2⟩)
     refine ah ?_
     refine hK27 _ _ ?_
     refine al fun K28 hK28=>?_
     refine ae ?_
     refine ar 5 h s a6 rfl rfl (rfl) rfl ?_;intro f h
     refine ax 3 h s a6 rfl rfl rfl (rfl) (rfl) (cn (aX (s.getSl 1 rfl))) ?_;intro w1 s
     refine ac h (aj (h.ev rfl)) rfl ?_;intro f h
     refine ah ?_
     refine hK28 _ _ ?_
     refine wpIn_ret ?_
     exact ct 3 rfl h s a6 rfl rfl (rfl) rfl (m7 ((mr hok).1.trans (zG j0 (.inl hl0))) (p8 (wq hok hrs j0 (zG j0 (.inl hl0)) hnk (by rw [D1 hl0]) hkp hks) (s.sel [1,0] rfl (by decide))))
   ·skip
    refine ae ?_
    have hok:=AA r0 h0
    have hnos:=(eT r0).rs.nos
    refine ar 5 h s a6 rfl rfl (rfl) rfl ?_;intro f h
    refine ar 4 h s aL rfl rfl (ak _) rfl ?_;intro f h
    refine aH h s A7 (aO (.bool true) (ow L vo m _ (hO.keep s.ext) hL hb) (congrArg Value.bool j0)) rfl rfl ?_;intro f w1 v9 hT hE h s;obtain rfl:=hT
    refine ah ?_
    refine hK12 _ _ ?_
    refine wpIn_cond_true (h.ev rfl) ?_
    refine al fun K29 hK29=>?_
    refine ae ?_
    refine ac h (cG jK) rfl ?_;intro f h
    refine ax 3 h s a6 rfl rfl rfl (rfl) (rfl) (cn (rfl)) ?_;intro w1 s
    refine ac h (aj (h.ev rfl)) rfl ?_;intro f h
    refine ah ?_
    refine hK29 _ _ ?_
    refine wpIn_ret ?_
    refine aW ?_
    exact ct 3 rfl h s a6 rfl rfl (rfl) rfl (iC s ((mr hok).2.trans (A3 (Dy j0) (by decide))) ((mr hok).1.trans (Dy j0)))
end Go.Proofs.YthggibfkgofncaaGreat
