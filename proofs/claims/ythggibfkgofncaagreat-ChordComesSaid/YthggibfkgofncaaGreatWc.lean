/- Overlays, copied; an overlay opened; who is taken; what Join of package chord answers. -/
import Derived.Test.YthggibfkgofncaaGreatWa
import Derived.Test.YthggibfkgofncaaGreatSn
set_option linter.unusedVariables false
set_option linter.unusedSimpArgs false
set_option linter.unusedSectionVars false
namespace Go.Proofs.YthggibfkgofncaaGreat
open Go.RowKit
theorem sk (L:List N3) (hL:L.length≤1000) (a9:Option Addr) (n9 c9:Nat) (w:World) (hR:bK w (.slice a9 n9 c9) 68 L.length (aK L)) (ho:∀ x∈L,j4 w x):Calls Tryz.prog 70 [.slice a9 n9 c9].toArray w (cT w (fun v w'=>cN w' w.heap.size 42 68 v L.length (aK L))):=by
 refine bj Tryz.func70 rfl Tryz.ntmps70 rfl [(0,.slice a9 n9 c9)] (by simp) fun f h=>?_
 have s:=St.start w
 refine aj fun K1 hK1=>?_
 refine ae ?_
 refine ac h (ai (h.ev rfl)) rfl ?_;intro f h
 refine ah ?_
 refine hK1 _ _ ?_
 refine aj fun K2 hK2=>?_
 refine aj fun K3 hK3=>?_
 cases hn:(a9.isNone:Bool)
 ·skip
  refine ae ?_
  refine ac h (ag (h.ev rfl)) rfl ?_;intro f h
  refine ac h (aw (.bool false) (fU Tryz.underlying22 (h.ev rfl) (h.ev rfl)) (congrArg Value.bool hn)) rfl ?_;intro f h
  refine ah ?_
  refine hK3 _ _ ?_
  refine wpIn_cond_false (h.ev rfl) ?_
  refine wpIn_skip ?_
  refine hK2 _ _ ?_
  refine aj fun K4 hK4=>?_
  refine ae ?_
  refine mN (base:=w.heap.size) h Tryz.underlying22 er (Nat.le_refl _) rfl ?_;intro f w2 v5 h hE3 e5
  refine ac h (ag (h.ev rfl)) rfl ?_;intro f h
  refine jU (base:=w.heap.size) e5 (hR.keep hE3) h Tryz.underlying22 er rfl rfl hE3.le (n7 ho) (by unfold maxLen;omega) (by omega) rfl ?_;intro f w3 v7 h hE4 e7
  replace s:=s.sl_new (hE3.trans hE4) e7
  refine ac h (ai (h.ev rfl)) rfl ?_;intro f h
  refine ah ?_
  refine hK4 _ _ ?_
  refine wpIn_ret ?_
  exact aX rfl h s rfl (s.getSl 0 rfl)
 ·skip
  refine ae ?_
  refine ac h (ag (h.ev rfl)) rfl ?_;intro f h
  refine ac h (aw (.bool true) (fU Tryz.underlying22 (h.ev rfl) (h.ev rfl)) (congrArg Value.bool hn)) rfl ?_;intro f h
  refine ah ?_
  refine hK3 _ _ ?_
  refine wpIn_cond_true (h.ev rfl) ?_
  refine aj fun K5 hK5=>?_
  refine ae ?_
  refine ac h (ai (h.ev rfl)) rfl ?_;intro f h
  refine ah ?_
  refine hK5 _ _ ?_
  refine wpIn_ret ?_
  refine aQ ?_
  exact aX rfl h s rfl (by obtain rfl:=pZ hn hR;exact gf _ _ _ _)
theorem pV (L:List N3) (hL:L.length≤1000) (v9:Value) (w:World) (hR:bK w v9 68 L.length (aK L)) (ho:∀ x∈L,j4 w x):Calls Tryz.prog 70 [v9].toArray w (cT w (fun v w'=>cN w' w.heap.size 42 68 v L.length (aK L))):=by
 obtain ⟨a,c,rfl⟩:=hR.len
 exact sk L hL a _ c w hR ho
set_option maxHeartbeats 1000000 in
theorem gS (L:List N3) (vo:Value) (w:World) (hO:cf w vo L) (hL:L.length≤40) (hb:RwB L):Calls Tryz.prog 36 [.agg #[vo]].toArray w (cT w (BY w 42 (nds L))):=by
 refine eU Tryz.func36 rfl Tryz.ntmps36 rfl [(0,.agg #[vo])] (by simp) fun f h=>?_
 have s:=St.start w
 refine aj fun K1 hK1=>?_
 refine ae ?_
 refine bT (#[vo]) h s rfl rfl rfl ?_;intro f w1 b1 h s
 refine ba (#[bo]) h s dY rfl rfl ?_;intro f w1 b2 h s
 refine ah ?_
 refine hK1 _ _ ?_
 refine aj fun K2 hK2=>?_
 refine ae ?_
 refine ac h (al cb (h.ev rfl)) rfl ?_;intro f h
 refine ar (V:=vo) (am (bc.of_own s 1 rfl) 0 rfl) h cH rfl rfl ?_;intro f h
 refine aF h s AI (pV L (by omega) vo _ (hO.1.keep s.ext) (fun x hx=>(hO.2 x hx).keep s.ext)) rfl rfl ?_;intro f w1 v6 hT hE h sq;replace s:=s.sl_new hE hT
 refine ac h (al cb (h.ev rfl)) rfl ?_;intro f h
 refine bp 2 h s cH rfl rfl rfl (by show 0<1;decide) (bP (s.getSl 0 rfl)) ?_;intro w1 s
 replace s:=s.recell (D:=#[v6]) 2 rfl rfl
 refine ah ?_
 refine hK2 _ _ ?_
 refine aj fun K3 hK3=>?_
 refine aj fun K4 hK4=>?_
 refine ae ?_
 replace s:=s.grp0 (S:=fN (L.take 0)) (fun _ x hx=>by simp at hx)
 refine ao 3 h s aU rfl rfl (rfl) rfl ?_;intro f h
 refine eP [.agg #[v6]] h mR (f5 v6 _ _ _ s) rfl rfl ?_;rintro f w1 r ⟨bn,rfl,s⟩ h
 refine ah ?_
 refine hK4 _ _ ?_
 refine wpIn_block ?_
 refine eV (fun d A9=>∃ (Kd:List N3) (kd:List Nat),(nds Kd=nds L∧∀ j,d≤j→Kd.getD j z3=L.getD j z3)∧A9=[.grp kd (fN (Kd.take d)),.sl v6 42 68 Kd.length (aK Kd),.blk b2 (.cells (#[bo]) 24),.blk b1 (.cells #[v6] 24)]) [.grp [] (fN (L.take 0)),.sl v6 42 68 L.length (aK L),.blk b2 (.cells (#[bo]) 24),.blk b1 (.cells #[v6] 24)] [.blk bn (.cells #[v6] 24)] (L.length) (fun _=>false) (fun d=>[Value.pointer (some (bs v6 (d*68)))]) h s rfl mJ (List.Perm.refl _) (⟨L,[],⟨rfl,fun j _=>rfl⟩,rfl⟩) (fun _=>rfl) ?_ ?_ ?_ ?_
 ·intro lp w2 GG g0 hg0 s2 hY;exact fp L.length (by omega) v6 _ _ (bK.of_own (s.getSl 2 rfl)) lp bn (fun _=>false) GG g0 w w2 s2 hg0 hY
 ·intro lp D9 d9 rc R9 A9 w2 hd9 hq9 hJ9 s
  obtain ⟨Kd,kd,⟨hkn,hkj⟩,rfl⟩:=hJ9
  have h:=Sl.round1 (p:=10) (V:=.pointer (some (bs v6 (d9*68)))) h rfl
  have hdl9:=hd9
  have hlk:Kd.length=L.length:=by have h9:=congrArg List.length hkn;simpa [nds] using h9
  have hdk:d9<Kd.length:=by omega
  have hxd:Kd.getD d9 z3=L.getD d9 z3:=hkj d9 (Nat.le_refl _)
  have hx9:=hb.each _ (bh hdl9)
  refine ae ?_
  refine ac h (ai (h.ev rfl)) rfl ?_;intro f h
  refine ah ?_
  refine bQ ?_
  refine ⟨_,s,fun w3 s=>?_⟩
  refine wpIn_block ?_
  refine aj fun K5 hK5=>?_
  refine ae ?_
  refine ac h (ag (h.ev rfl)) rfl ?_;intro f h
  refine ac h (ag (h.ev rfl)) rfl ?_;intro f h
  refine ac h (bN (h.ev rfl)) rfl ?_;intro f h
  refine ac h (ca bI (h.ev rfl) ((bK.of_own (s.getSl 3 rfl)).some (by omega))) rfl ?_;intro f h
  refine ar (V:=(Kd.getD d9 z3).2.1) (fx (bK.of_own (s.getSl 3 rfl)) (d9*68+66) (qf Kd d9 hdk)) h bH rfl rfl ?_;intro f h
  refine aF h s ri (gv (L.getD d9 z3).1.sc (by omega) (Kd.getD d9 z3).2.1 _ (by rw [hxd];exact(hO.2 _ (bh hdl9)).1.keep s.ext)) rfl rfl ?_;intro f w1 v16 hT hE h sq;replace s:=s.sl_new hE hT
  refine ac h (bN (h.ev rfl)) rfl ?_;intro f h
  refine ac h (ca bI (h.ev rfl) ((bK.of_own (s.getSl 4 rfl)).some (by omega))) rfl ?_;intro f h
  refine kv 4 h s bH rfl rfl rfl (by omega) (bP (s.getSl 0 rfl)) (show (aK Kd).set (d9*68+66) v16=aK (Kd.set d9 ((⟨(Kd.getD d9 z3).1.me,(Kd.getD d9 z3).1.pr,(Kd.getD d9 z3).1.sc,(Kd.getD d9 z3).1.fg⟩,v16,(Kd.getD d9 z3).2.2):N3)) from tJ hdk _ _) ?_;intro w1 s
  refine ah ?_
  refine hK5 _ _ ?_
  refine ae ?_
  refine ac h (ag (h.ev rfl)) rfl ?_;intro f h
  refine ac h (ag (h.ev rfl)) rfl ?_;intro f h
  refine ac h (bN (h.ev rfl)) rfl ?_;intro f h
  refine ac h (ca cC (h.ev rfl) ((bK.of_own (s.getSl 4 rfl)).some (by omega))) rfl ?_;intro f h
  refine ar (V:=(Kd.getD d9 z3).2.2) (fx (bK.of_own (s.getSl 4 rfl)) (d9*68+67) ((zx _ d9 (by rw [List.length_set];exact hdk)).trans (by rw [pO hdk]))) h bH rfl rfl ?_;intro f h
  refine aF h s ri (gv (L.getD d9 z3).1.fg (by omega) (Kd.getD d9 z3).2.2 _ (by rw [hxd];exact(hO.2 _ (bh hdl9)).2.keep s.ext)) rfl rfl ?_;intro f w1 v24 hT hE h sq;replace s:=s.sl_new hE hT
  refine ac h (bN (h.ev rfl)) rfl ?_;intro f h
  refine ac h (ca cC (h.ev rfl) ((bK.of_own (s.getSl 5 rfl)).some (by omega))) rfl ?_;intro f h
  refine kv 5 h s bH rfl rfl rfl (by omega) (bP (s.getSl 0 rfl)) (show (aK (Kd.set d9 ((⟨(Kd.getD d9 z3).1.me,(Kd.getD d9 z3).1.pr,(Kd.getD d9 z3).1.sc,(Kd.getD d9 z3).1.fg⟩,v16,(Kd.getD d9 z3).2.2):N3))).set (d9*68+67) v24=aK (Kd.set d9 ((⟨(Kd.getD d9 z3).1.me,(Kd.getD d9 z3).1.pr,(Kd.getD d9 z3).1.sc,(Kd.getD d9 z3).1.fg⟩,v16,v24):N3)) from (vE (by rw [List.length_set];exact hdk) _ (Kd.getD d9 z3).1.fg).trans (by rw [pO hdk,uK])) ?_;intro w1 s
  replace s:=s.resl (m:=(Kd.set d9 ((⟨(Kd.getD d9 z3).1.me,(Kd.getD d9 z3).1.pr,(Kd.getD d9 z3).1.sc,(Kd.getD d9 z3).1.fg⟩,v16,v24):N3)).length) (ys:=aK (Kd.set d9 ((⟨(Kd.getD d9 z3).1.me,(Kd.getD d9 z3).1.pr,(Kd.getD d9 z3).1.sc,(Kd.getD d9 z3).1.fg⟩,v16,v24):N3))) 5 rfl (by rw [List.length_set]) rfl
  refine ah ?_
  refine bF ?_
  replace s:=s.bring 4 rfl
  replace s:=s.bring 1 rfl
  replace s:=s.bring 2 rfl
  replace s:St w (.sl v16 28 33 (L.getD d9 z3).1.sc.length (av (L.getD d9 z3).1.sc)::.sl v24 28 33 (L.getD d9 z3).1.fg.length (av (L.getD d9 z3).1.fg)::(.grp kd (fN (Kd.take d9)))::.blk lp (.loop (rc .busy))::.blk D9 (.deferred (some []))::.sl v6 42 68 (Kd.set d9 ((⟨(Kd.getD d9 z3).1.me,(Kd.getD d9 z3).1.pr,(Kd.getD d9 z3).1.sc,(Kd.getD d9 z3).1.fg⟩,v16,v24):N3)).length (aK (Kd.set d9 ((⟨(Kd.getD d9 z3).1.me,(Kd.getD d9 z3).1.pr,(Kd.getD d9 z3).1.sc,(Kd.getD d9 z3).1.fg⟩,v16,v24):N3)))::.blk b2 (.cells (#[bo]) 24)::.blk b1 (.cells (#[v6]) 24)::R9) _:=s
  obtain ⟨kn,s⟩:=s.grpR (S':=fN ((Kd.set d9 ((⟨(Kd.getD d9 z3).1.me,(Kd.getD d9 z3).1.pr,(Kd.getD d9 z3).1.sc,(Kd.getD d9 z3).1.fg⟩,v16,v24):N3)).take (d9+1))) (fun w9 h1 h2 h3=>wz hdk h3 ⟨by rw [← hxd] at h1;exact h1,by rw [← hxd] at h2;exact h2⟩)
  replace s:=s.bring 2 rfl
  replace s:=s.bring 2 rfl
  replace s:St w (.blk lp (.loop (rc .busy))::.blk D9 (.deferred (some []))::(.grp kn (fN ((Kd.set d9 ((⟨(Kd.getD d9 z3).1.me,(Kd.getD d9 z3).1.pr,(Kd.getD d9 z3).1.sc,(Kd.getD d9 z3).1.fg⟩,v16,v24):N3)).take (d9+1))))::.sl v6 42 68 (Kd.set d9 ((⟨(Kd.getD d9 z3).1.me,(Kd.getD d9 z3).1.pr,(Kd.getD d9 z3).1.sc,(Kd.getD d9 z3).1.fg⟩,v16,v24):N3)).length (aK (Kd.set d9 ((⟨(Kd.getD d9 z3).1.me,(Kd.getD d9 z3).1.pr,(Kd.getD d9 z3).1.sc,(Kd.getD d9 z3).1.fg⟩,v16,v24):N3)))::.blk b2 (.cells (#[bo]) 24)::.blk b1 (.cells (#[v6]) 24)::R9) _:=s
  refine ⟨rfl,_,⟨(Kd.set d9 ((⟨(Kd.getD d9 z3).1.me,(Kd.getD d9 z3).1.pr,(Kd.getD d9 z3).1.sc,(Kd.getD d9 z3).1.fg⟩,v16,v24):N3)),kn,⟨wo hkn rfl hdk,fun j hj=>(Ak (by omega) _).trans (hkj j (by omega))⟩,rfl⟩,s.pick _ ?_⟩
  exact List.Sublist.cons_cons _ (List.Sublist.refl _)
 ·intro D9 A9 w2 hJ9 hq9 s
  obtain ⟨Kd,kd,⟨hkn,hkj⟩,rfl⟩:=hJ9
  replace h:Sl _ {f with defers:={target:=.collected D9,args:=#[]}::f.defers} _ [{target:=.collected D9,args:=#[]}]:=⟨h.size,by rw [h.defers],h.holds⟩
  have hlk:Kd.length=L.length:=by have h9:=congrArg List.length hkn;simpa [nds] using h9
  rw [show Kd.take L.length=Kd from List.take_of_length_le (by omega)] at s
  refine bF ?_
  refine hK3 _ _ ?_
  refine aj fun K6 hK6=>?_
  refine ae ?_
  refine ao 5 h s aU rfl rfl (rfl) rfl ?_;intro f h
  refine ay 4 h s aU rfl rfl rfl (rfl) (rfl) (cj (bP (s.getSl 3 rfl))) ?_;intro w1 s
  refine ah ?_
  refine hK6 _ _ ?_
  refine wpIn_ret ?_
  exact uk 4 0 rfl h s aU rfl rfl rfl rfl (rfl) (fun w9 s9=>⟨v6,Kd,kd,rfl,hkn,s9.sel [3,2] rfl (by decide)⟩)
 ·intro D9 d9 A9 w2 hd9 hqd9 hq9 hJ9 s
  cases hqd9
theorem jm (L:List N3) (vo:Value) (no:Int) (w:World) (hO:cf w vo L) (hL:L.length≤40) (hb:RwB L):Calls Tryz.prog 40 [.agg #[vo],.int .i64 no].toArray w (cT w (AE w 42 L no)):=by
 refine bj Tryz.func40 rfl Tryz.ntmps40 rfl [(0,.agg #[vo]),(1,.int .i64 no)] (by simp) fun f h=>?_
 have s:=St.start w
 refine aj fun K1 hK1=>?_
 refine ae ?_
 refine bT (#[vo]) h s rfl rfl rfl ?_;intro f w1 b2 h s
 refine ba (#[bo]) h s dY rfl rfl ?_;intro f w1 b4 h s
 refine ac h (ai (h.ev rfl)) rfl ?_;intro f h
 refine ac h (ai (h.ev rfl)) rfl ?_;intro f h
 refine ah ?_
 refine hK1 _ _ ?_
 refine aj fun K2 hK2=>?_
 refine aj fun K3 hK3=>?_
 cases r0:(fQ L:Bool)
 ·skip
  refine ae ?_
  refine ao 1 h s aU rfl rfl (rfl) rfl ?_;intro f h
  refine aF h s jP (aO (.bool false) (dB L vo _ (hO.keep s.ext) hL hb) (congrArg Value.bool r0)) rfl rfl ?_;intro f w1 v9 hT hE h s;obtain rfl:=hT
  refine ac h (aw (.bool true) (bg (h.ev rfl)) rfl) rfl ?_;intro f h
  refine ah ?_
  refine hK3 _ _ ?_
  refine wpIn_cond_true (h.ev rfl) ?_
  refine aj fun K4 hK4=>?_
  refine ae ?_
  refine ac h (bM eE) rfl ?_;intro f h
  refine ay 0 h s aU rfl rfl rfl (rfl) (rfl) (cj (rfl)) ?_;intro w1 s
  refine ac h (ai (h.ev rfl)) rfl ?_;intro f h
  refine ac h (ai (h.ev rfl)) rfl ?_;intro f h
  refine ah ?_
  refine hK4 _ _ ?_
  refine wpIn_ret ?_
  refine aQ ?_
  exact jq 0 rfl h s aU rfl rfl (rfl) rfl rfl (.inl ⟨1,vw r0,by decide,rfl⟩)
 ·skip
  refine ae ?_
  refine ao 1 h s aU rfl rfl (rfl) rfl ?_;intro f h
  refine aF h s jP (aO (.bool true) (dB L vo _ (hO.keep s.ext) hL hb) (congrArg Value.bool r0)) rfl rfl ?_;intro f w1 v9 hT hE h s;obtain rfl:=hT
  refine ac h (aw (.bool false) (bg (h.ev rfl)) rfl) rfl ?_;intro f h
  refine ah ?_
  refine hK3 _ _ ?_
  refine wpIn_cond_false (h.ev rfl) ?_
  refine wpIn_skip ?_
  refine hK2 _ _ ?_
  refine aj fun K5 hK5=>?_
  refine ae ?_
  refine ao 1 h s aU rfl rfl (rfl) rfl ?_;intro f h
  refine aF h s tR (gS L vo _ (hO.keep s.ext) hL hb) rfl rfl ?_;rintro f w1 v13 ⟨vq,K,ks,rfl,hnk,hS⟩ hE h sq;replace s:=s.add hS;clear hS
  have hlk:K.length=L.length:=by have h9:=congrArg List.length hnk;simpa [nds] using h9
  refine ay 3 h s aU rfl rfl rfl (rfl) (rfl) (cj (bP (s.getSl 0 rfl))) ?_;intro w1 s
  refine ah ?_
  refine hK5 _ _ ?_
  refine aj fun K6 hK6=>?_
  cases l0:(cw (aN L) no:Bool)
  ·skip
   refine ae ?_
   have hnos:=(ex r0).rs.nos
   have hixe:=nH hnk no
   refine ao 3 h s aU rfl rfl (rfl) rfl ?_;intro f h
   refine ac h (ag (h.ev rfl)) rfl ?_;intro f h
   refine aF h s kP (aO (.pointer none) (ej K vq no _ ⟨bK.of_own (s.getSl 0 rfl),s.getG 1 rfl⟩ (by omega)) (oX (by rw [hixe,hlk];exact of_decide_eq_false ((d6 hnos).trans l0)))) rfl rfl ?_;intro f w1 v9 hT hE h s;obtain rfl:=hT
   refine ac h (ai (h.ev rfl)) rfl ?_;intro f h
   refine ah ?_
   refine hK6 _ _ ?_
   refine aj fun K7 hK7=>?_
   refine aj fun K8 hK8=>?_
   refine ae ?_
   refine ac h (ag (h.ev rfl)) rfl ?_;intro f h
   refine ac h (aw (.bool true) (en Tryz.underlying54 (h.ev rfl) (h.ev rfl)) (rfl)) rfl ?_;intro f h
   refine ah ?_
   refine hK8 _ _ ?_
   refine wpIn_cond_true (h.ev rfl) ?_
   refine aj fun K9 hK9=>?_
   refine ae ?_
   refine ac h (bM eE) rfl ?_;intro f h
   refine ay 2 h s aU rfl rfl rfl (rfl) (rfl) (cj (rfl)) ?_;intro w1 s
   refine ac h (ai (h.ev rfl)) rfl ?_;intro f h
   refine ac h (ai (h.ev rfl)) rfl ?_;intro f h
   refine ah ?_
   refine hK9 _ _ ?_
   refine wpIn_ret ?_
   refine aQ ?_
   exact jq 2 rfl h s aU rfl rfl (rfl) rfl rfl (.inl ⟨10,re r0 l0,by decide,rfl⟩)
  ·skip
   refine ae ?_
   have hnos:=(ex r0).rs.nos
   have hixe:=nH hnk no
   refine ao 3 h s aU rfl rfl (rfl) rfl ?_;intro f h
   refine ac h (ag (h.ev rfl)) rfl ?_;intro f h
   refine aF h s kP (aO (.pointer (some (bs vq (bG L no*68)))) (ej K vq no _ ⟨bK.of_own (s.getSl 0 rfl),s.getG 1 rfl⟩ (by omega)) (by rw [← hixe];exact oU (by rw [hixe,hlk];exact of_decide_eq_true ((d6 hnos).trans l0)))) rfl rfl ?_;intro f w1 v9 hT hE h s;obtain rfl:=hT
   refine ac h (ai (h.ev rfl)) rfl ?_;intro f h
   refine ah ?_
   refine hK6 _ _ ?_
   refine aj fun K10 hK10=>?_
   refine aj fun K11 hK11=>?_
   refine ae ?_
   refine ac h (ag (h.ev rfl)) rfl ?_;intro f h
   refine ac h (aw (.bool false) (en Tryz.underlying54 (h.ev rfl) (h.ev rfl)) (rfl)) rfl ?_;intro f h
   refine ah ?_
   refine hK11 _ _ ?_
   refine wpIn_cond_false (h.ev rfl) ?_
   refine wpIn_skip ?_
   refine hK10 _ _ ?_
   refine aj fun K12 hK12=>?_
   refine ae ?_
   refine ao 3 h s aU rfl rfl (rfl) rfl ?_;intro f h
   refine ac h (ag (h.ev rfl)) rfl ?_;intro f h
   refine ay 2 h s aU rfl rfl rfl (rfl) (rfl) (cj (bP (s.getSl 0 rfl))) ?_;intro w1 s
   refine ac h (ai (h.ev rfl)) rfl ?_;intro f h
   refine ac h (ai (h.ev rfl)) rfl ?_;intro f h
   refine ah ?_
   refine hK12 _ _ ?_
   refine wpIn_ret ?_
   exact jq 2 rfl h s aU rfl rfl (rfl) rfl rfl (.inr ⟨yD r0 l0,vq,K,ks,rfl,hnk,s.sel [0,1] rfl (by decide)⟩)
set_option maxHeartbeats 1000000 in
theorem mS (L:List N3) (vo:Value) (m:Mb) (w:World) (hO:cf w vo L) (hL:L.length≤40) (hb:RwB L):Calls Tryz.prog 34 [.agg #[vo],.agg (au m)].toArray w (cT w (is (.bool (sL L m)))):=by
 refine eU Tryz.func34 rfl Tryz.ntmps34 rfl [(0,.agg #[vo]),(1,.agg (au m))] (by simp) fun f h=>?_
 have s:=St.start w
 refine aj fun K1 hK1=>?_
 refine ae ?_
 refine bT (#[vo]) h s rfl rfl rfl ?_;intro f w1 b2 h s
 refine bT ((au m)) h s rfl rfl rfl ?_;intro f w1 b3 h s
 refine ba (#[.bool false]) h s q8 rfl rfl ?_;intro f w1 b4 h s
 refine ah ?_
 refine hK1 _ _ ?_
 refine aj fun K2 hK2=>?_
 refine aj fun K3 hK3=>?_
 refine ae ?_
 refine ao 2 h s aU rfl rfl (rfl) rfl ?_;intro f h
 refine eP [.agg #[vo]] h mR (f5 vo _ _ _ s) rfl rfl ?_;rintro f w1 r ⟨bn,rfl,s⟩ h
 refine ah ?_
 refine hK3 _ _ ?_
 refine wpIn_block ?_
 refine eV (fun d A9=>A9=[.blk b4 (.cells #[.bool (lq (j7 L m) d)] 4),.blk b3 (.cells (au m) 28),.blk b2 (.cells #[vo] 24)]) [.blk b4 (.cells #[.bool false] 4),.blk b3 (.cells (au m) 28),.blk b2 (.cells #[vo] 24)] [.blk bn (.cells #[vo] 24)] (L.length) (j7 L m) (fun d=>[Value.pointer (some (bs vo (d*68)))]) h s rfl mJ (List.Perm.refl _) (rfl) (fun _=>rfl) ?_ ?_ ?_ ?_
 ·intro lp w2 GG g0 hg0 s2 hY;exact fp L.length (by omega) vo _ _ hO.1 lp bn (j7 L m) GG g0 w w2 s2 hg0 hY
 ·intro lp D9 d9 rc R9 A9 w2 hd9 hq9 hJ9 s
  obtain rfl:=hJ9
  have h:=Sl.round1 (p:=9) (V:=.pointer (some (bs vo (d9*68)))) h rfl
  have hdl9:=hd9
  replace s:=s.recell (D:=#[.bool false]) 2 rfl (by rw [qy hq9])
  have hx9:=hb.each _ (bh hdl9)
  have hkx:(aS (L.getD d9 z3).1).length≤1000:=by simp only [aS,List.length_append,List.length_cons];omega
  refine ae ?_
  refine ac h (ai (h.ev rfl)) rfl ?_;intro f h
  refine ah ?_
  refine bQ ?_
  refine ⟨_,s,fun w3 s=>?_⟩
  refine wpIn_block ?_
  refine aj fun K4 hK4=>?_
  refine aj fun K5 hK5=>?_
  cases e0:(decide ((L.getD d9 z3).1.me.1=m.1):Bool)
  ·skip
   cases e1:(decide ((L.getD d9 z3).1.me.2=m.2):Bool)
   ·skip
    refine bJ 18 [[],[0],[0,1],[0,1,2],[0,1,2,3],[],[5],[0,1,2,3,4,5,6],[0,1,2,3,4,5,6,7],[0,1,2,3,4,5,6,7,8],[0,1,2,3,4,5,6,7,8,9],[0,1,2,3,4,5,6,7,8,9,10],[0,1,2,3,4,5,6,7,8,9,10,11],[0,1,2,3,4,5,6,7,8,9,10,11,12],[0,1,2,3,4,5,6,7,8],[0,1,2,3,4,5,6,7,8,14],[0,1,2,3,4,5,6,7,8,9,10,11,12,13,14,15],[0,1,2,3,4,5,6,7,8,9,10,11,12,13,14,15,16]] h (by kernel_rfl) (by kernel_rfl) (by kernel_rfl) ?_
    refine ap h (ag (h.ev rfl)) rfl ?_;intro f h
    refine ap h (bN (h.ev rfl)) rfl ?_;intro f h
    refine ap h (ca a6 (h.ev rfl) ((hO.1.keep s.ext).some (by omega))) rfl ?_;intro f h
    refine ap h (ca aP (h.ev rfl) ((hO.1.keep s.ext).some (by omega))) rfl ?_;intro f h
    refine bk (V:=.int .i64 (L.getD d9 z3).1.me.1) (fx (hO.1.keep s.ext) (d9*68+0) (lS L d9 hdl9)) h bO rfl rfl ?_;intro f h
    refine ap h (al aP (h.ev rfl)) rfl ?_;intro f h
    refine bk (am (bc.of_own s 3 rfl) 0 (aV _)) h bO rfl rfl ?_;intro f h
    refine ap h (aw (.bool false) (cc (h.ev rfl) (h.ev rfl)) (congrArg Value.bool e0)) rfl ?_;intro f h
    refine ap h (ag (h.ev rfl)) rfl ?_;intro f h
    refine bi h rfl rfl rfl ?_
    refine ap h (ag (h.ev rfl)) rfl ?_;intro f h
    refine bi h rfl rfl rfl ?_
    refine ap h (bN (h.ev rfl)) rfl ?_;intro f h
    refine bi h rfl rfl rfl ?_
    refine ap h (ca a6 (h.ev rfl) ((hO.1.keep s.ext).some (by omega))) rfl ?_;intro f h
    refine bi h rfl rfl rfl ?_
    refine ap h (ca c3 (h.ev rfl) ((hO.1.keep s.ext).some (by omega))) rfl ?_;intro f h
    refine bi h rfl rfl rfl ?_
    refine bz (bK.elF (hO.1.keep s.ext) (d9) 1 32 (by omega) (by decide) (C:=aD (L.getD d9 z3).1.me (L.getD d9 z3).1.pr (L.getD d9 z3).2.1 (L.getD d9 z3).2.2) (c6 L d9 hdl9) (D:=bq (L.getD d9 z3).1.me.2) (jC _ _ _ _)) h bV rfl (by first|exact aI _|exact aG _ _) rfl ?_;intro f h
    refine bi h rfl rfl rfl ?_
    refine ap h (al c3 (h.ev rfl)) rfl ?_;intro f h
    refine bi h rfl rfl rfl ?_
    refine bz (bc.subL (bc.of_own s 3 rfl) 1 32 (D:=bq (_)) (cW _)) h bV rfl (by first|exact aI _|exact aG _ _) rfl ?_;intro f h
    refine bi h rfl rfl rfl ?_
    refine ap h (aw (.bool false) (dU fv (h.ev rfl) (h.ev rfl)) (congrArg Value.bool e1)) rfl ?_;intro f h
    refine ap h (aE (h.ev rfl) (h.ev rfl)) rfl ?_;intro f h
    refine cn s fun w1 s=>?_
    refine ah ?_
    refine hK5 _ _ ?_
    refine wpIn_cond_false (h.ev rfl) ?_
    refine wpIn_skip ?_
    refine hK4 _ _ ?_
    refine aj fun K6 hK6=>?_
    refine ae ?_
    refine ac h (ag (h.ev rfl)) rfl ?_;intro f h
    refine ac h (bN (h.ev rfl)) rfl ?_;intro f h
    refine aM ((hO.1.keep s.ext).el (d9) (by omega) (by decide) (D:=aD (L.getD d9 z3).1.me (L.getD d9 z3).1.pr (L.getD d9 z3).2.1 (L.getD d9 z3).2.2) (c6 L d9 hdl9)) h bS rfl (aA _ _ _ _) rfl ?_;intro f h
    refine aF h s yr (lm (L.getD d9 z3).1 (L.getD d9 z3).2.1 (L.getD d9 z3).2.2 _ ((hO.2 _ (bh hdl9)).1.keep s.ext) ((hO.2 _ (bh hdl9)).2.keep s.ext) (by omega) (by omega)) rfl rfl ?_;rintro f w1 r9 ⟨bv,vk,rfl,hS⟩ hE h sq;replace s:=s.add hS;clear hS
    refine ah ?_
    refine hK6 _ _ ?_
    refine wpIn_block ?_
    refine uX (fun d A8=>A8=(.blk lp (.loop (rc .busy))::.blk D9 (.deferred (some []))::.blk b4 (.cells #[.bool (lq (fun j=>iF m ((aS (L.getD d9 z3).1).getD j a8)) d)] 4)::.blk b3 (.cells (au m) 28)::.blk b2 (.cells #[vo] 24)::R9)) (.blk lp (.loop (rc .busy))::.blk D9 (.deferred (some []))::.blk b4 (.cells #[.bool false] 4)::.blk b3 (.cells (au m) 28)::.blk b2 (.cells #[vo] 24)::R9) [.blk bv (.cells #[vk] 36),.sl vk 28 33 (aS (L.getD d9 z3).1).length (av (aS (L.getD d9 z3).1))] ((aS (L.getD d9 z3).1).length) (fun j=>iF m ((aS (L.getD d9 z3).1).getD j a8)) (fun d=>[Value.agg (au ((aS (L.getD d9 z3).1).getD d a8))]) h s rfl pQ 2 rfl (List.Perm.refl _) (rfl) (fun _=>rfl) ?_ ?_ ?_ ?_
    ·intro lp2 w2 GG g0 hg0 s2 hY;exact lr (aS (L.getD d9 z3).1) hkx vk lp2 bv (fun j=>iF m ((aS (L.getD d9 z3).1).getD j a8)) GG g0 w w2 s2 hg0 hY
    ·intro lp2 d8 rc2 R8 A8 w2 hd8 hq8 hJ8 s
     obtain rfl:=hJ8
     have h:=Sl.round1 (p:=32) (V:=.agg (au ((aS (L.getD d9 z3).1).getD d8 a8))) h rfl
     replace s:=s.recell (D:=#[.bool false]) 3 rfl (by rw [qy hq8])
     refine ae ?_
     refine ba (au a8) h s cz rfl rfl ?_;intro f w1 b6 h s
     refine ay 0 h s aL rfl rfl rfl (ak _) (ak _) (bf _) ?_;intro w1 s
     refine ah ?_
     refine bQ ?_
     refine ⟨_,s.perm (List.perm_middle (l₁:=[_])),fun w3 s=>?_⟩
     refine wpIn_block ?_
     refine aj fun K7 hK7=>?_
     cases f0:(decide (((aS (L.getD d9 z3).1).getD d8 a8).1=m.1):Bool)
     ·skip
      refine ae ?_
      refine ac h (al aP (h.ev rfl)) rfl ?_;intro f h
      refine ar (am (bc.of_own s 1 rfl) 0 (aV _)) h bO rfl rfl ?_;intro f h
      refine ac h (al aP (h.ev rfl)) rfl ?_;intro f h
      refine ar (am (bc.of_own s 5 rfl) 0 (aV _)) h bO rfl rfl ?_;intro f h
      refine ac h (aw (.bool false) (cc (h.ev rfl) (h.ev rfl)) (congrArg Value.bool f0)) rfl ?_;intro f h
      refine ac h (ag (h.ev rfl)) rfl ?_;intro f h
      refine aC (b:=true) h rfl rfl rfl rfl ?_;intro f h
      refine aC (b:=true) h rfl rfl rfl rfl ?_;intro f h
      refine aC (b:=true) h rfl rfl rfl rfl ?_;intro f h
      refine ac h (aE (h.ev rfl) (h.ev rfl)) rfl ?_;intro f h
      refine ah ?_
      refine hK7 _ _ ?_
      refine wpIn_cond_false (h.ev rfl) ?_
      refine wpIn_skip ?_
      refine bF ?_
      replace s:=s.recell (D:=#[.bool (lq (fun j=>iF m ((aS (L.getD d9 z3).1).getD j a8)) (d8+1))]) 4 rfl (by show _=#[Value.bool (iF m ((aS (L.getD d9 z3).1).getD d8 a8))];rw [show iF m ((aS (L.getD d9 z3).1).getD d8 a8)=false from by unfold iF;rw [f0];rfl])
      refine ⟨(by show iF m _=_;unfold iF;rw [f0];rfl),_,rfl,s.pick _ ?_⟩
      exact List.Sublist.cons_cons _ (List.Sublist.cons _ (List.Sublist.refl _))
     ·skip
      cases f1:(decide (((aS (L.getD d9 z3).1).getD d8 a8)=m):Bool)
      ·skip
       refine ae ?_
       refine ac h (al aP (h.ev rfl)) rfl ?_;intro f h
       refine ar (am (bc.of_own s 1 rfl) 0 (aV _)) h bO rfl rfl ?_;intro f h
       refine ac h (al aP (h.ev rfl)) rfl ?_;intro f h
       refine ar (am (bc.of_own s 5 rfl) 0 (aV _)) h bO rfl rfl ?_;intro f h
       refine ac h (aw (.bool true) (cc (h.ev rfl) (h.ev rfl)) (congrArg Value.bool f0)) rfl ?_;intro f h
       refine ac h (ag (h.ev rfl)) rfl ?_;intro f h
       refine aB h rfl rfl rfl ?_
       refine ao 1 h s aL rfl rfl (ak _) rfl ?_;intro f h
       refine aB h rfl rfl rfl ?_
       refine ao 5 h s aL rfl rfl (ak _) rfl ?_;intro f h
       refine aB h rfl rfl rfl ?_
       refine ac h (aw (.bool true) (dc (gM _ _) (by kernel_rfl) (by decide) (h.ev rfl) (h.ev rfl) (decide (((aS (L.getD d9 z3).1).getD d8 a8)=m)) (dE _ _)) (by rw [f1];rfl)) rfl ?_;intro f h
       refine ac h (aJ (h.ev rfl) (h.ev rfl)) rfl ?_;intro f h
       refine ah ?_
       refine hK7 _ _ ?_
       refine wpIn_cond_true (h.ev rfl) ?_
       refine aj fun K8 hK8=>?_
       refine ae ?_
       refine bp 4 h s fa rfl rfl rfl (by simp) (rfl) ?_;intro w1 s
       refine ah ?_
       refine hK8 _ _ ?_
       refine wpIn_ret ?_
       refine bu ?_
       replace s:=s.recell (D:=#[.bool (lq (fun j=>iF m ((aS (L.getD d9 z3).1).getD j a8)) (d8+1))]) 4 rfl (by show _=#[Value.bool (iF m ((aS (L.getD d9 z3).1).getD d8 a8))];rw [show iF m ((aS (L.getD d9 z3).1).getD d8 a8)=true from by unfold iF;rw [f0,f1];rfl];rfl)
       refine ⟨(by show iF m _=_;unfold iF;rw [f0,f1];rfl),_,rfl,s.pick _ ?_⟩
       exact List.Sublist.cons_cons _ (List.Sublist.cons _ (List.Sublist.refl _))
      ·skip
       refine ae ?_
       refine ac h (al aP (h.ev rfl)) rfl ?_;intro f h
       refine ar (am (bc.of_own s 1 rfl) 0 (aV _)) h bO rfl rfl ?_;intro f h
       refine ac h (al aP (h.ev rfl)) rfl ?_;intro f h
       refine ar (am (bc.of_own s 5 rfl) 0 (aV _)) h bO rfl rfl ?_;intro f h
       refine ac h (aw (.bool true) (cc (h.ev rfl) (h.ev rfl)) (congrArg Value.bool f0)) rfl ?_;intro f h
       refine ac h (ag (h.ev rfl)) rfl ?_;intro f h
       refine aB h rfl rfl rfl ?_
       refine ao 1 h s aL rfl rfl (ak _) rfl ?_;intro f h
       refine aB h rfl rfl rfl ?_
       refine ao 5 h s aL rfl rfl (ak _) rfl ?_;intro f h
       refine aB h rfl rfl rfl ?_
       refine ac h (aw (.bool false) (dc (gM _ _) (by kernel_rfl) (by decide) (h.ev rfl) (h.ev rfl) (decide (((aS (L.getD d9 z3).1).getD d8 a8)=m)) (dE _ _)) (by rw [f1];rfl)) rfl ?_;intro f h
       refine ac h (aJ (h.ev rfl) (h.ev rfl)) rfl ?_;intro f h
       refine ah ?_
       refine hK7 _ _ ?_
       refine wpIn_cond_false (h.ev rfl) ?_
       refine wpIn_skip ?_
       refine bF ?_
       replace s:=s.recell (D:=#[.bool (lq (fun j=>iF m ((aS (L.getD d9 z3).1).getD j a8)) (d8+1))]) 4 rfl (by show _=#[Value.bool (iF m ((aS (L.getD d9 z3).1).getD d8 a8))];rw [show iF m ((aS (L.getD d9 z3).1).getD d8 a8)=false from by unfold iF;rw [f0,f1];rfl])
       refine ⟨(by show iF m _=_;unfold iF;rw [f0,f1];rfl),_,rfl,s.pick _ ?_⟩
       exact List.Sublist.cons_cons _ (List.Sublist.cons _ (List.Sublist.refl _))
    ·intro A8 w2 hJ8 hq8 s
     obtain rfl:=hJ8
     refine bF ?_
     refine bF ?_
     have hb9:=yQ (m:=m) e0 e1 (Nat.le_refl _) hq8
     replace s:=s.recell (D:=#[.bool (lq (j7 L m) (d9+1))]) 4 rfl (by rw [qy hq8];show #[Value.bool false]=#[Value.bool (j7 L m d9)];rw [hb9])
     refine ⟨yQ e0 e1 (Nat.le_refl _) hq8,_,rfl,s.pick _ ?_⟩
     exact List.Sublist.cons _ (List.Sublist.cons _ (List.Sublist.cons_cons _ (List.Sublist.refl _)))
    ·intro d8 A8 w2 hd8 hqd8 hq8 hJ8 s
     obtain rfl:=hJ8
     refine bu ?_
     refine bu ?_
     have hb9:j7 L m d9=true:=vP hd8 hqd8
     replace s:=s.recell (D:=#[.bool (lq (j7 L m) (d9+1))]) 4 rfl (by show #[Value.bool (iF m ((aS (L.getD d9 z3).1).getD d8 a8))]=#[Value.bool (j7 L m d9)];rw [hb9,show iF m ((aS (L.getD d9 z3).1).getD d8 a8)=true from hqd8])
     refine ⟨vP hd8 hqd8,_,rfl,s.pick _ ?_⟩
     exact List.Sublist.cons _ (List.Sublist.cons _ (List.Sublist.cons_cons _ (List.Sublist.refl _)))
   ·skip
    refine bJ 18 [[],[0],[0,1],[0,1,2],[0,1,2,3],[],[5],[0,1,2,3,4,5,6],[0,1,2,3,4,5,6,7],[0,1,2,3,4,5,6,7,8],[0,1,2,3,4,5,6,7,8,9],[0,1,2,3,4,5,6,7,8,9,10],[0,1,2,3,4,5,6,7,8,9,10,11],[0,1,2,3,4,5,6,7,8,9,10,11,12],[0,1,2,3,4,5,6,7,8],[0,1,2,3,4,5,6,7,8,14],[0,1,2,3,4,5,6,7,8,9,10,11,12,13,14,15],[0,1,2,3,4,5,6,7,8,9,10,11,12,13,14,15,16]] h (by kernel_rfl) (by kernel_rfl) (by kernel_rfl) ?_
    refine ap h (ag (h.ev rfl)) rfl ?_;intro f h
    refine ap h (bN (h.ev rfl)) rfl ?_;intro f h
    refine ap h (ca a6 (h.ev rfl) ((hO.1.keep s.ext).some (by omega))) rfl ?_;intro f h
    refine ap h (ca aP (h.ev rfl) ((hO.1.keep s.ext).some (by omega))) rfl ?_;intro f h
    refine bk (V:=.int .i64 (L.getD d9 z3).1.me.1) (fx (hO.1.keep s.ext) (d9*68+0) (lS L d9 hdl9)) h bO rfl rfl ?_;intro f h
    refine ap h (al aP (h.ev rfl)) rfl ?_;intro f h
    refine bk (am (bc.of_own s 3 rfl) 0 (aV _)) h bO rfl rfl ?_;intro f h
    refine ap h (aw (.bool false) (cc (h.ev rfl) (h.ev rfl)) (congrArg Value.bool e0)) rfl ?_;intro f h
    refine ap h (ag (h.ev rfl)) rfl ?_;intro f h
    refine bi h rfl rfl rfl ?_
    refine ap h (ag (h.ev rfl)) rfl ?_;intro f h
    refine bi h rfl rfl rfl ?_
    refine ap h (bN (h.ev rfl)) rfl ?_;intro f h
    refine bi h rfl rfl rfl ?_
    refine ap h (ca a6 (h.ev rfl) ((hO.1.keep s.ext).some (by omega))) rfl ?_;intro f h
    refine bi h rfl rfl rfl ?_
    refine ap h (ca c3 (h.ev rfl) ((hO.1.keep s.ext).some (by omega))) rfl ?_;intro f h
    refine bi h rfl rfl rfl ?_
    refine bz (bK.elF (hO.1.keep s.ext) (d9) 1 32 (by omega) (by decide) (C:=aD (L.getD d9 z3).1.me (L.getD d9 z3).1.pr (L.getD d9 z3).2.1 (L.getD d9 z3).2.2) (c6 L d9 hdl9) (D:=bq (L.getD d9 z3).1.me.2) (jC _ _ _ _)) h bV rfl (by first|exact aI _|exact aG _ _) rfl ?_;intro f h
    refine bi h rfl rfl rfl ?_
    refine ap h (al c3 (h.ev rfl)) rfl ?_;intro f h
    refine bi h rfl rfl rfl ?_
    refine bz (bc.subL (bc.of_own s 3 rfl) 1 32 (D:=bq (_)) (cW _)) h bV rfl (by first|exact aI _|exact aG _ _) rfl ?_;intro f h
    refine bi h rfl rfl rfl ?_
    refine ap h (aw (.bool true) (dU fv (h.ev rfl) (h.ev rfl)) (congrArg Value.bool e1)) rfl ?_;intro f h
    refine ap h (aE (h.ev rfl) (h.ev rfl)) rfl ?_;intro f h
    refine cn s fun w1 s=>?_
    refine ah ?_
    refine hK5 _ _ ?_
    refine wpIn_cond_true (h.ev rfl) ?_
    refine aj fun K9 hK9=>?_
    refine ae ?_
    refine bp 2 h s fa rfl rfl rfl (by simp) (rfl) ?_;intro w1 s
    refine ah ?_
    refine hK9 _ _ ?_
    refine wpIn_ret ?_
    refine aQ ?_
    refine bu ?_
    have hb9:j7 L m d9=true:=wm e1
    replace s:=s.recell (D:=#[.bool (lq (j7 L m) (d9+1))]) 2 rfl (by show #[Value.bool true]=#[Value.bool (j7 L m d9)];rw [hb9])
    refine ⟨wm e1,_,rfl,s.pick _ ?_⟩
    exact List.Sublist.cons_cons _ (List.Sublist.refl _)
  ·skip
   refine bJ 18 [[],[0],[0,1],[0,1,2],[0,1,2,3],[],[5],[0,1,2,3,4,5,6],[0,1,2,3,4,5,6,7],[0,1,2,3,4,5,6,7,8],[0,1,2,3,4,5,6,7,8,9],[0,1,2,3,4,5,6,7,8,9,10],[0,1,2,3,4,5,6,7,8,9,10,11],[0,1,2,3,4,5,6,7,8,9,10,11,12],[0,1,2,3,4,5,6,7,8],[0,1,2,3,4,5,6,7,8,14],[0,1,2,3,4,5,6,7,8,9,10,11,12,13,14,15],[0,1,2,3,4,5,6,7,8,9,10,11,12,13,14,15,16]] h (by kernel_rfl) (by kernel_rfl) (by kernel_rfl) ?_
   refine ap h (ag (h.ev rfl)) rfl ?_;intro f h
   refine ap h (bN (h.ev rfl)) rfl ?_;intro f h
   refine ap h (ca a6 (h.ev rfl) ((hO.1.keep s.ext).some (by omega))) rfl ?_;intro f h
   refine ap h (ca aP (h.ev rfl) ((hO.1.keep s.ext).some (by omega))) rfl ?_;intro f h
   refine bk (V:=.int .i64 (L.getD d9 z3).1.me.1) (fx (hO.1.keep s.ext) (d9*68+0) (lS L d9 hdl9)) h bO rfl rfl ?_;intro f h
   refine ap h (al aP (h.ev rfl)) rfl ?_;intro f h
   refine bk (am (bc.of_own s 3 rfl) 0 (aV _)) h bO rfl rfl ?_;intro f h
   refine ap h (aw (.bool true) (cc (h.ev rfl) (h.ev rfl)) (congrArg Value.bool e0)) rfl ?_;intro f h
   refine ap h (ag (h.ev rfl)) rfl ?_;intro f h
   refine bm (b:=false) h rfl rfl rfl rfl ?_;intro f h
   refine bm (b:=false) h rfl rfl rfl rfl ?_;intro f h
   refine bm (b:=false) h rfl rfl rfl rfl ?_;intro f h
   refine bm (b:=false) h rfl rfl rfl rfl ?_;intro f h
   refine bm (b:=false) h rfl rfl rfl rfl ?_;intro f h
   refine bm (b:=false) h rfl rfl rfl rfl ?_;intro f h
   refine bm (b:=false) h rfl rfl rfl rfl ?_;intro f h
   refine bm (b:=false) h rfl rfl rfl rfl ?_;intro f h
   refine ap h (aJ (h.ev rfl) (h.ev rfl)) rfl ?_;intro f h
   refine cn s fun w1 s=>?_
   refine ah ?_
   refine hK5 _ _ ?_
   refine wpIn_cond_true (h.ev rfl) ?_
   refine aj fun K10 hK10=>?_
   refine ae ?_
   refine bp 2 h s fa rfl rfl rfl (by simp) (rfl) ?_;intro w1 s
   refine ah ?_
   refine hK10 _ _ ?_
   refine wpIn_ret ?_
   refine aQ ?_
   refine bu ?_
   have hb9:j7 L m d9=true:=vH e0
   replace s:=s.recell (D:=#[.bool (lq (j7 L m) (d9+1))]) 2 rfl (by show #[Value.bool true]=#[Value.bool (j7 L m d9)];rw [hb9])
   refine ⟨vH e0,_,rfl,s.pick _ ?_⟩
   exact List.Sublist.cons_cons _ (List.Sublist.refl _)
 ·intro D9 A9 w2 hJ9 hq9 s
  obtain rfl:=hJ9
  replace h:Sl _ {f with defers:={target:=.collected D9,args:=#[]}::f.defers} _ [{target:=.collected D9,args:=#[]}]:=⟨h.size,by rw [h.defers],h.holds⟩
  refine bF ?_
  refine hK2 _ _ ?_
  refine aj fun K11 hK11=>?_
  refine ae ?_
  refine bp 2 h s fa rfl rfl rfl (by simp) (rfl) ?_;intro w1 s
  refine ah ?_
  refine hK11 _ _ ?_
  refine wpIn_ret ?_
  exact eR 2 0 rfl h s fa rfl rfl rfl rfl rfl (fun w9=>(congrArg Value.bool (Ay (Nat.le_refl _) hq9)).symm)
 ·intro D9 d9 A9 w2 hd9 hqd9 hq9 hJ9 s
  obtain rfl:=hJ9
  replace h:Sl _ {f with defers:={target:=.collected D9,args:=#[]}::f.defers} _ [{target:=.collected D9,args:=#[]}]:=⟨h.size,by rw [h.defers],h.holds⟩
  refine bu ?_
  refine aQ ?_
  exact eR 2 0 rfl h s fa rfl rfl rfl rfl rfl (fun w9=>congrArg Value.bool (hqd9.trans (oW hd9 hqd9).symm))
theorem sF (x y:N3) (w:World):Calls Tryz.prog 38 [.agg (aD x.1.me x.1.pr x.2.1 x.2.2),.agg (aD y.1.me y.1.pr y.2.1 y.2.2)].toArray w (cT w (is (.int .i64 (dI x.1.me.1 y.1.me.1)))):=by
 refine bj Tryz.func38 rfl Tryz.ntmps38 rfl [(0,.agg (aD x.1.me x.1.pr x.2.1 x.2.2)),(1,.agg (aD y.1.me y.1.pr y.2.1 y.2.2))] (by simp) fun f h=>?_
 have s:=St.start w
 refine aj fun K1 hK1=>?_
 refine ae ?_
 refine bT (aD x.1.me x.1.pr x.2.1 x.2.2) h s rfl rfl rfl ?_;intro f w1 b2 h s
 refine bT (aD y.1.me y.1.pr y.2.1 y.2.2) h s rfl rfl rfl ?_;intro f w1 b3 h s
 refine ac h (ai (h.ev rfl)) rfl ?_;intro f h
 refine ah ?_
 refine hK1 _ _ ?_
 refine aj fun K2 hK2=>?_
 refine ae ?_
 refine ac h (al a6 (h.ev rfl)) rfl ?_;intro f h
 refine aM (bc.subL (bc.of_own s 1 rfl) 0 33 (D:=au x.1.me) (bU _ _ _ _)) h aL rfl (ak _) rfl ?_;intro f h
 refine ac h (al a6 (h.ev rfl)) rfl ?_;intro f h
 refine aM (bc.subL (bc.of_own s 0 rfl) 0 33 (D:=au y.1.me) (bU _ _ _ _)) h aL rfl (ak _) rfl ?_;intro f h
 refine aF h s vg (ma _ _ _) rfl rfl ?_;intro f w1 v9 hT hE h s;obtain rfl:=hT
 refine ac h (ai (h.ev rfl)) rfl ?_;intro f h
 refine ah ?_
 refine hK2 _ _ ?_
 refine wpIn_ret ?_
 exact aX rfl h s rfl (rfl)
theorem pA (L:List N3) (hL:L.length≤1000) (ho:∀ x∈L,x.2.1.oneCell'=true∧x.2.2.oneCell'=true) (hd:L.Pairwise fun a b=>a.1.me.1≠b.1.me.1) (v:Value) (B9:List Own) (w0 w:World) (s:St w0 (.sl v 42 68 L.length (aK L)::B9) w):
 Calls Tryz.prog 37 [v,.func (.func 38) #[] #[]].toArray w (fun e w'=>∃ r,e=.returned r∧∃ K:List N3,K.Perm L∧(K.Pairwise fun a b=>a.1.me.1<b.1.me.1)∧St w0 (.sl v 42 68 K.length (aK K)::B9) w'):=by
 by_cases h0:L.length=0
 ·have hl:L=[]:=List.eq_nil_of_length_eq_zero h0
  subst hl
  obtain ⟨a,c,rfl⟩:=dF (s.getSl 0 rfl)
  refine(Go.Proofs.AnyF.slices_SortFunc_none (P:=Tryz.prog) (ρ:=Tryz.layN_ren) Tryz.layN a c (.func (.func 38) #[] #[]) w).mono ?_
  rintro e w' ⟨rfl,rfl⟩
  exact ⟨_,rfl,[],List.Perm.refl _,List.Pairwise.nil,s⟩
 ·obtain ⟨l,hl⟩:∃ l,l=zd L ho:=⟨_,rfl⟩
  have hm:l.map (·.1)=L:=by rw [hl];exact oB L ho
  have hln:l.length=L.length:=by rw [hl];exact uW L ho
  have hc:aK L=fo l:=by rw [l7,hm]
  rw [hc,← hln] at s
  obtain ⟨g,cap,rfl,hlt,hgo,hH,hst⟩:=th s rfl (by omega)
  have hcon:=Go.Proofs.AnyQ.slices_SortFunc (P:=Tryz.prog) (ρ:=Tryz.layN_ren) Tryz.layN 68 Tryz.isAgg42 Tryz.sizeOf42 lA lh uq (fun x y:kR=>dI x.1.1.me.1 y.1.1.me.1) t6 38 #[] g 0 cap l.toArray w (enters_of Tryz.func38 (by kernel_rfl) rfl) (fun m os dk _ x y=>by
   have h9:=sF x.1 y.1 (Go.Proofs.sortWorldK lA 68 w g 0 m dk os)
   refine h9.mono ?_
   rintro e w' ⟨v,rfl,hv,hE⟩
   obtain rfl:=hv
   exact ⟨rfl,rv hE⟩) hH hlt (by rw [List.size_toArray];omega)
  refine hcon.mono ?_
  rintro e w' ⟨rfl,d',n,os,hp,hs,rfl⟩
  have hsz:d'.size=l.length:=by rw [hp.1,List.size_toArray]
  have s2:=hst n os d' hsz
  obtain ⟨h1,h2⟩:=rT (l:=l) (by rw [← hm] at hd;exact tC.1 hd) hp hs
  have hKl:(d'.toList.map (·.1)).length=l.length:=by rw [List.length_map,Array.length_toList,hsz]
  refine ⟨_,rfl,d'.toList.map (·.1),?_,tC.2 h2,?_⟩
  ·rw [← hm];exact h1.map _
  ·rw [l7] at s2;rw [hKl];exact s2
theorem nh (m:Mb) (w:World):Calls Tryz.prog 33 [.agg (au m)].toArray w (cT w (tB w 28 (AX m) (AL m))):=by
 refine bj Tryz.func33 rfl Tryz.ntmps33 rfl [(0,.agg (au m))] (by simp) fun f h=>?_
 have s:=St.start w
 refine aj fun K1 hK1=>?_
 refine ae ?_
 refine bT ((au m)) h s rfl rfl rfl ?_;intro f w1 b1 h s
 refine ba (aD a8 a8 bo bo) h s dH rfl rfl ?_;intro f w1 b2 h s
 refine ac h (ai (h.ev rfl)) rfl ?_;intro f h
 refine ah ?_
 refine hK1 _ _ ?_
 refine aj fun K2 hK2=>?_
 refine aj fun K3 hK3=>?_
 cases h0:(dd m:Bool)
 ·skip
  refine ae ?_
  refine ao 1 h s aL rfl rfl (ak _) rfl ?_;intro f h
  refine aF h s fu (aO (.bool false) (da m _) (congrArg Value.bool h0)) rfl rfl ?_;intro f w1 v9 hT hE h s;obtain rfl:=hT
  refine ac h (aw (.bool true) (bg (h.ev rfl)) rfl) rfl ?_;intro f h
  refine ah ?_
  refine hK3 _ _ ?_
  refine wpIn_cond_true (h.ev rfl) ?_
  refine aj fun K4 hK4=>?_
  refine ae ?_
  refine ac h (ez oP) rfl ?_;intro f h
  refine ay 0 h s bS rfl rfl rfl (aA _ _ _ _) (aA _ _ _ _) (bW (rfl) (rfl)) ?_;intro w1 s
  refine ac h (ai (h.ev rfl)) rfl ?_;intro f h
  refine ah ?_
  refine hK4 _ _ ?_
  refine wpIn_ret ?_
  refine aQ ?_
  exact cd 0 rfl h s bS rfl rfl (aA _ _ _ _) rfl (mm s (pd h0).1 (pd h0).2)
 ·skip
  refine ae ?_
  refine ao 1 h s aL rfl rfl (ak _) rfl ?_;intro f h
  refine aF h s fu (aO (.bool true) (da m _) (congrArg Value.bool h0)) rfl rfl ?_;intro f w1 v9 hT hE h s;obtain rfl:=hT
  refine ac h (aw (.bool false) (bg (h.ev rfl)) rfl) rfl ?_;intro f h
  refine ah ?_
  refine hK3 _ _ ?_
  refine wpIn_cond_false (h.ev rfl) ?_
  refine wpIn_skip ?_
  refine hK2 _ _ ?_
  refine aj fun K5 hK5=>?_
  refine ze 0 5 [[],[],[],[2],[0,1,2,3],[0,1,2,3,4],[0,1,2,3,4,5]] [[],[],[],[],[],[],[]] [fun _=>[],fun _=>[],fun _=>[],fun v=>[.sl (v 3) 28 33 [m].length (av [m])],fun _=>[],fun _=>[],fun _=>[]] [] [fun v=>v 0=.agg ((au m)),fun v=>v 1=.agg (au d5),fun v=>v 2=.agg ((au m)),fun v=>∃ a c,v 3=.slice a [m].length c,fun v=>v 4=.agg (aD m d5 (v 3) bo),fun _=>True,fun _=>True] [.blk b2 (.cells (aD a8 a8 bo bo) 42),.blk b1 (.cells ((au m)) 28)] h s rfl (by kernel_rfl) (by kernel_rfl) (by kernel_rfl) (And.intro ?_ (And.intro ?_ (And.intro ?_ (And.intro ?_ (And.intro ?_ (trivial)))))) [0,1,2,3,4] (by kernel_rfl) ?_
  ·intro f9 w2 vl3 E9 hs9 hd9 hl hF s
   have e1:f9.tmps.getD 1 undef=_:=cD hl 1 (by kernel_rfl) (by kernel_rfl) (h.holds 1 _ rfl)
   have h:=aq [(1,_)] (hs9.trans h.size) (hd9.trans h.defers) (holds_lk ⟨e1,trivial⟩)
   replace s:St w (.blk b2 (.cells (aD a8 a8 bo bo) 42)::.blk b1 (.cells ((au m)) 28)::E9) _:=s
   refine ao 1 h s aL rfl rfl (ak _) rfl ?_;intro f h
   exact ah ⟨_,a7 8 rfl (h.holds 8 _ rfl),rfl,s⟩
  ·intro f9 w2 vl3 E9 hs9 hd9 hl hF s
   have h:=aq [] (hs9.trans h.size) (hd9.trans h.defers) (holds_lk trivial)
   replace s:St w (.blk b2 (.cells (aD a8 a8 bo bo) 42)::.blk b1 (.cells ((au m)) 28)::E9) _:=s
   refine aF h s oK (g5 _) rfl rfl ?_;intro f w1 v9 hT hE h s;obtain rfl:=hT
   exact ah ⟨_,a7 9 rfl (h.holds 9 _ rfl),rfl,s⟩
  ·intro f9 w2 vl3 E9 hs9 hd9 hl hF s
   have e1:f9.tmps.getD 1 undef=_:=cD hl 1 (by kernel_rfl) (by kernel_rfl) (h.holds 1 _ rfl)
   have h:=aq [(1,_)] (hs9.trans h.size) (hd9.trans h.defers) (holds_lk ⟨e1,trivial⟩)
   replace s:St w (.blk b2 (.cells (aD a8 a8 bo bo) 42)::.blk b1 (.cells ((au m)) 28)::E9) _:=s
   refine ao 1 h s aL rfl rfl (ak _) rfl ?_;intro f h
   exact ah ⟨_,a7 10 rfl (h.holds 10 _ rfl),rfl,s⟩
  ·intro f9 w2 vl3 E9 hs9 hd9 hl hF s
   have e10:f9.tmps.getD 10 undef=.agg ((au m)):=(aW hl 10 2 (by kernel_rfl) (by kernel_rfl)).trans (hF 2 (by decide))
   have h:=aq [(10,.agg ((au m)))] (hs9.trans h.size) (hd9.trans h.defers) (holds_lk ⟨e10,trivial⟩)
   replace s:St w (.blk b2 (.cells (aD a8 a8 bo bo) 42)::.blk b1 (.cells ((au m)) 28)::E9) _:=s
   refine cF (vs:=[.agg (au m)]) [.tmp 10] h s Tryz.underlying36 dD rfl rfl (gU _) rfl rfl rfl ?_;intro f w1 v11 h s
   replace s:=s.resl (m:=[m].length) (ys:=av [m]) 0 rfl rfl (by rw [eh,dx])
   exact ah ⟨_,a7 11 rfl (h.holds 11 _ rfl),dF (s.getSl 0 rfl),s⟩
  ·intro f9 w2 vl3 E9 hs9 hd9 hl hF s
   have e8:f9.tmps.getD 8 undef=.agg ((au m)):=(aW hl 8 0 (by kernel_rfl) (by kernel_rfl)).trans (hF 0 (by decide))
   have e9:f9.tmps.getD 9 undef=.agg (au d5):=(aW hl 9 1 (by kernel_rfl) (by kernel_rfl)).trans (hF 1 (by decide))
   have e11:f9.tmps.getD 11 undef=(vl3 3):=aW hl 11 3 (by kernel_rfl) (by kernel_rfl)
   have h:=aq [(8,.agg ((au m))),(9,.agg (au d5)),(11,(vl3 3))] (hs9.trans h.size) (hd9.trans h.defers) (holds_lk ⟨e8,e9,e11,trivial⟩)
   replace s:St w (.blk b2 (.cells (aD a8 a8 bo bo) 42)::.blk b1 (.cells ((au m)) 28)::E9) _:=s
   obtain ⟨a9,c9,hv9⟩:=hF 3 (by decide)
   refine ac h (jK oP (by rw [show vl3 3=_ from hv9];rfl) (by rw [show vl3 3=_ from hv9];rfl) (h.ev rfl) (h.ev rfl) (h.ev rfl)) rfl ?_;intro f h
   exact ah ⟨_,a7 12 rfl (h.holds 12 _ rfl),rfl,s⟩
  intro f w1 vl3 hs9 hd9 hv hr hF s
  replace hv:=fun i d h9=>hv i d (show Nat.blt i 5=true from h9)
  replace h:=yP 5 (ops:=_) [(8,.agg ((au m))),(9,.agg (au d5)),(10,.agg ((au m))),(11,(vl3 3)),(12,.agg (aD m d5 (vl3 3) bo))] h hs9 hd9 hr ⟨(hv 0 8 rfl rfl).trans (hF 0 (by kernel_rfl)),(hv 1 9 rfl rfl).trans (hF 1 (by kernel_rfl)),(hv 2 10 rfl rfl).trans (hF 2 (by kernel_rfl)),hv 3 11 rfl rfl,(hv 4 12 rfl rfl).trans (hF 4 (by kernel_rfl)),trivial⟩ (by kernel_rfl)
  replace s:St w [.sl (vl3 3) 28 33 [m].length (av [m]),.blk b2 (.cells (aD a8 a8 bo bo) 42),.blk b1 (.cells ((au m)) 28)] _:=s
  refine ay 1 h s bS rfl rfl rfl (aA _ _ _ _) (aA _ _ _ _) (bW (bP (s.getSl 0 rfl)) (rfl)) ?_;intro w1 s
  refine ac h (ai (h.ev rfl)) rfl ?_;intro f h
  refine ah ?_
  refine hK5 _ _ ?_
  refine wpIn_ret ?_
  exact cd 1 rfl h s bS rfl rfl (aA _ _ _ _) rfl (vR (o8 h0).1 (o8 h0).2 (s.pick _ (List.Sublist.cons_cons _ (List.Sublist.cons _ (List.Sublist.cons _ (List.nil_sublist _))))))
set_option maxHeartbeats 1000000 in
theorem mQ (L:List N3) (vo:Value) (m:Mb) (no:Int) (w:World) (hO:cf w vo L) (hL:L.length≤40) (hb:RwB L):Calls Tryz.prog 8 [.agg #[vo],.agg (au m),.int .i64 no].toArray w (cT w (yg w (cP vo L) (wc L m no) (vL L m no))):=by
 refine bj Tryz.func8 rfl Tryz.ntmps8 rfl [(0,.agg #[vo]),(1,.agg (au m)),(2,.int .i64 no)] (by simp) fun f h=>?_
 have s:=St.start w
 refine aj fun K1 hK1=>?_
 refine ae ?_
 refine bT (#[vo]) h s rfl rfl rfl ?_;intro f w1 b3 h s
 refine bT ((au m)) h s rfl rfl rfl ?_;intro f w1 b4 h s
 refine ba (#[bo]) h s dY rfl rfl ?_;intro f w1 b6 h s
 refine ac h (ai (h.ev rfl)) rfl ?_;intro f h
 refine ah ?_
 refine hK1 _ _ ?_
 refine aj fun K2 hK2=>?_
 refine aj fun K3 hK3=>?_
 cases r0:(fQ L:Bool)
 ·skip
  refine ae ?_
  refine ao 2 h s aU rfl rfl (rfl) rfl ?_;intro f h
  refine aF h s jP (aO (.bool false) (dB L vo _ (hO.keep s.ext) hL hb) (congrArg Value.bool r0)) rfl rfl ?_;intro f w1 v9 hT hE h s;obtain rfl:=hT
  refine ac h (aw (.bool true) (bg (h.ev rfl)) rfl) rfl ?_;intro f h
  refine ah ?_
  refine hK3 _ _ ?_
  refine wpIn_cond_true (h.ev rfl) ?_
  refine aj fun K4 hK4=>?_
  refine ae ?_
  refine ac h (bM eE) rfl ?_;intro f h
  refine ay 0 h s aU rfl rfl rfl (rfl) (rfl) (cj (rfl)) ?_;intro w1 s
  refine ac h (ai (h.ev rfl)) rfl ?_;intro f h
  refine ah ?_
  refine hK4 _ _ ?_
  refine wpIn_ret ?_
  refine aQ ?_
  exact cd 0 rfl h s aU rfl rfl (rfl) rfl (eH s (fY (rt r0)).2 (fY (rt r0)).1)
 ·skip
  refine ae ?_
  refine ao 2 h s aU rfl rfl (rfl) rfl ?_;intro f h
  refine aF h s jP (aO (.bool true) (dB L vo _ (hO.keep s.ext) hL hb) (congrArg Value.bool r0)) rfl rfl ?_;intro f w1 v9 hT hE h s;obtain rfl:=hT
  refine ac h (aw (.bool false) (bg (h.ev rfl)) rfl) rfl ?_;intro f h
  refine ah ?_
  refine hK3 _ _ ?_
  refine wpIn_cond_false (h.ev rfl) ?_
  refine wpIn_skip ?_
  refine hK2 _ _ ?_
  refine aj fun K5 hK5=>?_
  cases h0:(dd m:Bool)
  ·skip
   refine ae ?_
   refine ao 1 h s aL rfl rfl (ak _) rfl ?_;intro f h
   refine aF h s xY (nh m _) rfl rfl ?_;rintro f w1 v17 ⟨us,uf,rfl,hS⟩ hE h sq;rw [(pd h0).1,(pd h0).2] at h;rw [(pd h0).1] at hS;replace s:=s.add hS;clear hS
   refine ac h (ag (h.ev rfl)) rfl ?_;intro f h
   refine ac h (bB (h.ev rfl) rfl) rfl ?_;intro f h
   refine ac h (bB (h.ev rfl) rfl) rfl ?_;intro f h
   refine ba (aD a8 a8 bo bo) h s dH rfl rfl ?_;intro f w1 b8 h s
   refine ay 0 h s bS rfl rfl rfl (aA _ _ _ _) (aA _ _ _ _) (bW (bP (s.getSl 1 rfl)) (bP (s.getSl 2 rfl))) ?_;intro w1 s
   refine ac h (ai (h.ev rfl)) rfl ?_;intro f h
   refine ah ?_
   refine hK5 _ _ ?_
   refine aj fun K6 hK6=>?_
   refine aj fun K7 hK7=>?_
   refine ae ?_
   refine ac h (ag (h.ev rfl)) rfl ?_;intro f h
   refine ac h (aw (.bool true) (cO (h.ev rfl) (h.ev rfl)) (by rfl)) rfl ?_;intro f h
   refine ah ?_
   refine hK7 _ _ ?_
   refine wpIn_cond_true (h.ev rfl) ?_
   refine aj fun K8 hK8=>?_
   refine ae ?_
   refine ac h (bM eE) rfl ?_;intro f h
   refine ac h (ag (h.ev rfl)) rfl ?_;intro f h
   refine ay 3 h s aU rfl rfl rfl (rfl) (rfl) (cj (rfl)) ?_;intro w1 s
   refine ac h (ai (h.ev rfl)) rfl ?_;intro f h
   refine ah ?_
   refine hK8 _ _ ?_
   refine wpIn_ret ?_
   refine aQ ?_
   exact cd 3 rfl h s aU rfl rfl (rfl) rfl (eH s (fY (yA h0)).2 (fY (yA h0)).1)
  ·skip
   refine ae ?_
   refine ao 1 h s aL rfl rfl (ak _) rfl ?_;intro f h
   refine aF h s xY (nh m _) rfl rfl ?_;rintro f w1 v17 ⟨us,uf,rfl,hS⟩ hE h sq;rw [(o8 h0).1,(o8 h0).2] at h;rw [(o8 h0).1] at hS;replace s:=s.add hS;clear hS
   replace s:=s.resl (m:=1) (ys:=av [m]) 0 rfl rfl rfl
   refine ac h (ag (h.ev rfl)) rfl ?_;intro f h
   refine ac h (bB (h.ev rfl) rfl) rfl ?_;intro f h
   refine ac h (bB (h.ev rfl) rfl) rfl ?_;intro f h
   refine ba (aD a8 a8 bo bo) h s dH rfl rfl ?_;intro f w1 b8 h s
   refine ay 0 h s bS rfl rfl rfl (aA _ _ _ _) (aA _ _ _ _) (bW (bP (s.getSl 1 rfl)) (bP (s.getSl 2 rfl))) ?_;intro w1 s
   refine ac h (ai (h.ev rfl)) rfl ?_;intro f h
   refine ah ?_
   refine hK5 _ _ ?_
   refine aj fun K9 hK9=>?_
   refine aj fun K10 hK10=>?_
   refine ae ?_
   refine ac h (ag (h.ev rfl)) rfl ?_;intro f h
   refine ac h (aw (.bool false) (cO (h.ev rfl) (h.ev rfl)) (by rfl)) rfl ?_;intro f h
   refine ah ?_
   refine hK10 _ _ ?_
   refine wpIn_cond_false (h.ev rfl) ?_
   refine wpIn_skip ?_
   refine hK9 _ _ ?_
   refine aj fun K11 hK11=>?_
   refine aj fun K12 hK12=>?_
   cases j0:(sL L m:Bool)
   ·skip
    refine ae ?_
    have hok:=yy r0 h0
    have hnos:=(ex r0).rs.nos
    refine ao 5 h s aU rfl rfl (rfl) rfl ?_;intro f h
    refine ao 4 h s aL rfl rfl (ak _) rfl ?_;intro f h
    refine aF h s yb (aO (.bool false) (mS L vo m _ (hO.keep s.ext) hL hb) (congrArg Value.bool j0)) rfl rfl ?_;intro f w1 v9 hT hE h s;obtain rfl:=hT
    refine ah ?_
    refine hK12 _ _ ?_
    refine wpIn_cond_false (h.ev rfl) ?_
    refine wpIn_skip ?_
    refine hK11 _ _ ?_
    refine aj fun K13 hK13=>?_
    refine aj fun K14 hK14=>?_
    refine ae ?_
    refine ac h (al cb (h.ev rfl)) rfl ?_;intro f h
    refine ar (V:=vo) (am (bc.of_own s 5 rfl) 0 rfl) h cH rfl rfl ?_;intro f h
    refine ac h (aY (hO.1.keep s.ext) Tryz.underlying22 (h.ev rfl)) rfl ?_;intro f h
    refine ac h (cL (h.ev rfl) (h.ev rfl)) rfl ?_;intro f h
    refine ah ?_
    refine hK14 _ _ ?_
    refine bA h rfl (fun hc=>?_) (fun hc=>?_)
    ·have hl0:0<L.length:=by have:=of_decide_eq_true hc;omega
     refine aj fun K15 hK15=>?_
     cases l0:(cw (aN L) no:Bool)
     ·skip
      refine ae ?_
      refine ao 5 h s aU rfl rfl (rfl) rfl ?_;intro f h
      refine ac h (ag (h.ev rfl)) rfl ?_;intro f h
      refine aF h s kP (aO (.pointer none) (ej L vo no _ (hO.keep s.ext) hL) (oX (of_decide_eq_false ((d6 hnos).trans l0)))) rfl rfl ?_;intro f w1 v9 hT hE h s;obtain rfl:=hT
      refine ac h (ai (h.ev rfl)) rfl ?_;intro f h
      refine ah ?_
      refine hK15 _ _ ?_
      refine aj fun K16 hK16=>?_
      refine aj fun K17 hK17=>?_
      refine ae ?_
      refine ac h (ag (h.ev rfl)) rfl ?_;intro f h
      refine ac h (aw (.bool true) (en Tryz.underlying54 (h.ev rfl) (h.ev rfl)) (rfl)) rfl ?_;intro f h
      refine ah ?_
      refine hK17 _ _ ?_
      refine wpIn_cond_true (h.ev rfl) ?_
      refine aj fun K18 hK18=>?_
      refine ae ?_
      refine ac h (bM eE) rfl ?_;intro f h
      refine ay 3 h s aU rfl rfl rfl (rfl) (rfl) (cj (rfl)) ?_;intro w1 s
      refine ac h (ai (h.ev rfl)) rfl ?_;intro f h
      refine ah ?_
      refine hK18 _ _ ?_
      refine wpIn_ret ?_
      refine aQ ?_
      refine aQ ?_
      exact cd 3 rfl h s aU rfl rfl (rfl) rfl (eH s ((ij hok).2.trans (ln (qK j0 hl0 l0) (by decide))) ((ij hok).1.trans (qK j0 hl0 l0)))
     ·skip
      refine ae ?_
      refine ao 5 h s aU rfl rfl (rfl) rfl ?_;intro f h
      refine ac h (ag (h.ev rfl)) rfl ?_;intro f h
      refine aF h s kP (aO (.pointer (some (bs vo (bG L no*68)))) (ej L vo no _ (hO.keep s.ext) hL) (oU (of_decide_eq_true ((d6 hnos).trans l0)))) rfl rfl ?_;intro f w1 v9 hT hE h s;obtain rfl:=hT
      refine ac h (ai (h.ev rfl)) rfl ?_;intro f h
      refine ah ?_
      refine hK15 _ _ ?_
      refine aj fun K19 hK19=>?_
      refine aj fun K20 hK20=>?_
      refine ae ?_
      have hix:bG L no<L.length:=of_decide_eq_true ((d6 hnos).trans l0)
      refine ac h (ag (h.ev rfl)) rfl ?_;intro f h
      refine ac h (aw (.bool false) (en Tryz.underlying54 (h.ev rfl) (h.ev rfl)) (rfl)) rfl ?_;intro f h
      refine ah ?_
      refine hK20 _ _ ?_
      refine wpIn_cond_false (h.ev rfl) ?_
      refine wpIn_skip ?_
      refine hK19 _ _ ?_
      refine bJ 7 [[],[0],[],[2],[2,3],[2,3,4],[0,1,2,3,4,5]] h (by kernel_rfl) (by kernel_rfl) (by kernel_rfl) ?_
      refine ap h (al bI (h.ev rfl)) rfl ?_;intro f h
      refine bk (V:=us) (am (bc.of_own s 0 rfl) 66 (bC _ _ _ _)) h bH rfl rfl ?_;intro f h
      refine ap h (ag (h.ev rfl)) rfl ?_;intro f h
      refine ap h (bN (h.ev rfl)) rfl ?_;intro f h
      refine ap h (ca a6 (h.ev rfl) ((hO.1.keep s.ext).some (by omega))) rfl ?_;intro f h
      refine bz (bK.elF (hO.1.keep s.ext) (bG L no) 0 33 (by omega) (by decide) (C:=aD (L.getD (bG L no) z3).1.me (L.getD (bG L no) z3).1.pr (L.getD (bG L no) z3).2.1 (L.getD (bG L no) z3).2.2) (c6 L _ hix) (D:=au (L.getD (bG L no) z3).1.me) (bU _ _ _ _)) h aL rfl (ak _) rfl ?_;intro f h
      refine ap h (ce (bK.of_own (s.getSl 1 rfl)) (0) Tryz.underlying36 cG (h.ev rfl) (h.ev rfl) (by omega) (by omega)) rfl ?_;intro f h
      refine cn s fun w1 s=>?_
      refine jo 1 (0) h s aL rfl rfl rfl (ak _) (by omega) (bf _) (show _=av [(L.getD (bG L no) z3).1.me] from ut (l:=[m]) _ Nat.zero_lt_one) ?_;intro w1 s
      refine ah ?_
      refine hK13 _ _ ?_
      refine aj fun K21 hK21=>?_
      refine ae ?_
      refine ao 5 h s aU rfl rfl (rfl) rfl ?_;intro f h
      refine aF h s tR (gS L vo _ (hO.keep s.ext) hL hb) rfl rfl ?_;rintro f w1 v46 ⟨vq,K,ks,rfl,hnk,hS⟩ hE h sq;replace s:=s.add hS;clear hS
      have hlk:K.length=L.length:=by have h9:=congrArg List.length hnk;simpa [nds] using h9
      refine ay 7 h s aU rfl rfl rfl (rfl) (rfl) (cj (bP (s.getSl 0 rfl))) ?_;intro w1 s
      refine ah ?_
      refine hK21 _ _ ?_
      refine aj fun K22 hK22=>?_
      refine ae ?_
      refine ac h (al cb (h.ev rfl)) rfl ?_;intro f h
      refine ar (V:=vq) (am (bc.of_own s 7 rfl) 0 rfl) h cH rfl rfl ?_;intro f h
      refine ao 2 h s bS rfl rfl (aA _ _ _ _) rfl ?_;intro f h
      have ho1:=bP (s.getSl 3 rfl)
      have ho2:=bP (s.getSl 4 rfl)
      refine cF (vs:=[.agg (aD m d5 us uf)]) [.tmp 49] h s Tryz.underlying22 er rfl rfl (fc ((⟨m,d5,[(L.getD (bG L no) z3).1.me],[]⟩,us,uf):N3)) rfl rfl rfl ?_;intro f w1 v50 h s
      replace s:=s.resl (m:=1) (ys:=mv ((⟨m,d5,[(L.getD (bG L no) z3).1.me],[]⟩,us,uf):N3)) 0 rfl rfl (fW ((⟨m,d5,[(L.getD (bG L no) z3).1.me],[]⟩,us,uf):N3))
      refine dt 1 0 h s Tryz.underlying22 er rfl rfl rfl rfl (by decide) (bW ho1 ho2) (by unfold maxLen;omega) (by omega) rfl ?_;intro f w1 v51 h s
      replace s:=s.pick _ (List.sublist_cons_self _ _)
      replace s:=s.resl (m:=(K++[((⟨m,d5,[(L.getD (bG L no) z3).1.me],[]⟩,us,uf):N3)]).length) (ys:=aK (K++[((⟨m,d5,[(L.getD (bG L no) z3).1.me],[]⟩,us,uf):N3)])) 0 rfl (by rw [List.length_append];rfl) (fh _ _)
      refine ac h (al cb (h.ev rfl)) rfl ?_;intro f h
      refine bp 7 h s cH rfl rfl rfl (by show 0<1;decide) (bP (s.getSl 0 rfl)) ?_;intro w1 s
      replace s:=s.recell (D:=#[v51]) 7 rfl rfl
      refine ah ?_
      refine hK22 _ _ ?_
      refine aj fun K23 hK23=>?_
      refine ae ?_
      refine ac h (al cb (h.ev rfl)) rfl ?_;intro f h
      refine ar (V:=v51) (am (bc.of_own s 7 rfl) 0 rfl) h cH rfl rfl ?_;intro f h
      have hrs:=(ex r0).rs
      have ho9:∀ y∈K++[((⟨m,d5,[(L.getD (bG L no) z3).1.me],[]⟩,us,uf):N3)],y.2.1.oneCell'=true∧y.2.2.oneCell'=true:=fun y hy=>by rcases List.mem_append.1 hy with hy|hy;exact(s.getG 1 rfl y hy).ones;rw [List.mem_singleton] at hy;subst hy;exact ⟨ho1,ho2⟩
      refine eP [v51,.func (.func 38) #[] #[]] h yn (pA (K++[((⟨m,d5,[(L.getD (bG L no) z3).1.me],[]⟩,us,uf):N3)]) (by rw [List.length_append];show K.length+1≤1000;omega) ho9 (rz hrs j0 hnk rfl) v51 _ _ _ s) rfl rfl ?_;rintro f w1 r ⟨K2,hkp,hks,s⟩ h
      replace s:=s.bring 1 rfl
      replace s:=s.bring 4 rfl
      replace s:=s.bring 4 rfl
      replace s:St w [.sl us 28 33 1 (av [(L.getD (bG L no) z3).1.me]),.sl uf 28 33 ([]:List Mb).length (av []),(.grp ks (fN K)),.sl v51 42 68 K2.length (aK K2),.blk b8 (.cells (aD m d5 us uf) 42),.blk b6 (.cells (#[bo]) 24),.blk b4 (.cells ((au m)) 28),.blk b3 (.cells (#[v51]) 24)] _:=s
      obtain ⟨kn,s⟩:=s.grpR (S':=fN K2) (fun w9 h1 h2 h3 y hy=>by rcases List.mem_append.1 (hkp.mem_iff.1 hy) with hy|hy;exact h3 y hy;rw [List.mem_singleton] at hy;subst hy;exact ⟨h1,h2⟩)
      refine ah ?_
      refine hK23 _ _ ?_
      refine aj fun K24 hK24=>?_
      refine ae ?_
      refine ao 5 h s aU rfl rfl (rfl) rfl ?_;intro f h
      refine ay 3 h s aU rfl rfl rfl (rfl) (rfl) (cj (bP (s.getSl 1 rfl))) ?_;intro w1 s
      refine ac h (ai (h.ev rfl)) rfl ?_;intro f h
      refine ah ?_
      refine hK24 _ _ ?_
      refine wpIn_ret ?_
      exact cd 3 rfl h s aU rfl rfl (rfl) rfl (jV ((ij hok).1.trans (pg j0 (.inr l0))) (rK (uV hok hrs j0 (pg j0 (.inr l0)) hnk (by rw [Ao hl0,← (qu hix).1]) hkp hks) (s.sel [1,0] rfl (by decide))))
    ·have hl0:¬ 0<L.length:=by have:=of_decide_eq_false hc;omega
     refine wpIn_skip ?_
     refine hK13 _ _ ?_
     refine aj fun K25 hK25=>?_
     refine ae ?_
     refine ao 5 h s aU rfl rfl (rfl) rfl ?_;intro f h
     refine aF h s tR (gS L vo _ (hO.keep s.ext) hL hb) rfl rfl ?_;rintro f w1 v46 ⟨vq,K,ks,rfl,hnk,hS⟩ hE h sq;replace s:=s.add hS;clear hS
     have hlk:K.length=L.length:=by have h9:=congrArg List.length hnk;simpa [nds] using h9
     refine ay 7 h s aU rfl rfl rfl (rfl) (rfl) (cj (bP (s.getSl 0 rfl))) ?_;intro w1 s
     refine ah ?_
     refine hK25 _ _ ?_
     refine aj fun K26 hK26=>?_
     refine ae ?_
     refine ac h (al cb (h.ev rfl)) rfl ?_;intro f h
     refine ar (V:=vq) (am (bc.of_own s 7 rfl) 0 rfl) h cH rfl rfl ?_;intro f h
     refine ao 2 h s bS rfl rfl (aA _ _ _ _) rfl ?_;intro f h
     have ho1:=bP (s.getSl 3 rfl)
     have ho2:=bP (s.getSl 4 rfl)
     refine cF (vs:=[.agg (aD m d5 us uf)]) [.tmp 49] h s Tryz.underlying22 er rfl rfl (fc ((⟨m,d5,[m],[]⟩,us,uf):N3)) rfl rfl rfl ?_;intro f w1 v50 h s
     replace s:=s.resl (m:=1) (ys:=mv ((⟨m,d5,[m],[]⟩,us,uf):N3)) 0 rfl rfl (fW ((⟨m,d5,[m],[]⟩,us,uf):N3))
     refine dt 1 0 h s Tryz.underlying22 er rfl rfl rfl rfl (by decide) (bW ho1 ho2) (by unfold maxLen;omega) (by omega) rfl ?_;intro f w1 v51 h s
     replace s:=s.pick _ (List.sublist_cons_self _ _)
     replace s:=s.resl (m:=(K++[((⟨m,d5,[m],[]⟩,us,uf):N3)]).length) (ys:=aK (K++[((⟨m,d5,[m],[]⟩,us,uf):N3)])) 0 rfl (by rw [List.length_append];rfl) (fh _ _)
     refine ac h (al cb (h.ev rfl)) rfl ?_;intro f h
     refine bp 7 h s cH rfl rfl rfl (by show 0<1;decide) (bP (s.getSl 0 rfl)) ?_;intro w1 s
     replace s:=s.recell (D:=#[v51]) 7 rfl rfl
     refine ah ?_
     refine hK26 _ _ ?_
     refine aj fun K27 hK27=>?_
     refine ae ?_
     refine ac h (al cb (h.ev rfl)) rfl ?_;intro f h
     refine ar (V:=v51) (am (bc.of_own s 7 rfl) 0 rfl) h cH rfl rfl ?_;intro f h
     have hrs:=(ex r0).rs
     have ho9:∀ y∈K++[((⟨m,d5,[m],[]⟩,us,uf):N3)],y.2.1.oneCell'=true∧y.2.2.oneCell'=true:=fun y hy=>by rcases List.mem_append.1 hy with hy|hy;exact(s.getG 1 rfl y hy).ones;rw [List.mem_singleton] at hy;subst hy;exact ⟨ho1,ho2⟩
     refine eP [v51,.func (.func 38) #[] #[]] h yn (pA (K++[((⟨m,d5,[m],[]⟩,us,uf):N3)]) (by rw [List.length_append];show K.length+1≤1000;omega) ho9 (rz hrs j0 hnk rfl) v51 _ _ _ s) rfl rfl ?_;rintro f w1 r ⟨K2,hkp,hks,s⟩ h
     replace s:=s.bring 1 rfl
     replace s:=s.bring 4 rfl
     replace s:=s.bring 4 rfl
     replace s:St w [.sl us 28 33 1 (av [m]),.sl uf 28 33 ([]:List Mb).length (av []),(.grp ks (fN K)),.sl v51 42 68 K2.length (aK K2),.blk b8 (.cells (aD m d5 us uf) 42),.blk b6 (.cells (#[bo]) 24),.blk b4 (.cells ((au m)) 28),.blk b3 (.cells (#[v51]) 24)] _:=s
     obtain ⟨kn,s⟩:=s.grpR (S':=fN K2) (fun w9 h1 h2 h3 y hy=>by rcases List.mem_append.1 (hkp.mem_iff.1 hy) with hy|hy;exact h3 y hy;rw [List.mem_singleton] at hy;subst hy;exact ⟨h1,h2⟩)
     refine ah ?_
     refine hK27 _ _ ?_
     refine aj fun K28 hK28=>?_
     refine ae ?_
     refine ao 5 h s aU rfl rfl (rfl) rfl ?_;intro f h
     refine ay 3 h s aU rfl rfl rfl (rfl) (rfl) (cj (bP (s.getSl 1 rfl))) ?_;intro w1 s
     refine ac h (ai (h.ev rfl)) rfl ?_;intro f h
     refine ah ?_
     refine hK28 _ _ ?_
     refine wpIn_ret ?_
     exact cd 3 rfl h s aU rfl rfl (rfl) rfl (jV ((ij hok).1.trans (pg j0 (.inl hl0))) (rK (uV hok hrs j0 (pg j0 (.inl hl0)) hnk (by rw [Ap hl0]) hkp hks) (s.sel [1,0] rfl (by decide))))
   ·skip
    refine ae ?_
    have hok:=yy r0 h0
    have hnos:=(ex r0).rs.nos
    refine ao 5 h s aU rfl rfl (rfl) rfl ?_;intro f h
    refine ao 4 h s aL rfl rfl (ak _) rfl ?_;intro f h
    refine aF h s yb (aO (.bool true) (mS L vo m _ (hO.keep s.ext) hL hb) (congrArg Value.bool j0)) rfl rfl ?_;intro f w1 v9 hT hE h s;obtain rfl:=hT
    refine ah ?_
    refine hK12 _ _ ?_
    refine wpIn_cond_true (h.ev rfl) ?_
    refine aj fun K29 hK29=>?_
    refine ae ?_
    refine ac h (bM eE) rfl ?_;intro f h
    refine ay 3 h s aU rfl rfl rfl (rfl) (rfl) (cj (rfl)) ?_;intro w1 s
    refine ac h (ai (h.ev rfl)) rfl ?_;intro f h
    refine ah ?_
    refine hK29 _ _ ?_
    refine wpIn_ret ?_
    refine aQ ?_
    exact cd 3 rfl h s aU rfl rfl (rfl) rfl (eH s ((ij hok).2.trans (ln (pl j0) (by decide))) ((ij hok).1.trans (pl j0)))
end Go.Proofs.YthggibfkgofncaaGreat
