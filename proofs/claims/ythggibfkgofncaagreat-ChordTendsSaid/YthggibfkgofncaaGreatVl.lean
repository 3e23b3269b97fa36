/- What ChordTends answers: for all arguments. -/
import Derived.Test.YthggibfkgofncaaGreatVf
import Derived.Test.YthggibfkgofncaaGreatVk
import Derived.Test.YthggibfkgofncaaGreatWg
set_option linter.unusedVariables false
set_option linter.unusedSimpArgs false
set_option linter.unusedSectionVars false
namespace Go.Proofs.YthggibfkgofncaaGreat
open Go.RowKit
set_option maxHeartbeats 4000000 in
theorem rj (L:List N3) (vo:Value) (no:Int) (w:World) (hO:dN w vo L):Calls Tryz.prog 4 [.agg #[vo],.int .i64 no].toArray w (cU w (is (.bool true))):=by
 refine bp Tryz.func4 rfl Tryz.ntmps4 rfl [(0,.agg #[vo]),(1,.int .i64 no)] (by simp) fun f h=>?_
 have s:=St.start w
 refine al fun K1 hK1=>?_
 refine ae ?_
 refine bV (#[vo]) h s rfl rfl rfl ?_;intro f w1 b2 h s
 refine ac h (aj (h.ev rfl)) rfl ?_;intro f h
 refine ah ?_
 refine hK1 _ _ ?_
 refine al fun K2 hK2=>?_
 refine ae ?_
 refine ar 0 h s a6 rfl rfl (rfl) rfl ?_;intro f h
 refine aH h s Es (wO L vo _ (hO.keep s.ext)) rfl rfl ?_;rintro f w1 v10 ⟨vm,rfl,hOw⟩ hE h sq;replace s:=s.sl_new hE hOw;clear hOw
 obtain ⟨M,hM⟩:∃ x9,x9=(L.take (min L.length 18)).map iD:=⟨_,rfl⟩
 rw [← hM] at s
 have hMf:FewO M:=by rw [hM];exact yY L
 have hM18:=hMf.len
 have hM40:M.length≤40:=by omega
 have hMb:=hMf.rb
 have hMr:∀ y∈M,jX w y:=by rw [hM];exact wc (fun y hy=>hO.2 y (List.mem_of_mem_take hy))
 refine ax 1 h s a6 rfl rfl rfl (rfl) (rfl) (cn (aX (s.getSl 0 rfl))) ?_;intro w1 s
 refine ah ?_
 refine hK2 _ _ ?_
 refine al fun K3 hK3=>?_
 refine ae ?_
 refine ar 1 h s a6 rfl rfl (rfl) rfl ?_;intro f h
 refine ac h (ag (h.ev rfl)) rfl ?_;intro f h
 refine aH h s DB (uQ M vm no _ (⟨bq.of_own (s.getSl 0 rfl),fun y hy=>(hMr y hy).keep s.ext⟩:dN _ vm M) hM40 hMb) rfl rfl ?_;rintro f w1 v14 ⟨o9,rfl,va,La,ka,rfl,hnva,hG⟩ hE h sq;replace s:=s.add hG;clear hG
 have hlva:=(Af M no).l hnva
 have hbva:=(Af M no).r hnva
 refine ac h (ag (h.ev rfl)) rfl ?_;intro f h
 refine ac h (bK (h.ev rfl) rfl) rfl ?_;intro f h
 refine ac h (bK (h.ev rfl) rfl) rfl ?_;intro f h
 refine bj (#[a8]) h s eY rfl rfl ?_;intro f w1 b5 h s
 refine ax 0 h s a6 rfl rfl rfl (rfl) (rfl) (cn (co (((s.getG 1 rfl) (⟨bq.of_own (s.getSl 2 rfl),fun y hy=>(hMr y hy).keep s.ext⟩:dN _ vm M)).1))) ?_;intro w1 s
 refine ac h (aj (h.ev rfl)) rfl ?_;intro f h
 refine ah ?_
 refine hK3 _ _ ?_
 refine al fun K4 hK4=>?_
 refine ae ?_
 refine ar 3 h s a6 rfl rfl (rfl) rfl ?_;intro f h
 refine aH h s CE (r8 M vm _ (⟨bq.of_own (s.getSl 2 rfl),fun y hy=>(hMr y hy).keep s.ext⟩:dN _ vm M) hM40 hMb) rfl rfl ?_;rintro f w1 v19 ⟨o9,rfl,vb,Lb,kb,rfl,hnvb,hG⟩ hE h sq;replace s:=s.add hG;clear hG
 have hlvb:=(A6 M).l hnvb
 have hbvb:=(A6 M).r hnvb
 refine ac h (ag (h.ev rfl)) rfl ?_;intro f h
 refine ac h (bK (h.ev rfl) rfl) rfl ?_;intro f h
 refine ac h (bK (h.ev rfl) rfl) rfl ?_;intro f h
 refine bj (#[a8]) h s eY rfl rfl ?_;intro f w1 b7 h s
 refine ax 0 h s a6 rfl rfl rfl (rfl) (rfl) (cn (co (((s.getG 1 rfl) (⟨bq.of_own (s.getSl 4 rfl),fun y hy=>(hMr y hy).keep s.ext⟩:dN _ vm M)).1))) ?_;intro w1 s
 refine ac h (aj (h.ev rfl)) rfl ?_;intro f h
 refine ah ?_
 refine hK4 _ _ ?_
 refine al fun K5 hK5=>?_
 refine al fun K6 hK6=>?_
 refine ae ?_
 refine aH h s DC (aO (.bool true) (rh _) (rfl)) rfl rfl ?_;intro f w1 v9 hT hE h s;obtain rfl:=hT
 refine ac h (av (.bool false) (bh (h.ev rfl)) rfl) rfl ?_;intro f h
 refine ah ?_
 refine hK6 _ _ ?_
 refine wpIn_cond_false (h.ev rfl) ?_
 refine wpIn_skip ?_
 refine hK5 _ _ ?_
 refine al fun K7 hK7=>?_
 refine al fun K8 hK8=>?_
 cases r0:(gm M:Bool)
 ·skip
  refine ae ?_
  refine ar 5 h s a6 rfl rfl (rfl) rfl ?_;intro f h
  refine aH h s z6 (aO (.bool false) (nv M vm _ (⟨bq.of_own (s.getSl 4 rfl),fun y hy=>(hMr y hy).keep s.ext⟩:dN _ vm M) hM40 hMb) (congrArg Value.bool r0)) rfl rfl ?_;intro f w1 v9 hT hE h s;obtain rfl:=hT
  refine ac h (av (.bool true) (bh (h.ev rfl)) rfl) rfl ?_;intro f h
  refine ah ?_
  refine hK8 _ _ ?_
  refine wpIn_cond_true (h.ev rfl) ?_
  refine al fun K9 hK9=>?_
  refine ae ?_
  refine ar 2 h s a6 rfl rfl (rfl) rfl ?_;intro f h
  refine ac h (cG jK) rfl ?_;intro f h
  refine ac h (ag (h.ev rfl)) rfl ?_;intro f h
  refine aH h s qw (aO (.bool true) (gy La [] va a8 (cE M no) 1 _ ((s.getG 3 rfl) (⟨bq.of_own (s.getSl 4 rfl),fun y hy=>(hMr y hy).keep s.ext⟩:dN _ vm M)) hlva (fq _) (by decide) hbva mM) (congrArg Value.bool (Bu (kR r0) (by decide) (hnva.trans (qX (kR r0) (by decide)))))) rfl rfl ?_;intro f w1 v9 hT hE h s;obtain rfl:=hT
  refine ac h (ag (h.ev rfl)) rfl ?_;intro f h
  refine az h rfl rfl rfl ?_
  refine ar 0 h s a6 rfl rfl (rfl) rfl ?_;intro f h
  refine az h rfl rfl rfl ?_
  refine ac h (cG jK) rfl ?_;intro f h
  refine az h rfl rfl rfl ?_
  refine ac h (ag (h.ev rfl)) rfl ?_;intro f h
  refine az h rfl rfl rfl ?_
  refine aH h s qw (aO (.bool true) (gy Lb [] vb a8 (BS M) 1 _ ((s.getG 1 rfl) (⟨bq.of_own (s.getSl 4 rfl),fun y hy=>(hMr y hy).keep s.ext⟩:dN _ vm M)) hlvb (fq _) (by decide) hbvb mM) (congrArg Value.bool (Bu (qU r0).1 (by decide) (hnvb.trans (qU r0).2)))) rfl rfl ?_;intro f w1 v9 hT hE h s;obtain rfl:=hT
  refine ac h (aI (h.ev rfl) (h.ev rfl)) rfl ?_;intro f h
  refine ac h (aj (h.ev rfl)) rfl ?_;intro f h
  refine ah ?_
  refine hK9 _ _ ?_
  refine wpIn_ret ?_
  refine aW ?_
  exact bf rfl h s rfl (rfl)
 ·skip
  refine ae ?_
  refine ar 5 h s a6 rfl rfl (rfl) rfl ?_;intro f h
  refine aH h s z6 (aO (.bool true) (nv M vm _ (⟨bq.of_own (s.getSl 4 rfl),fun y hy=>(hMr y hy).keep s.ext⟩:dN _ vm M) hM40 hMb) (congrArg Value.bool r0)) rfl rfl ?_;intro f w1 v9 hT hE h s;obtain rfl:=hT
  refine ac h (av (.bool false) (bh (h.ev rfl)) rfl) rfl ?_;intro f h
  refine ah ?_
  refine hK8 _ _ ?_
  refine wpIn_cond_false (h.ev rfl) ?_
  refine wpIn_skip ?_
  refine hK7 _ _ ?_
  refine al fun K10 hK10=>?_
  refine al fun K11 hK11=>?_
  have hrs:=(eT r0).rs
  have hbs:=s.ext.le
  refine' jh 5 [3] [] [[],[],[1],[],[0,1,2,3],[0,1,2,3,4]] (is _::is _::(tO (gU (nds M)))::is _::is _::is undef::[]) (fun _=>True) h s (by kernel_rfl) (by kernel_rfl) (by kernel_rfl) (by kernel_rfl) rfl (fun _ _ h _=>h) (trivial) ⟨⟨_,rfl⟩,trivial⟩ ⟨bu _,bu _,tO.mono _,bu _,bu _,bu _,trivial⟩ (And.intro ?_ (And.intro ?_ (And.intro ?_ (And.intro ?_ (And.intro ?_ (And.intro ?_ (trivial))))))) ?_
  rotate_left 4
  ·refine cr 37 rfl (by decide) (by decide) ?_
   intro f9 w2 hE hs hd9 hl
   have e7:f9.tmps.getD 7 undef=_:=di hl 7 (by kernel_rfl) (by kernel_rfl) (h.holds 7 _ rfl)
   have h:=ay [(7,_)] hs hd9 (holds_lk ⟨e7,trivial⟩)
   have s:=s.more hE
   have z:=St.start w2
   have hrs:=(eT r0).rs
   refine ar 0 h s a6 rfl rfl (rfl) rfl ?_;intro f h
   refine ah ?_
   have e9:=h.holds 37 _ rfl
   refine ⟨?_,Ext.refl _,fun h9=>absurd h9 (by decide)⟩
   refine e9.trans ?_
   exact rfl
  ·refine cr 38 rfl (by decide) (by decide) ?_
   intro f9 w2 hE hs hd9 hl
   have e2:f9.tmps.getD 2 undef=_:=di hl 2 (by kernel_rfl) (by kernel_rfl) (h.holds 2 _ rfl)
   have h:=ay [(2,_)] hs hd9 (holds_lk ⟨e2,trivial⟩)
   have s:=s.more hE
   have z:=St.start w2
   refine ar 5 h s a6 rfl rfl (rfl) rfl ?_;intro f h
   refine ah ?_
   have e9:=h.holds 38 _ rfl
   refine ⟨?_,Ext.refl _,fun h9=>absurd h9 (by decide)⟩
   refine e9.trans ?_
   exact rfl
  ·refine cr 39 rfl (by decide) (by decide) ?_
   intro f9 w2 hE hs hd9 hl
   have e38:f9.tmps.getD 38 undef=_:=cc hl 38 1 (by kernel_rfl) (by kernel_rfl)
   have h:=ay [(38,_)] hs hd9 (holds_lk ⟨e38,trivial⟩)
   have s:=s.more hE
   have z:=St.start w2
   refine aH h s Du (ua M vm _ (⟨bq.of_own (s.getSl 4 rfl),fun y hy=>(hMr y hy).keep s.ext⟩:dN _ vm M) hM40 hrs) rfl rfl ?_;intro f w3 v3 hT9 hE3 h s
   refine ah ?_
   exact ⟨by rw [h.holds 39 _ rfl];exact hT9.d (⟨bq.of_own (s.getSl 4 rfl),fun y hy=>(hMr y hy).keep s.ext⟩:dN _ vm M),hE3,fun h9=>absurd h9 (by decide)⟩
  ·refine dQ 40 rfl (by decide) ?_
   intro f9 w2 hE hs hl
   have e8:f9.tmps.getD 8 undef=_:=di hl 8 (by kernel_rfl) (by kernel_rfl) (h.holds 8 _ rfl)
   have h:=ay [(8,_)] hs rfl (holds_lk ⟨e8,trivial⟩)
   refine ac h (ag (h.ev rfl)) rfl ?_;intro f h
   refine ah ?_
   have e9:=h.holds 40 _ rfl
   refine ⟨?_,rfl⟩
   refine e9.trans ?_
   exact rfl
  ·refine cr 41 rfl (by decide) (by decide) ?_
   intro f9 w2 hE hs hd9 hl
   have e37:f9.tmps.getD 37 undef=_:=cc hl 37 0 (by kernel_rfl) (by kernel_rfl)
   obtain ⟨u39,hu39⟩:∃ v,f9.tmps.getD 39 undef=v:=⟨_,rfl⟩
   have e39:(tO (gU (nds M))) u39 w2:=by rw [← hu39];exact cc hl 39 2 (by kernel_rfl) (by kernel_rfl)
   have e40:f9.tmps.getD 40 undef=_:=cc hl 40 3 (by kernel_rfl) (by kernel_rfl)
   have h:=ay [(37,_),(39,u39),(40,_)] hs hd9 (holds_lk ⟨e37,hu39,e40,trivial⟩)
   have s:=s.more hE
   have z:=St.start w2
   obtain ⟨vq,Lq,rfl,hnq,hRq⟩:=e39
   have hlq:=(n4 (mn hrs) (gR _)).l hnq
   have hbq:=(n4 (mn hrs) (gR _)).r hnq
   refine aH h s qw (aO (.bool true) (gy Lb Lq vb vq (BS M) 0 _ ((s.getG 1 rfl) (⟨bq.of_own (s.getSl 4 rfl),fun y hy=>(hMr y hy).keep s.ext⟩:dN _ vm M)) hlvb hRq hlq hbvb hbq) (congrArg Value.bool (DD (qM r0).1 (hnvb.trans ((qM r0).2.trans hnq.symm))))) rfl rfl ?_;intro f w3 v3 hT9 hE3 h s
   refine ah ?_
   exact ⟨by rw [h.holds 41 _ rfl];exact hT9,hE3,fun h9=>absurd h9 (by decide)⟩
  ·exact fG (by decide) (by decide)
  ·intro f9 w2 hE hs hd9 hWp hT hR hFr hDj
   obtain ⟨u39,hu39⟩:∃ v,f9.tmps.getD 39 undef=v:=⟨_,rfl⟩
   have e39:(tO (gU (nds M))) u39 w2:=by rw [← hu39];exact hT 2 39 (by decide) rfl
   replace h:=sl_new (ops:=_) [(37,_),(38,_),(39,u39),(40,_),(41,_)] h hs hd9 hR ⟨hT 0 37 (by decide) rfl,hT 1 38 (by decide) rfl,hu39,hT 3 40 (by decide) rfl,hT 4 41 (by decide) rfl,trivial⟩ (by kernel_rfl)
   replace s:=s.more hE
   clear hT hR hFr hDj
   refine fZ.of ?_
   refine ac h (av (.bool false) (bh (h.ev rfl)) rfl) rfl ?_;intro f h
   refine ah ?_
   refine hK11 _ _ ?_
   refine wpIn_cond_false (h.ev rfl) ?_
   refine wpIn_skip ?_
   refine hK10 _ _ ?_
   refine al fun K12 hK12=>?_
   refine al fun K13 hK13=>?_
   cases l0:(ce (aM M) no:Bool)
   ·skip
    refine ae ?_
    refine ar 5 h s a6 rfl rfl (rfl) rfl ?_;intro f h
    refine ac h (ag (h.ev rfl)) rfl ?_;intro f h
    refine aH h s i5 (aO (.bool false) (eg M vm no _ (⟨bq.of_own (s.getSl 4 rfl),fun y hy=>(hMr y hy).keep s.ext⟩:dN _ vm M) hM40) (congrArg Value.bool l0)) rfl rfl ?_;intro f w1 v9 hT hE h s;obtain rfl:=hT
    refine ac h (av (.bool true) (bh (h.ev rfl)) rfl) rfl ?_;intro f h
    refine ah ?_
    refine hK13 _ _ ?_
    refine wpIn_cond_true (h.ev rfl) ?_
    refine al fun K14 hK14=>?_
    refine ae ?_
    refine ar 2 h s a6 rfl rfl (rfl) rfl ?_;intro f h
    refine ac h (cG jK) rfl ?_;intro f h
    refine ac h (ag (h.ev rfl)) rfl ?_;intro f h
    refine aH h s qw (aO (.bool true) (gy La [] va a8 (cE M no) 10 _ ((s.getG 3 rfl) (⟨bq.of_own (s.getSl 4 rfl),fun y hy=>(hMr y hy).keep s.ext⟩:dN _ vm M)) hlva (fq _) (by decide) hbva mM) (congrArg Value.bool (Bu (iX r0 l0) (by decide) (hnva.trans (qX (iX r0 l0) (by decide)))))) rfl rfl ?_;intro f w1 v9 hT hE h s;obtain rfl:=hT
    refine ac h (aj (h.ev rfl)) rfl ?_;intro f h
    refine ah ?_
    refine hK14 _ _ ?_
    refine wpIn_ret ?_
    refine aW ?_
    exact bf rfl h s rfl (rfl)
   ·skip
    refine ae ?_
    refine ar 5 h s a6 rfl rfl (rfl) rfl ?_;intro f h
    refine ac h (ag (h.ev rfl)) rfl ?_;intro f h
    refine aH h s i5 (aO (.bool true) (eg M vm no _ (⟨bq.of_own (s.getSl 4 rfl),fun y hy=>(hMr y hy).keep s.ext⟩:dN _ vm M) hM40) (congrArg Value.bool l0)) rfl rfl ?_;intro f w1 v9 hT hE h s;obtain rfl:=hT
    refine ac h (av (.bool false) (bh (h.ev rfl)) rfl) rfl ?_;intro f h
    refine ah ?_
    refine hK13 _ _ ?_
    refine wpIn_cond_false (h.ev rfl) ?_
    refine wpIn_skip ?_
    refine hK12 _ _ ?_
    refine al fun K15 hK15=>?_
    have hbs:=s.ext.le
    refine' jh 6 [2,4] [] [[],[],[],[1,2],[],[0,1,2,3,4],[0,1,2,3,4,5]] (is _::is _::is _::(tO (fE (nds M) no))::is _::is _::is undef::[]) (fun _=>True) h s (by kernel_rfl) (by kernel_rfl) (by kernel_rfl) (by kernel_rfl) rfl (fun _ _ h _=>h) (trivial) ⟨⟨_,rfl⟩,⟨_,rfl⟩,trivial⟩ ⟨bu _,bu _,bu _,tO.mono _,bu _,bu _,bu _,trivial⟩ (And.intro ?_ (And.intro ?_ (And.intro ?_ (And.intro ?_ (And.intro ?_ (And.intro ?_ (And.intro ?_ (trivial)))))))) ?_
    rotate_left 5
    ·refine cr 51 rfl (by decide) (by decide) ?_
     intro f9 w2 hE hs hd9 hl
     have e5:f9.tmps.getD 5 undef=_:=di hl 5 (by kernel_rfl) (by kernel_rfl) (h.holds 5 _ rfl)
     have h:=ay [(5,_)] hs hd9 (holds_lk ⟨e5,trivial⟩)
     have s:=s.more hE
     have z:=St.start w2
     refine ar 2 h s a6 rfl rfl (rfl) rfl ?_;intro f h
     refine ah ?_
     have e9:=h.holds 51 _ rfl
     refine ⟨?_,Ext.refl _,fun h9=>absurd h9 (by decide)⟩
     refine e9.trans ?_
     exact rfl
    ·refine cr 52 rfl (by decide) (by decide) ?_
     intro f9 w2 hE hs hd9 hl
     have e2:f9.tmps.getD 2 undef=_:=di hl 2 (by kernel_rfl) (by kernel_rfl) (h.holds 2 _ rfl)
     have h:=ay [(2,_)] hs hd9 (holds_lk ⟨e2,trivial⟩)
     have s:=s.more hE
     have z:=St.start w2
     refine ar 5 h s a6 rfl rfl (rfl) rfl ?_;intro f h
     refine ah ?_
     have e9:=h.holds 52 _ rfl
     refine ⟨?_,Ext.refl _,fun h9=>absurd h9 (by decide)⟩
     refine e9.trans ?_
     exact rfl
    ·refine dQ 53 rfl (by decide) ?_
     intro f9 w2 hE hs hl
     have e1:f9.tmps.getD 1 undef=_:=di hl 1 (by kernel_rfl) (by kernel_rfl) (h.holds 1 _ rfl)
     have h:=ay [(1,_)] hs rfl (holds_lk ⟨e1,trivial⟩)
     refine ac h (ag (h.ev rfl)) rfl ?_;intro f h
     refine ah ?_
     have e9:=h.holds 53 _ rfl
     refine ⟨?_,rfl⟩
     refine e9.trans ?_
     exact rfl
    ·refine cr 54 rfl (by decide) (by decide) ?_
     intro f9 w2 hE hs hd9 hl
     have e52:f9.tmps.getD 52 undef=_:=cc hl 52 1 (by kernel_rfl) (by kernel_rfl)
     have e53:f9.tmps.getD 53 undef=_:=cc hl 53 2 (by kernel_rfl) (by kernel_rfl)
     have h:=ay [(52,_),(53,_)] hs hd9 (holds_lk ⟨e52,e53,trivial⟩)
     have s:=s.more hE
     have z:=St.start w2
     refine aH h s AC (qI M vm no _ (⟨bq.of_own (s.getSl 4 rfl),fun y hy=>(hMr y hy).keep s.ext⟩:dN _ vm M) hM40 hMb hrs l0) rfl rfl ?_;intro f w3 v3 hT9 hE3 h s
     refine ah ?_
     exact ⟨by rw [h.holds 54 _ rfl];exact hT9.d (fun y hy=>(hMr y hy).keep s.ext),hE3,fun h9=>absurd h9 (by decide)⟩
    ·refine dQ 55 rfl (by decide) ?_
     intro f9 w2 hE hs hl
     have e6:f9.tmps.getD 6 undef=_:=di hl 6 (by kernel_rfl) (by kernel_rfl) (h.holds 6 _ rfl)
     have h:=ay [(6,_)] hs rfl (holds_lk ⟨e6,trivial⟩)
     refine ac h (ag (h.ev rfl)) rfl ?_;intro f h
     refine ah ?_
     have e9:=h.holds 55 _ rfl
     refine ⟨?_,rfl⟩
     refine e9.trans ?_
     exact rfl
    ·refine cr 56 rfl (by decide) (by decide) ?_
     intro f9 w2 hE hs hd9 hl
     have e51:f9.tmps.getD 51 undef=_:=cc hl 51 0 (by kernel_rfl) (by kernel_rfl)
     obtain ⟨u54,hu54⟩:∃ v,f9.tmps.getD 54 undef=v:=⟨_,rfl⟩
     have e54:(tO (fE (nds M) no)) u54 w2:=by rw [← hu54];exact cc hl 54 3 (by kernel_rfl) (by kernel_rfl)
     have e55:f9.tmps.getD 55 undef=_:=cc hl 55 4 (by kernel_rfl) (by kernel_rfl)
     have h:=ay [(51,_),(54,u54),(55,_)] hs hd9 (holds_lk ⟨e51,hu54,e55,trivial⟩)
     have s:=s.more hE
     have z:=St.start w2
     obtain ⟨vq,Lq,rfl,hnq,hRq⟩:=e54
     have hlq:=(n4 (l5 hrs l0).1 (gR _)).l hnq
     have hbq:=(n4 (l5 hrs l0).1 (gR _)).r hnq
     refine aH h s qw (aO (.bool true) (gy La Lq va vq (cE M no) 0 _ ((s.getG 3 rfl) (⟨bq.of_own (s.getSl 4 rfl),fun y hy=>(hMr y hy).keep s.ext⟩:dN _ vm M)) hlva hRq hlq hbva hbq) (congrArg Value.bool (DD (nP r0 l0) (hnva.trans ((wl (nP r0 l0)).trans hnq.symm))))) rfl rfl ?_;intro f w3 v3 hT9 hE3 h s
     refine ah ?_
     exact ⟨by rw [h.holds 56 _ rfl];exact hT9,hE3,fun h9=>absurd h9 (by decide)⟩
    ·exact fG (by decide) (by decide)
    ·intro f9 w2 hE hs hd9 hWp hT hR hFr hDj
     obtain ⟨u54,hu54⟩:∃ v,f9.tmps.getD 54 undef=v:=⟨_,rfl⟩
     have e54:(tO (fE (nds M) no)) u54 w2:=by rw [← hu54];exact hT 3 54 (by decide) rfl
     replace h:=sl_new (ops:=_) [(51,_),(52,_),(53,_),(54,u54),(55,_),(56,_)] h hs hd9 hR ⟨hT 0 51 (by decide) rfl,hT 1 52 (by decide) rfl,hT 2 53 (by decide) rfl,hu54,hT 4 55 (by decide) rfl,hT 5 56 (by decide) rfl,trivial⟩ (by kernel_rfl)
     replace s:=s.more hE
     clear hT hR hFr hDj
     refine fZ.of ?_
     refine ac h (aj (h.ev rfl)) rfl ?_;intro f h
     refine ah ?_
     refine hK15 _ _ ?_
     refine wpIn_ret ?_
     exact bf rfl h s rfl (rfl)
end Go.Proofs.YthggibfkgofncaaGreat
