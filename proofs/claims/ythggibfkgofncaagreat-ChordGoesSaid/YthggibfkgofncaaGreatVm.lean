/- What ChordGoes answers: for all arguments. -/
import Derived.Test.YthggibfkgofncaaGreatVh
import Derived.Test.YthggibfkgofncaaGreatVk
import Derived.Test.YthggibfkgofncaaGreatWi
set_option linter.unusedVariables false
set_option linter.unusedSimpArgs false
set_option linter.unusedSectionVars false
namespace Go.Proofs.YthggibfkgofncaaGreat
open Go.RowKit
set_option maxHeartbeats 4000000 in
theorem th (L:List N3) (vo:Value) (no:Int) (w:World) (hO:eN w vo L):Calls Tryz.prog 5 [.agg #[vo],.int .i64 no].toArray w (cU w (is (.bool true))):=by
 refine bq Tryz.func5 rfl Tryz.ntmps5 rfl [(0,.agg #[vo]),(1,.int .i64 no)] (by simp) fun f h=>?_
 have s:=St.start w
 refine al fun K1 hK1=>?_
 refine ae ?_
 refine bV (#[vo]) h s rfl rfl rfl ?_;intro f w1 b2 h s
 refine ac h (ak (h.ev rfl)) rfl ?_;intro f h
 refine ah ?_
 refine hK1 _ _ ?_
 refine al fun K2 hK2=>?_
 refine ae ?_
 refine au 0 h s bk rfl rfl (rfl) rfl ?_;intro f h
 refine aI h s Dz (wJ L vo _ (hO.keep s.ext)) rfl rfl ?_;rintro f w1 v11 ⟨vm,rfl,hOw⟩ hE h sq;replace s:=s.sl_new hE hOw;clear hOw
 obtain ⟨M,hM⟩:∃ x9,x9=(L.take (min L.length 18)).map ig:=⟨_,rfl⟩
 rw [← hM] at s
 have hMf:FewO M:=by rw [hM];exact yD L
 have hM18:=hMf.len
 have hM40:M.length≤40:=by omega
 have hMb:=hMf.rb
 have hMr:∀ y∈M,f4 w y:=by rw [hM];exact uL (fun y hy=>hO.2 y (List.mem_of_mem_take hy))
 refine az 1 h s bk rfl rfl rfl (rfl) (rfl) (cq (aQ (s.getSl 0 rfl))) ?_;intro w1 s
 refine ah ?_
 refine hK2 _ _ ?_
 refine al fun K3 hK3=>?_
 refine ae ?_
 refine au 1 h s bk rfl rfl (rfl) rfl ?_;intro f h
 refine ac h (ag (h.ev rfl)) rfl ?_;intro f h
 refine aI h s rU (sB M vm no _ (⟨bX.of_own (s.getSl 0 rfl),fun y hy=>(hMr y hy).keep s.ext⟩:eN _ vm M) hM40 hMb) rfl rfl ?_;rintro f w1 v15 ⟨o9,rfl,va,La,ka,rfl,hnva,hG⟩ hE h sq;replace s:=s.add hG;clear hG
 have hlva:=(z1 M no).l hnva
 have hbva:=(z1 M no).r hnva
 refine ac h (ag (h.ev rfl)) rfl ?_;intro f h
 refine ac h (bG (h.ev rfl) rfl) rfl ?_;intro f h
 refine ac h (bG (h.ev rfl) rfl) rfl ?_;intro f h
 refine bf (#[bp]) h s d3 rfl rfl ?_;intro f w1 b5 h s
 refine az 0 h s bk rfl rfl rfl (rfl) (rfl) (cq (dc (((s.getG 1 rfl) (⟨bX.of_own (s.getSl 2 rfl),fun y hy=>(hMr y hy).keep s.ext⟩:eN _ vm M)).1))) ?_;intro w1 s
 refine ac h (ak (h.ev rfl)) rfl ?_;intro f h
 refine ah ?_
 refine hK3 _ _ ?_
 refine al fun K4 hK4=>?_
 refine ae ?_
 refine au 3 h s bk rfl rfl (rfl) rfl ?_;intro f h
 refine ac h (ag (h.ev rfl)) rfl ?_;intro f h
 refine aI h s BX (p6 M vm no _ (⟨bX.of_own (s.getSl 2 rfl),fun y hy=>(hMr y hy).keep s.ext⟩:eN _ vm M) hM40 hMb) rfl rfl ?_;rintro f w1 v21 ⟨o9,rfl,vb,Lb,kb,rfl,hnvb,hG⟩ hE h sq;replace s:=s.add hG;clear hG
 have hlvb:=(su M no).l hnvb
 have hbvb:=(su M no).r hnvb
 refine ac h (ag (h.ev rfl)) rfl ?_;intro f h
 refine ac h (bG (h.ev rfl) rfl) rfl ?_;intro f h
 refine ac h (bG (h.ev rfl) rfl) rfl ?_;intro f h
 refine bf (#[bp]) h s d3 rfl rfl ?_;intro f w1 b7 h s
 refine az 0 h s bk rfl rfl rfl (rfl) (rfl) (cq (dc (((s.getG 1 rfl) (⟨bX.of_own (s.getSl 4 rfl),fun y hy=>(hMr y hy).keep s.ext⟩:eN _ vm M)).1))) ?_;intro w1 s
 refine ac h (ak (h.ev rfl)) rfl ?_;intro f h
 refine ah ?_
 refine hK4 _ _ ?_
 refine al fun K5 hK5=>?_
 refine al fun K6 hK6=>?_
 refine ae ?_
 refine aI h s CR (aM (.bool true) (qD _) (rfl)) rfl rfl ?_;intro f w1 v9 hT hE h s;obtain rfl:=hT
 refine ac h (aw (.bool false) (bB (h.ev rfl)) rfl) rfl ?_;intro f h
 refine ah ?_
 refine hK6 _ _ ?_
 refine wpIn_cond_false (h.ev rfl) ?_
 refine wpIn_skip ?_
 refine hK5 _ _ ?_
 refine al fun K7 hK7=>?_
 refine ae ?_
 refine ac h (ak (h.ev rfl)) rfl ?_;intro f h
 refine ah ?_
 refine hK7 _ _ ?_
 refine al fun K8 hK8=>?_
 refine al fun K9 hK9=>?_
 cases r0:(hQ M:Bool)
 ·skip
  refine ae ?_
  refine au 5 h s bk rfl rfl (rfl) rfl ?_;intro f h
  refine aI h s zI (aM (.bool false) (mC M vm _ (⟨bX.of_own (s.getSl 4 rfl),fun y hy=>(hMr y hy).keep s.ext⟩:eN _ vm M) hM40 hMb) (congrArg Value.bool r0)) rfl rfl ?_;intro f w1 v9 hT hE h s;obtain rfl:=hT
  refine ac h (aw (.bool true) (bB (h.ev rfl)) rfl) rfl ?_;intro f h
  refine ah ?_
  refine hK9 _ _ ?_
  refine wpIn_cond_true (h.ev rfl) ?_
  refine ae ?_
  refine ac h (ak (h.ev rfl)) rfl ?_;intro f h
  refine ah ?_
  refine hK8 _ _ ?_
  refine al fun K10 hK10=>?_
  refine al fun K11 hK11=>?_
  refine ae ?_
  refine ac h (ag (h.ev rfl)) rfl ?_;intro f h
  refine ac h (aw (.bool true) (cy (h.ev rfl) (h.ev rfl)) (rfl)) rfl ?_;intro f h
  refine ah ?_
  refine hK11 _ _ ?_
  refine wpIn_cond_true (h.ev rfl) ?_
  refine al fun K12 hK12=>?_
  refine ae ?_
  refine au 2 h s bk rfl rfl (rfl) rfl ?_;intro f h
  refine ac h (co g5) rfl ?_;intro f h
  refine ac h (ag (h.ev rfl)) rfl ?_;intro f h
  refine ac h (ag (h.ev rfl)) rfl ?_;intro f h
  refine aI h s mT (aM (.bool true) (fB La [] va bp (cE M no) 1 _ ((s.getG 3 rfl) (⟨bX.of_own (s.getSl 4 rfl),fun y hy=>(hMr y hy).keep s.ext⟩:eN _ vm M)) hlva (eH _) (by decide) hbva kf) (congrArg Value.bool (xA (fY r0) (by decide) (hnva.trans (rM (fY r0) (by decide)))))) rfl rfl ?_;intro f w1 v9 hT hE h s;obtain rfl:=hT
  refine ac h (ag (h.ev rfl)) rfl ?_;intro f h
  refine aA h rfl rfl rfl ?_
  refine au 0 h s bk rfl rfl (rfl) rfl ?_;intro f h
  refine aA h rfl rfl rfl ?_
  refine ac h (co g5) rfl ?_;intro f h
  refine aA h rfl rfl rfl ?_
  refine ac h (ag (h.ev rfl)) rfl ?_;intro f h
  refine aA h rfl rfl rfl ?_
  refine ac h (ag (h.ev rfl)) rfl ?_;intro f h
  refine aA h rfl rfl rfl ?_
  refine aI h s mT (aM (.bool true) (fB Lb [] vb bp (cE M no) 1 _ ((s.getG 1 rfl) (⟨bX.of_own (s.getSl 4 rfl),fun y hy=>(hMr y hy).keep s.ext⟩:eN _ vm M)) hlvb (eH _) (by decide) hbvb kf) (congrArg Value.bool (xA (fY r0) (by decide) (hnvb.trans (pj (fY r0) (by decide)))))) rfl rfl ?_;intro f w1 v9 hT hE h s;obtain rfl:=hT
  refine ac h (aD (h.ev rfl) (h.ev rfl)) rfl ?_;intro f h
  refine ac h (ak (h.ev rfl)) rfl ?_;intro f h
  refine ah ?_
  refine hK12 _ _ ?_
  refine wpIn_ret ?_
  refine aY ?_
  exact bo rfl h s rfl (rfl)
 ·skip
  refine ae ?_
  refine au 5 h s bk rfl rfl (rfl) rfl ?_;intro f h
  refine aI h s zI (aM (.bool true) (mC M vm _ (⟨bX.of_own (s.getSl 4 rfl),fun y hy=>(hMr y hy).keep s.ext⟩:eN _ vm M) hM40 hMb) (congrArg Value.bool r0)) rfl rfl ?_;intro f w1 v9 hT hE h s;obtain rfl:=hT
  refine ac h (aw (.bool false) (bB (h.ev rfl)) rfl) rfl ?_;intro f h
  refine ah ?_
  refine hK9 _ _ ?_
  refine wpIn_cond_false (h.ev rfl) ?_
  refine al fun K13 hK13=>?_
  cases l0:(cx (aR M) no:Bool)
  ·skip
   refine ae ?_
   have hrs:=(eJ r0).rs
   refine au 5 h s bk rfl rfl (rfl) rfl ?_;intro f h
   refine ac h (ag (h.ev rfl)) rfl ?_;intro f h
   refine aI h s fi (aM (.bool false) (c3 M vm no _ (⟨bX.of_own (s.getSl 4 rfl),fun y hy=>(hMr y hy).keep s.ext⟩:eN _ vm M) hM40) (congrArg Value.bool l0)) rfl rfl ?_;intro f w1 v9 hT hE h s;obtain rfl:=hT
   refine ac h (aw (.bool true) (bB (h.ev rfl)) rfl) rfl ?_;intro f h
   refine ah ?_
   refine hK13 _ _ ?_
   refine wpIn_cond_true (h.ev rfl) ?_
   refine ae ?_
   refine ac h (ak (h.ev rfl)) rfl ?_;intro f h
   refine ah ?_
   refine hK8 _ _ ?_
   refine al fun K14 hK14=>?_
   refine al fun K15 hK15=>?_
   refine ae ?_
   refine ac h (ag (h.ev rfl)) rfl ?_;intro f h
   refine ac h (aw (.bool true) (cy (h.ev rfl) (h.ev rfl)) (rfl)) rfl ?_;intro f h
   refine ah ?_
   refine hK15 _ _ ?_
   refine wpIn_cond_true (h.ev rfl) ?_
   refine al fun K16 hK16=>?_
   refine ae ?_
   refine au 2 h s bk rfl rfl (rfl) rfl ?_;intro f h
   refine ac h (co g5) rfl ?_;intro f h
   refine ac h (ag (h.ev rfl)) rfl ?_;intro f h
   refine ac h (ag (h.ev rfl)) rfl ?_;intro f h
   refine aI h s mT (aM (.bool true) (fB La [] va bp (cE M no) 10 _ ((s.getG 3 rfl) (⟨bX.of_own (s.getSl 4 rfl),fun y hy=>(hMr y hy).keep s.ext⟩:eN _ vm M)) hlva (eH _) (by decide) hbva kf) (congrArg Value.bool (xA (eZ r0 l0) (by decide) (hnva.trans (rM (eZ r0 l0) (by decide)))))) rfl rfl ?_;intro f w1 v9 hT hE h s;obtain rfl:=hT
   refine ac h (ag (h.ev rfl)) rfl ?_;intro f h
   refine aA h rfl rfl rfl ?_
   refine au 0 h s bk rfl rfl (rfl) rfl ?_;intro f h
   refine aA h rfl rfl rfl ?_
   refine ac h (co g5) rfl ?_;intro f h
   refine aA h rfl rfl rfl ?_
   refine ac h (ag (h.ev rfl)) rfl ?_;intro f h
   refine aA h rfl rfl rfl ?_
   refine ac h (ag (h.ev rfl)) rfl ?_;intro f h
   refine aA h rfl rfl rfl ?_
   refine aI h s mT (aM (.bool true) (fB Lb [] vb bp (cE M no) 10 _ ((s.getG 1 rfl) (⟨bX.of_own (s.getSl 4 rfl),fun y hy=>(hMr y hy).keep s.ext⟩:eN _ vm M)) hlvb (eH _) (by decide) hbvb kf) (congrArg Value.bool (xA (eZ r0 l0) (by decide) (hnvb.trans (pj (eZ r0 l0) (by decide)))))) rfl rfl ?_;intro f w1 v9 hT hE h s;obtain rfl:=hT
   refine ac h (aD (h.ev rfl) (h.ev rfl)) rfl ?_;intro f h
   refine ac h (ak (h.ev rfl)) rfl ?_;intro f h
   refine ah ?_
   refine hK16 _ _ ?_
   refine wpIn_ret ?_
   refine aY ?_
   exact bo rfl h s rfl (rfl)
  ·skip
   refine ae ?_
   have hrs:=(eJ r0).rs
   refine au 5 h s bk rfl rfl (rfl) rfl ?_;intro f h
   refine ac h (ag (h.ev rfl)) rfl ?_;intro f h
   refine aI h s fi (aM (.bool true) (c3 M vm no _ (⟨bX.of_own (s.getSl 4 rfl),fun y hy=>(hMr y hy).keep s.ext⟩:eN _ vm M) hM40) (congrArg Value.bool l0)) rfl rfl ?_;intro f w1 v9 hT hE h s;obtain rfl:=hT
   refine ac h (aw (.bool false) (bB (h.ev rfl)) rfl) rfl ?_;intro f h
   refine ah ?_
   refine hK13 _ _ ?_
   refine wpIn_cond_false (h.ev rfl) ?_
   refine wpIn_skip ?_
   refine hK8 _ _ ?_
   refine al fun K17 hK17=>?_
   refine al fun K18 hK18=>?_
   refine ae ?_
   refine ac h (ag (h.ev rfl)) rfl ?_;intro f h
   refine ac h (aw (.bool false) (cy (h.ev rfl) (h.ev rfl)) (rfl)) rfl ?_;intro f h
   refine ah ?_
   refine hK18 _ _ ?_
   refine wpIn_cond_false (h.ev rfl) ?_
   refine wpIn_skip ?_
   refine hK17 _ _ ?_
   refine al fun K19 hK19=>?_
   have hbs:=s.ext.le
   refine' im 13 [2,4] [] [[],[],[],[1,2],[],[0,1,2,3,4],[0,1,2,3,4,5],[0,1,2,3,4,5,6],[0,1,2,3,4,5,6],[0,1,2,3,4,5,6],[0,1,2,3,4,5,6,8,9],[0,1,2,3,4,5,6],[0,1,2,3,4,5,6,7,8,9,10,11],[0,1,2,3,4,5,6,7,8,9,10,11,12],[0,1,2,3,4,5,6,7,8,9,10,11,12,13]] (is _::is _::is _::(rK (gp (nds M) no))::is _::is _::is _::is _::is _::is _::(rK (fp (nds M) no))::is _::is _::is undef::is undef::[]) (fun _=>True) h s (by kernel_rfl) (by kernel_rfl) (by kernel_rfl) (by kernel_rfl) rfl (fun _ _ h _=>h) (trivial) ⟨⟨_,rfl⟩,⟨_,rfl⟩,trivial⟩ ⟨aN _,aN _,aN _,rK.mono _,aN _,aN _,aN _,aN _,aN _,aN _,rK.mono _,aN _,aN _,aN _,aN _,trivial⟩ (And.intro ?_ (And.intro ?_ (And.intro ?_ (And.intro ?_ (And.intro ?_ (And.intro ?_ (And.intro ?_ (And.intro ?_ (And.intro ?_ (And.intro ?_ (And.intro ?_ (And.intro ?_ (And.intro ?_ (And.intro ?_ (And.intro ?_ (trivial)))))))))))))))) ?_
   rotate_left 11
   ·refine bN 47 rfl (by decide) (by decide) ?_
    intro f9 w2 hE hs hd9 hl
    have e5:f9.tmps.getD 5 undef=_:=cL hl 5 (by kernel_rfl) (by kernel_rfl) (h.holds 5 _ rfl)
    have h:=aE [(5,_)] hs hd9 (holds_lk ⟨e5,trivial⟩)
    have s:=s.more hE
    have z:=St.start w2
    refine au 2 h s bk rfl rfl (rfl) rfl ?_;intro f h
    refine ah ?_
    have e9:=h.holds 47 _ rfl
    refine ⟨?_,Ext.refl _,fun h9=>absurd h9 (by decide)⟩
    refine e9.trans ?_
    exact rfl
   ·refine bN 48 rfl (by decide) (by decide) ?_
    intro f9 w2 hE hs hd9 hl
    have e2:f9.tmps.getD 2 undef=_:=cL hl 2 (by kernel_rfl) (by kernel_rfl) (h.holds 2 _ rfl)
    have h:=aE [(2,_)] hs hd9 (holds_lk ⟨e2,trivial⟩)
    have s:=s.more hE
    have z:=St.start w2
    refine au 5 h s bk rfl rfl (rfl) rfl ?_;intro f h
    refine ah ?_
    have e9:=h.holds 48 _ rfl
    refine ⟨?_,Ext.refl _,fun h9=>absurd h9 (by decide)⟩
    refine e9.trans ?_
    exact rfl
   ·refine dQ 49 rfl (by decide) ?_
    intro f9 w2 hE hs hl
    have e1:f9.tmps.getD 1 undef=_:=cL hl 1 (by kernel_rfl) (by kernel_rfl) (h.holds 1 _ rfl)
    have h:=aE [(1,_)] hs rfl (holds_lk ⟨e1,trivial⟩)
    refine ac h (ag (h.ev rfl)) rfl ?_;intro f h
    refine ah ?_
    have e9:=h.holds 49 _ rfl
    refine ⟨?_,rfl⟩
    refine e9.trans ?_
    exact rfl
   ·refine bN 50 rfl (by decide) (by decide) ?_
    intro f9 w2 hE hs hd9 hl
    have e48:f9.tmps.getD 48 undef=_:=bh hl 48 1 (by kernel_rfl) (by kernel_rfl)
    have e49:f9.tmps.getD 49 undef=_:=bh hl 49 2 (by kernel_rfl) (by kernel_rfl)
    have h:=aE [(48,_),(49,_)] hs hd9 (holds_lk ⟨e48,e49,trivial⟩)
    have s:=s.more hE
    have z:=St.start w2
    refine aI h s zh (r3 M vm no _ (⟨bX.of_own (s.getSl 4 rfl),fun y hy=>(hMr y hy).keep s.ext⟩:eN _ vm M) hM40) rfl rfl ?_;intro f w3 v3 hT9 hE3 h s
    refine ah ?_
    exact ⟨by rw [h.holds 50 _ rfl];exact hT9.d (oC M no) (fun y hy=>(hMr y (List.mem_filter.1 hy).1).keep s.ext),hE3,fun h9=>absurd h9 (by decide)⟩
   ·refine dQ 51 rfl (by decide) ?_
    intro f9 w2 hE hs hl
    have e6:f9.tmps.getD 6 undef=_:=cL hl 6 (by kernel_rfl) (by kernel_rfl) (h.holds 6 _ rfl)
    have h:=aE [(6,_)] hs rfl (holds_lk ⟨e6,trivial⟩)
    refine ac h (ag (h.ev rfl)) rfl ?_;intro f h
    refine ah ?_
    have e9:=h.holds 51 _ rfl
    refine ⟨?_,rfl⟩
    refine e9.trans ?_
    exact rfl
   ·refine bN 52 rfl (by decide) (by decide) ?_
    intro f9 w2 hE hs hd9 hl
    have e47:f9.tmps.getD 47 undef=_:=bh hl 47 0 (by kernel_rfl) (by kernel_rfl)
    obtain ⟨u50,hu50⟩:∃ v,f9.tmps.getD 50 undef=v:=⟨_,rfl⟩
    have e50:(rK (gp (nds M) no)) u50 w2:=by rw [← hu50];exact bh hl 50 3 (by kernel_rfl) (by kernel_rfl)
    have e51:f9.tmps.getD 51 undef=_:=bh hl 51 4 (by kernel_rfl) (by kernel_rfl)
    have h:=aE [(47,_),(50,u50),(51,_)] hs hd9 (holds_lk ⟨e47,hu50,e51,trivial⟩)
    have s:=s.more hE
    have z:=St.start w2
    obtain ⟨vq,Lq,rfl,hnq,hRq⟩:=e50
    have hlq:=(nG (rr hrs rfl) no).l hnq
    have hbq:=(nG (rr hrs rfl) no).r hnq
    refine aI h s mT (aM (.bool true) (fB La Lq va vq (cE M no) 0 _ ((s.getG 3 rfl) (⟨bX.of_own (s.getSl 4 rfl),fun y hy=>(hMr y hy).keep s.ext⟩:eN _ vm M)) hlva hRq hlq hbva hbq) (congrArg Value.bool (C6 (gQ r0 l0) (hnva.trans ((wT (gQ r0 l0)).trans hnq.symm))))) rfl rfl ?_;intro f w3 v3 hT9 hE3 h s
    refine ah ?_
    exact ⟨by rw [h.holds 52 _ rfl];exact hT9,hE3,fun h9=>absurd h9 (by decide)⟩
   ·refine bN 53 rfl (by decide) (by decide) ?_
    intro f9 w2 hE hs hd9 hl
    have e52:f9.tmps.getD 52 undef=_:=bh hl 52 5 (by kernel_rfl) (by kernel_rfl)
    have h:=aE [(52,_)] hs hd9 (holds_lk ⟨e52,trivial⟩)
    have s:=s.more hE
    have z:=St.start w2
    refine ac h (ag (h.ev rfl)) rfl ?_;intro f h
    refine ah ?_
    have e9:=h.holds 53 _ rfl
    refine ⟨?_,Ext.refl _,fun h9=>absurd h9 (by decide)⟩
    refine e9.trans ?_
    exact rfl
   ·refine bN 54 rfl (by decide) (by decide) ?_
    intro f9 w2 hE hs hd9 hl
    have e7:f9.tmps.getD 7 undef=_:=cL hl 7 (by kernel_rfl) (by kernel_rfl) (h.holds 7 _ rfl)
    have e53:f9.tmps.getD 53 undef=_:=bh hl 53 6 (by kernel_rfl) (by kernel_rfl)
    have h:=aE [(7,_),(53,_)] hs hd9 (holds_lk ⟨e7,e53,trivial⟩)
    have s:=s.more hE
    have z:=St.start w2
    refine aA h rfl rfl rfl ?_
    refine au 0 h s bk rfl rfl (rfl) rfl ?_;intro f h
    refine ah ?_
    have e9:=h.holds 54 _ rfl
    refine ⟨?_,Ext.refl _,fun h9=>absurd h9 (by decide)⟩
    refine e9.trans ?_
    exact rfl
   ·refine bN 55 rfl (by decide) (by decide) ?_
    intro f9 w2 hE hs hd9 hl
    have e2:f9.tmps.getD 2 undef=_:=cL hl 2 (by kernel_rfl) (by kernel_rfl) (h.holds 2 _ rfl)
    have e53:f9.tmps.getD 53 undef=_:=bh hl 53 6 (by kernel_rfl) (by kernel_rfl)
    have h:=aE [(2,_),(53,_)] hs hd9 (holds_lk ⟨e2,e53,trivial⟩)
    have s:=s.more hE
    have z:=St.start w2
    refine aA h rfl rfl rfl ?_
    refine au 5 h s bk rfl rfl (rfl) rfl ?_;intro f h
    refine ah ?_
    have e9:=h.holds 55 _ rfl
    refine ⟨?_,Ext.refl _,fun h9=>absurd h9 (by decide)⟩
    refine e9.trans ?_
    exact rfl
   ·refine bN 56 rfl (by decide) (by decide) ?_
    intro f9 w2 hE hs hd9 hl
    have e1:f9.tmps.getD 1 undef=_:=cL hl 1 (by kernel_rfl) (by kernel_rfl) (h.holds 1 _ rfl)
    have e53:f9.tmps.getD 53 undef=_:=bh hl 53 6 (by kernel_rfl) (by kernel_rfl)
    have h:=aE [(1,_),(53,_)] hs hd9 (holds_lk ⟨e1,e53,trivial⟩)
    have s:=s.more hE
    have z:=St.start w2
    refine aA h rfl rfl rfl ?_
    refine ac h (ag (h.ev rfl)) rfl ?_;intro f h
    refine ah ?_
    have e9:=h.holds 56 _ rfl
    refine ⟨?_,Ext.refl _,fun h9=>absurd h9 (by decide)⟩
    refine e9.trans ?_
    exact rfl
   ·refine bN 57 rfl (by decide) (by decide) ?_
    intro f9 w2 hE hs hd9 hl
    have e55:f9.tmps.getD 55 undef=_:=bh hl 55 8 (by kernel_rfl) (by kernel_rfl)
    have e56:f9.tmps.getD 56 undef=_:=bh hl 56 9 (by kernel_rfl) (by kernel_rfl)
    have e53:f9.tmps.getD 53 undef=_:=bh hl 53 6 (by kernel_rfl) (by kernel_rfl)
    have h:=aE [(55,_),(56,_),(53,_)] hs hd9 (holds_lk ⟨e55,e56,e53,trivial⟩)
    have s:=s.more hE
    have z:=St.start w2
    refine aA h rfl rfl rfl ?_
    refine aI h s CL (sI M vm no _ (⟨bX.of_own (s.getSl 4 rfl),fun y hy=>(hMr y hy).keep s.ext⟩:eN _ vm M) hM40 hrs l0) rfl rfl ?_;intro f w3 v3 hT9 hE3 h s
    refine ah ?_
    exact ⟨by rw [h.holds 57 _ rfl];exact hT9.d trivial,hE3,fun h9=>absurd h9 (by decide)⟩
   ·refine bN 58 rfl (by decide) (by decide) ?_
    intro f9 w2 hE hs hd9 hl
    have e8:f9.tmps.getD 8 undef=_:=cL hl 8 (by kernel_rfl) (by kernel_rfl) (h.holds 8 _ rfl)
    have e53:f9.tmps.getD 53 undef=_:=bh hl 53 6 (by kernel_rfl) (by kernel_rfl)
    have h:=aE [(8,_),(53,_)] hs hd9 (holds_lk ⟨e8,e53,trivial⟩)
    have s:=s.more hE
    have z:=St.start w2
    refine aA h rfl rfl rfl ?_
    refine ac h (ag (h.ev rfl)) rfl ?_;intro f h
    refine ah ?_
    have e9:=h.holds 58 _ rfl
    refine ⟨?_,Ext.refl _,fun h9=>absurd h9 (by decide)⟩
    refine e9.trans ?_
    exact rfl
   ·refine bN 59 rfl (by decide) (by decide) ?_
    intro f9 w2 hE hs hd9 hl
    have e54:f9.tmps.getD 54 undef=_:=bh hl 54 7 (by kernel_rfl) (by kernel_rfl)
    obtain ⟨u57,hu57⟩:∃ v,f9.tmps.getD 57 undef=v:=⟨_,rfl⟩
    have e57:(rK (fp (nds M) no)) u57 w2:=by rw [← hu57];exact bh hl 57 10 (by kernel_rfl) (by kernel_rfl)
    have e58:f9.tmps.getD 58 undef=_:=bh hl 58 11 (by kernel_rfl) (by kernel_rfl)
    have e53:f9.tmps.getD 53 undef=_:=bh hl 53 6 (by kernel_rfl) (by kernel_rfl)
    have h:=aE [(54,_),(57,u57),(58,_),(53,_)] hs hd9 (holds_lk ⟨e54,hu57,e58,e53,trivial⟩)
    have s:=s.more hE
    have z:=St.start w2
    obtain ⟨vq,Lq,rfl,hnq,hRq⟩:=e57
    have hlq:=((oM (gQ r0 l0))▸su M no).l hnq
    have hbq:=((oM (gQ r0 l0))▸su M no).r hnq
    refine aA h rfl rfl rfl ?_
    refine aI h s mT (aM (.bool true) (fB Lb Lq vb vq (cE M no) 0 _ ((s.getG 1 rfl) (⟨bX.of_own (s.getSl 4 rfl),fun y hy=>(hMr y hy).keep s.ext⟩:eN _ vm M)) hlvb hRq hlq hbvb hbq) (congrArg Value.bool (C6 (gQ r0 l0) (hnvb.trans ((oM (gQ r0 l0)).trans hnq.symm))))) rfl rfl ?_;intro f w3 v3 hT9 hE3 h s
    refine ah ?_
    exact ⟨by rw [h.holds 59 _ rfl];exact hT9,hE3,fun h9=>absurd h9 (by decide)⟩
   ·exact cG (by decide) (by decide)
   ·exact cG (by decide) (by decide)
   ·intro f9 w2 hE hs hd9 hWp hT hR hFr hDj
    obtain ⟨u50,hu50⟩:∃ v,f9.tmps.getD 50 undef=v:=⟨_,rfl⟩
    have e50:(rK (gp (nds M) no)) u50 w2:=by rw [← hu50];exact hT 3 50 (by decide) rfl
    obtain ⟨u57,hu57⟩:∃ v,f9.tmps.getD 57 undef=v:=⟨_,rfl⟩
    have e57:(rK (fp (nds M) no)) u57 w2:=by rw [← hu57];exact hT 10 57 (by decide) rfl
    replace h:=sl_new (ops:=_) [(47,_),(48,_),(49,_),(50,u50),(51,_),(52,_),(53,_),(54,_),(55,_),(56,_),(57,u57),(58,_),(59,_)] h hs hd9 hR ⟨hT 0 47 (by decide) rfl,hT 1 48 (by decide) rfl,hT 2 49 (by decide) rfl,hu50,hT 4 51 (by decide) rfl,hT 5 52 (by decide) rfl,hT 6 53 (by decide) rfl,hT 7 54 (by decide) rfl,hT 8 55 (by decide) rfl,hT 9 56 (by decide) rfl,hu57,hT 11 58 (by decide) rfl,hT 12 59 (by decide) rfl,trivial⟩ (by kernel_rfl)
    replace s:=s.more hE
    clear hT hR hFr hDj
    refine fG.of ?_
    refine ac h (aD (h.ev rfl) (h.ev rfl)) rfl ?_;intro f h
    refine ac h (ak (h.ev rfl)) rfl ?_;intro f h
    refine ah ?_
    refine hK19 _ _ ?_
    refine wpIn_ret ?_
    exact bo rfl h s rfl (rfl)
end Go.Proofs.YthggibfkgofncaaGreat
