/- What ChordComes answers: for all arguments. -/
import Derived.Test.YthggibfkgofncaaGreatVg
import Derived.Test.YthggibfkgofncaaGreatVi
import Derived.Test.YthggibfkgofncaaGreatVk
import Derived.Test.YthggibfkgofncaaGreatWj
set_option linter.unusedVariables false
set_option linter.unusedSimpArgs false
set_option linter.unusedSectionVars false
namespace Go.Proofs.YthggibfkgofncaaGreat
open Go.RowKit
set_option maxHeartbeats 4000000 in
theorem qG (L:List N3) (vo:Value) (m:Mb) (sc9 no to:Int) (w:World) (hO:cf w vo L):Calls Tryz.prog 3 [.agg #[vo],.agg (au m),.int .i64 sc9,.int .i64 no,.int .i64 to].toArray w (cT w (is (.bool true))):=by
 refine bj Tryz.func3 rfl Tryz.ntmps3 rfl [(0,.agg #[vo]),(1,.agg (au m)),(2,.int .i64 sc9),(3,.int .i64 no),(4,.int .i64 to)] (by simp) fun f h=>?_
 have s:=St.start w
 refine aj fun K1 hK1=>?_
 refine ae ?_
 refine bT (#[vo]) h s rfl rfl rfl ?_;intro f w1 b5 h s
 refine bT ((au m)) h s rfl rfl rfl ?_;intro f w1 b6 h s
 refine ac h (ai (h.ev rfl)) rfl ?_;intro f h
 refine ah ?_
 refine hK1 _ _ ?_
 refine aj fun K2 hK2=>?_
 refine ae ?_
 refine ao 1 h s aU rfl rfl (rfl) rfl ?_;intro f h
 refine aF h s Br (uE L vo _ (hO.keep s.ext)) rfl rfl ?_;rintro f w1 v21 ⟨vm,rfl,hOw⟩ hE h sq;replace s:=s.sl_new hE hOw;clear hOw
 obtain ⟨M,hM⟩:∃ x9,x9=(L.take (min L.length 18)).map gX:=⟨_,rfl⟩
 rw [← hM] at s
 have hMf:FewO M:=by rw [hM];exact wR L
 have hM18:=hMf.len
 have hM40:M.length≤40:=by omega
 have hMb:=hMf.rb
 have hMr:∀ y∈M,j4 w y:=by rw [hM];exact sX (fun y hy=>hO.2 y (List.mem_of_mem_take hy))
 refine ay 2 h s aU rfl rfl rfl (rfl) (rfl) (cj (bP (s.getSl 0 rfl))) ?_;intro w1 s
 refine ah ?_
 refine hK2 _ _ ?_
 refine aj fun K3 hK3=>?_
 refine ae ?_
 refine ao 2 h s aU rfl rfl (rfl) rfl ?_;intro f h
 refine ao 1 h s aL rfl rfl (ak _) rfl ?_;intro f h
 refine ac h (ag (h.ev rfl)) rfl ?_;intro f h
 refine aF h s AF (mQ M vm m sc9 _ (⟨bK.of_own (s.getSl 0 rfl),fun y hy=>(hMr y hy).keep s.ext⟩:cf _ vm M) hM40 hMb) rfl rfl ?_;rintro f w1 v26 ⟨o9,rfl,va,La,ka,rfl,hnva,hG⟩ hE h sq;replace s:=s.add hG;clear hG
 have hlva:=(pf M m sc9).l hnva
 have hbva:=(pf M m sc9).r hnva
 refine ac h (ag (h.ev rfl)) rfl ?_;intro f h
 refine ac h (bB (h.ev rfl) rfl) rfl ?_;intro f h
 refine ac h (bB (h.ev rfl) rfl) rfl ?_;intro f h
 refine ba (#[bo]) h s dY rfl rfl ?_;intro f w1 b11 h s
 refine ay 0 h s aU rfl rfl rfl (rfl) (rfl) (cj (cx (((s.getG 1 rfl) (⟨bK.of_own (s.getSl 2 rfl),fun y hy=>(hMr y hy).keep s.ext⟩:cf _ vm M)).1))) ?_;intro w1 s
 refine ac h (ai (h.ev rfl)) rfl ?_;intro f h
 refine ah ?_
 refine hK3 _ _ ?_
 refine aj fun K4 hK4=>?_
 refine ae ?_
 refine ao 4 h s aU rfl rfl (rfl) rfl ?_;intro f h
 refine ac h (ag (h.ev rfl)) rfl ?_;intro f h
 refine ac h (ag (h.ev rfl)) rfl ?_;intro f h
 refine aF h s BL (qq M vm no to _ (⟨bK.of_own (s.getSl 2 rfl),fun y hy=>(hMr y hy).keep s.ext⟩:cf _ vm M) hM40 hMb) rfl rfl ?_;rintro f w1 v33 ⟨o9,rfl,vb,Lb,kb,rfl,hnvb,hG⟩ hE h sq;replace s:=s.add hG;clear hG
 have hlvb:=(kN M no to).l hnvb
 have hbvb:=(kN M no to).r hnvb
 refine ac h (ag (h.ev rfl)) rfl ?_;intro f h
 refine ac h (bB (h.ev rfl) rfl) rfl ?_;intro f h
 refine ac h (bB (h.ev rfl) rfl) rfl ?_;intro f h
 refine ba (#[bo]) h s dY rfl rfl ?_;intro f w1 b13 h s
 refine ay 0 h s aU rfl rfl rfl (rfl) (rfl) (cj (cx (((s.getG 1 rfl) (⟨bK.of_own (s.getSl 4 rfl),fun y hy=>(hMr y hy).keep s.ext⟩:cf _ vm M)).1))) ?_;intro w1 s
 refine ac h (ai (h.ev rfl)) rfl ?_;intro f h
 refine ah ?_
 refine hK4 _ _ ?_
 refine aj fun K5 hK5=>?_
 cases r0:(fQ M:Bool)
 ·skip
  refine ae ?_
  refine ao 6 h s aU rfl rfl (rfl) rfl ?_;intro f h
  refine aF h s ra (aO (.bool false) (gI M vm _ (⟨bK.of_own (s.getSl 4 rfl),fun y hy=>(hMr y hy).keep s.ext⟩:cf _ vm M) hM40 hMb) (congrArg Value.bool r0)) rfl rfl ?_;intro f w1 v9 hT hE h s;obtain rfl:=hT
  refine ac h (ai (h.ev rfl)) rfl ?_;intro f h
  refine ah ?_
  refine hK5 _ _ ?_
  refine aj fun K6 hK6=>?_
  refine aj fun K7 hK7=>?_
  have hbs:=s.ext.le
  refine' eL 16 [2] [] [[],[0],[],[0,1,2],[0,1,2,3],[0,1,2,3,4],[0,1,2,3,4,5],[0,1,2,3,4],[0,1,2,3,4,5,6,7],[0,1,2,3,4,5,6,7,8],[0,1,2,3,4,5,6,7,8,9],[0,1,2,3,4,5,6,7,8,9,10],[0,1,2,3,4,5,6,7,8,9,10,11],[0,1,2,3,4,5,6,7,8,9,10,11,12],[0,1,2,3,4,5,6,7,8,9,10,11],[0,1,2,3,4,5,6,7,8,9,10,11,12,13,14],[0,1,2,3,4,5,6,7,8,9,10,11,12,13,14,15],[0,1,2,3,4,5,6,7,8,9,10,11,12,13,14,15,16],[0,1,2,3,4,5,6,7,8,9,10,11,12,13,14,15,16,17],[0,1,2,3,4,5,6,7,8,9,10,11,12,13,14,15,16,17,18],[0,1,2,3,4,5,6,7,8,9,10,11,12,13,14,15,16,17,18,19],[0,1,2,3,4,5,6,7,8,9,10,11,12,13,14,15,16,17,18,19,20],[0,1,2,3,4,5,6,7,8,9,10,11,12,13,14,15,16,17,18,19,20,21]] (is _::is _::is _::is _::is _::is _::is _::is _::is _::is _::is _::is _::is _::(fun v w9=>bK w9 v 33 (aN M).length (av (aN M)))::is _::(fun v w9=>bK w9 v 33 (aN M).length (av (aN M)))::is undef::is undef::is undef::is undef::is undef::is undef::is undef::[]) (fun _=>True) h s (by kernel_rfl) (by kernel_rfl) (by kernel_rfl) (by kernel_rfl) rfl (fun _ _ h _=>h) (trivial) ⟨⟨_,rfl⟩,trivial⟩ ⟨az _,az _,az _,az _,az _,az _,az _,az _,az _,az _,az _,az _,az _,bK.mono,az _,bK.mono,az _,az _,az _,az _,az _,az _,az _,trivial⟩ (And.intro ?_ (And.intro ?_ (And.intro ?_ (And.intro ?_ (And.intro ?_ (And.intro ?_ (And.intro ?_ (And.intro ?_ (And.intro ?_ (And.intro ?_ (And.intro ?_ (And.intro ?_ (And.intro ?_ (And.intro ?_ (And.intro ?_ (And.intro ?_ (And.intro ?_ (And.intro ?_ (And.intro ?_ (And.intro ?_ (And.intro ?_ (And.intro ?_ (And.intro ?_ (trivial)))))))))))))))))))))))) ?_
  rotate_left 14
  ·refine aT 38 rfl (by decide) (by decide) ?_
   intro f9 w2 hE hs hd9 hl
   have e5:f9.tmps.getD 5 undef=_:=bX hl 5 (by kernel_rfl) (by kernel_rfl) (h.holds 5 _ rfl)
   have h:=aq [(5,_)] hs hd9 (holds_lk ⟨e5,trivial⟩)
   have s:=s.more hE
   have z:=St.start w2
   refine ao 6 h s aU rfl rfl (rfl) rfl ?_;intro f h
   refine ah ?_
   have e9:=h.holds 38 _ rfl
   refine ⟨?_,Ext.refl _,fun h9=>absurd h9 (by decide)⟩
   refine e9.trans ?_
   exact rfl
  ·refine aT 39 rfl (by decide) (by decide) ?_
   intro f9 w2 hE hs hd9 hl
   have e38:f9.tmps.getD 38 undef=_:=aH hl 38 0 (by kernel_rfl) (by kernel_rfl)
   have h:=aq [(38,_)] hs hd9 (holds_lk ⟨e38,trivial⟩)
   have s:=s.more hE
   have z:=St.start w2
   refine aF h s jP (aO (.bool false) (dB M vm _ (⟨bK.of_own (s.getSl 4 rfl),fun y hy=>(hMr y hy).keep s.ext⟩:cf _ vm M) hM40 hMb) (congrArg Value.bool r0)) rfl rfl ?_;intro f w1 v9 hT hE h s;obtain rfl:=hT
   refine ah ?_
   have e9:=h.holds 39 _ rfl
   refine ⟨?_,hE,fun h9=>absurd h9 (by decide)⟩
   refine e9.trans ?_
   exact rfl
  ·refine cZ 40 rfl (by decide) ?_
   intro f9 w2 hE hs hl
   have e15:f9.tmps.getD 15 undef=_:=bX hl 15 (by kernel_rfl) (by kernel_rfl) (h.holds 15 _ rfl)
   have h:=aq [(15,_)] hs rfl (holds_lk ⟨e15,trivial⟩)
   refine ac h (ag (h.ev rfl)) rfl ?_;intro f h
   refine ah ?_
   have e9:=h.holds 40 _ rfl
   refine ⟨?_,rfl⟩
   refine e9.trans ?_
   exact rfl
  ·refine aT 41 rfl (by decide) (by decide) ?_
   intro f9 w2 hE hs hd9 hl
   have e39:f9.tmps.getD 39 undef=_:=aH hl 39 1 (by kernel_rfl) (by kernel_rfl)
   have e40:f9.tmps.getD 40 undef=_:=aH hl 40 2 (by kernel_rfl) (by kernel_rfl)
   have h:=aq [(39,_),(40,_)] hs hd9 (holds_lk ⟨e39,e40,trivial⟩)
   have s:=s.more hE
   have z:=St.start w2
   refine ac h (aw (.bool false) (fJ Tryz.underlying4 (h.ev rfl) (h.ev rfl)) (by rfl)) rfl ?_;intro f h
   refine ah ?_
   have e9:=h.holds 41 _ rfl
   refine ⟨?_,Ext.refl _,fun h9=>absurd h9 (by decide)⟩
   refine e9.trans ?_
   exact rfl
  ·refine aT 42 rfl (by decide) (by decide) ?_
   intro f9 w2 hE hs hd9 hl
   have e41:f9.tmps.getD 41 undef=_:=aH hl 41 3 (by kernel_rfl) (by kernel_rfl)
   have h:=aq [(41,_)] hs hd9 (holds_lk ⟨e41,trivial⟩)
   have s:=s.more hE
   have z:=St.start w2
   refine ac h (ag (h.ev rfl)) rfl ?_;intro f h
   refine ah ?_
   have e9:=h.holds 42 _ rfl
   refine ⟨?_,Ext.refl _,fun h9=>absurd h9 (by decide)⟩
   refine e9.trans ?_
   exact rfl
  ·refine aT 43 rfl (by decide) (by decide) ?_
   intro f9 w2 hE hs hd9 hl
   have e5:f9.tmps.getD 5 undef=_:=bX hl 5 (by kernel_rfl) (by kernel_rfl) (h.holds 5 _ rfl)
   have e42:f9.tmps.getD 42 undef=_:=aH hl 42 4 (by kernel_rfl) (by kernel_rfl)
   have h:=aq [(5,_),(42,_)] hs hd9 (holds_lk ⟨e5,e42,trivial⟩)
   have s:=s.more hE
   have z:=St.start w2
   refine aB h rfl rfl rfl ?_
   refine ao 6 h s aU rfl rfl (rfl) rfl ?_;intro f h
   refine ah ?_
   have e9:=h.holds 43 _ rfl
   refine ⟨?_,Ext.refl _,fun h9=>absurd h9 (by decide)⟩
   refine e9.trans ?_
   exact rfl
  ·refine aT 44 rfl (by decide) (by decide) ?_
   intro f9 w2 hE hs hd9 hl
   have e43:f9.tmps.getD 43 undef=_:=aH hl 43 5 (by kernel_rfl) (by kernel_rfl)
   have e42:f9.tmps.getD 42 undef=_:=aH hl 42 4 (by kernel_rfl) (by kernel_rfl)
   have h:=aq [(43,_),(42,_)] hs hd9 (holds_lk ⟨e43,e42,trivial⟩)
   have s:=s.more hE
   have z:=St.start w2
   refine aB h rfl rfl rfl ?_
   refine aF h s tw (g6 M vm _ (⟨bK.of_own (s.getSl 4 rfl),fun y hy=>(hMr y hy).keep s.ext⟩:cf _ vm M) hM40 hMb) rfl rfl ?_;intro f w1 v9 hT hE h s;obtain rfl:=hT
   refine ah ?_
   have e9:=h.holds 44 _ rfl
   refine ⟨?_,hE,fun h9=>absurd h9 (by decide)⟩
   refine e9.trans ?_
   exact rfl
  ·refine aT 45 rfl (by decide) (by decide) ?_
   intro f9 w2 hE hs hd9 hl
   have e5:f9.tmps.getD 5 undef=_:=bX hl 5 (by kernel_rfl) (by kernel_rfl) (h.holds 5 _ rfl)
   have e42:f9.tmps.getD 42 undef=_:=aH hl 42 4 (by kernel_rfl) (by kernel_rfl)
   have h:=aq [(5,_),(42,_)] hs hd9 (holds_lk ⟨e5,e42,trivial⟩)
   have s:=s.more hE
   have z:=St.start w2
   refine aB h rfl rfl rfl ?_
   refine ao 6 h s aU rfl rfl (rfl) rfl ?_;intro f h
   refine ah ?_
   have e9:=h.holds 45 _ rfl
   refine ⟨?_,Ext.refl _,fun h9=>absurd h9 (by decide)⟩
   refine e9.trans ?_
   exact rfl
  ·refine aT 46 rfl (by decide) (by decide) ?_
   intro f9 w2 hE hs hd9 hl
   have e45:f9.tmps.getD 45 undef=_:=aH hl 45 7 (by kernel_rfl) (by kernel_rfl)
   have e42:f9.tmps.getD 42 undef=_:=aH hl 42 4 (by kernel_rfl) (by kernel_rfl)
   have h:=aq [(45,_),(42,_)] hs hd9 (holds_lk ⟨e45,e42,trivial⟩)
   have s:=s.more hE
   have z:=St.start w2
   refine aB h rfl rfl rfl ?_
   refine aF h s x2 (lU M vm _ (⟨bK.of_own (s.getSl 4 rfl),fun y hy=>(hMr y hy).keep s.ext⟩:cf _ vm M) hM40 hMb) rfl rfl ?_;intro f w1 v9 hT hE h s;obtain rfl:=hT
   refine ah ?_
   have e9:=h.holds 46 _ rfl
   refine ⟨?_,hE,fun h9=>absurd h9 (by decide)⟩
   refine e9.trans ?_
   exact rfl
  ·refine aT 47 rfl (by decide) (by decide) ?_
   intro f9 w2 hE hs hd9 hl
   have e44:f9.tmps.getD 44 undef=_:=aH hl 44 6 (by kernel_rfl) (by kernel_rfl)
   have e46:f9.tmps.getD 46 undef=_:=aH hl 46 8 (by kernel_rfl) (by kernel_rfl)
   have e42:f9.tmps.getD 42 undef=_:=aH hl 42 4 (by kernel_rfl) (by kernel_rfl)
   have h:=aq [(44,_),(46,_),(42,_)] hs hd9 (holds_lk ⟨e44,e46,e42,trivial⟩)
   have s:=s.more hE
   have z:=St.start w2
   refine aB h rfl rfl rfl ?_
   refine ac h (aw (.bool false) (fJ Tryz.underlying4 (h.ev rfl) (h.ev rfl)) (by simp)) rfl ?_;intro f h
   refine ah ?_
   have e9:=h.holds 47 _ rfl
   refine ⟨?_,Ext.refl _,fun h9=>absurd h9 (by decide)⟩
   refine e9.trans ?_
   exact rfl
  ·refine aT 48 rfl (by decide) (by decide) ?_
   intro f9 w2 hE hs hd9 hl
   have e42:f9.tmps.getD 42 undef=_:=aH hl 42 4 (by kernel_rfl) (by kernel_rfl)
   have e47:f9.tmps.getD 47 undef=_:=aH hl 47 9 (by kernel_rfl) (by kernel_rfl)
   have h:=aq [(42,_),(47,_)] hs hd9 (holds_lk ⟨e42,e47,trivial⟩)
   have s:=s.more hE
   have z:=St.start w2
   refine ac h (aE (h.ev rfl) (h.ev rfl)) rfl ?_;intro f h
   refine ah ?_
   have e9:=h.holds 48 _ rfl
   refine ⟨?_,Ext.refl _,fun h9=>absurd h9 (by decide)⟩
   refine e9.trans ?_
   exact rfl
  ·refine aT 49 rfl (by decide) (by decide) ?_
   intro f9 w2 hE hs hd9 hl
   have e48:f9.tmps.getD 48 undef=_:=aH hl 48 10 (by kernel_rfl) (by kernel_rfl)
   have h:=aq [(48,_)] hs hd9 (holds_lk ⟨e48,trivial⟩)
   have s:=s.more hE
   have z:=St.start w2
   refine ac h (ag (h.ev rfl)) rfl ?_;intro f h
   refine ah ?_
   have e9:=h.holds 49 _ rfl
   refine ⟨?_,Ext.refl _,fun h9=>absurd h9 (by decide)⟩
   refine e9.trans ?_
   exact rfl
  ·refine aT 50 rfl (by decide) (by decide) ?_
   intro f9 w2 hE hs hd9 hl
   have e5:f9.tmps.getD 5 undef=_:=bX hl 5 (by kernel_rfl) (by kernel_rfl) (h.holds 5 _ rfl)
   have e49:f9.tmps.getD 49 undef=_:=aH hl 49 11 (by kernel_rfl) (by kernel_rfl)
   have h:=aq [(5,_),(49,_)] hs hd9 (holds_lk ⟨e5,e49,trivial⟩)
   have s:=s.more hE
   have z:=St.start w2
   refine aB h rfl rfl rfl ?_
   refine ao 6 h s aU rfl rfl (rfl) rfl ?_;intro f h
   refine ah ?_
   have e9:=h.holds 50 _ rfl
   refine ⟨?_,Ext.refl _,fun h9=>absurd h9 (by decide)⟩
   refine e9.trans ?_
   exact rfl
  ·refine aT 51 rfl (by decide) (by decide) ?_
   intro f9 w2 hE hs hd9 hl
   have e50:f9.tmps.getD 50 undef=_:=aH hl 50 12 (by kernel_rfl) (by kernel_rfl)
   have e49:f9.tmps.getD 49 undef=_:=aH hl 49 11 (by kernel_rfl) (by kernel_rfl)
   have h:=aq [(50,_),(49,_)] hs hd9 (holds_lk ⟨e50,e49,trivial⟩)
   have s:=s.more hE
   have z:=St.start w2
   refine aB h rfl rfl rfl ?_
   refine aF h z rA (ff M vm _ (⟨bK.of_own (s.getSl 4 rfl),fun y hy=>(hMr y hy).keep s.ext⟩:cf _ vm M) hM40) rfl rfl ?_;intro f w1 v51 hT hE2 h sq;replace z:=z.sl_new hE2 hT
   refine ah ?_
   exact pz (h.holds 51 _ rfl) z _ rfl
  ·refine aT 52 rfl (by decide) (by decide) ?_
   intro f9 w2 hE hs hd9 hl
   have e5:f9.tmps.getD 5 undef=_:=bX hl 5 (by kernel_rfl) (by kernel_rfl) (h.holds 5 _ rfl)
   have e49:f9.tmps.getD 49 undef=_:=aH hl 49 11 (by kernel_rfl) (by kernel_rfl)
   have h:=aq [(5,_),(49,_)] hs hd9 (holds_lk ⟨e5,e49,trivial⟩)
   have s:=s.more hE
   have z:=St.start w2
   refine aB h rfl rfl rfl ?_
   refine ao 6 h s aU rfl rfl (rfl) rfl ?_;intro f h
   refine ah ?_
   have e9:=h.holds 52 _ rfl
   refine ⟨?_,Ext.refl _,fun h9=>absurd h9 (by decide)⟩
   refine e9.trans ?_
   exact rfl
  ·refine aT 53 rfl (by decide) (by decide) ?_
   intro f9 w2 hE hs hd9 hl
   have e52:f9.tmps.getD 52 undef=_:=aH hl 52 14 (by kernel_rfl) (by kernel_rfl)
   have e49:f9.tmps.getD 49 undef=_:=aH hl 49 11 (by kernel_rfl) (by kernel_rfl)
   have h:=aq [(52,_),(49,_)] hs hd9 (holds_lk ⟨e52,e49,trivial⟩)
   have s:=s.more hE
   have z:=St.start w2
   refine aB h rfl rfl rfl ?_
   refine aF h z mL (eo M vm _ (⟨bK.of_own (s.getSl 4 rfl),fun y hy=>(hMr y hy).keep s.ext⟩:cf _ vm M) hM40) rfl rfl ?_;intro f w1 v53 hT hE2 h sq;replace z:=z.sl_new hE2 hT
   refine ah ?_
   exact pz (h.holds 53 _ rfl) z _ rfl
  ·exact cr (by decide) (by decide)
  ·exact cr (by decide) (by decide)
  ·exact cr (by decide) (by decide)
  ·exact cr (by decide) (by decide)
  ·exact cr (by decide) (by decide)
  ·exact cr (by decide) (by decide)
  ·exact cr (by decide) (by decide)
  ·intro f9 w2 hE hs hd9 hWp hT hR hFr hDj
   obtain ⟨u51,hu51⟩:∃ v,f9.tmps.getD 51 undef=v:=⟨_,rfl⟩
   have e51:(fun v w9=>bK w9 v 33 (aN M).length (av (aN M))) u51 w2:=by rw [← hu51];exact hT 13 51 (by decide) rfl
   obtain ⟨u53,hu53⟩:∃ v,f9.tmps.getD 53 undef=v:=⟨_,rfl⟩
   have e53:(fun v w9=>bK w9 v 33 (aN M).length (av (aN M))) u53 w2:=by rw [← hu53];exact hT 15 53 (by decide) rfl
   replace h:=sl_new (ops:=_) [(38,_),(39,_),(40,_),(41,_),(42,_),(43,_),(44,_),(45,_),(46,_),(47,_),(48,_),(49,_),(50,_),(51,u51),(52,_),(53,u53)] h hs hd9 hR ⟨hT 0 38 (by decide) rfl,hT 1 39 (by decide) rfl,hT 2 40 (by decide) rfl,hT 3 41 (by decide) rfl,hT 4 42 (by decide) rfl,hT 5 43 (by decide) rfl,hT 6 44 (by decide) rfl,hT 7 45 (by decide) rfl,hT 8 46 (by decide) rfl,hT 9 47 (by decide) rfl,hT 10 48 (by decide) rfl,hT 11 49 (by decide) rfl,hT 12 50 (by decide) rfl,hu51,hT 14 52 (by decide) rfl,hu53,trivial⟩ (by kernel_rfl)
   replace s:=s.more hE
   clear hT hR hFr hDj
   refine eD.of ?_
   refine aB h rfl rfl rfl ?_
   refine aF h s ly (aO (.bool true) (fG (aN M) (aN M) u51 u53 _ e51 e53 (by rw [List.length_map];omega) (by rw [List.length_map];omega)) (congrArg Value.bool (decide_eq_true rfl))) rfl rfl ?_;intro f w1 v9 hT hE h s;obtain rfl:=hT
   refine aB h rfl rfl rfl ?_
   refine ac h (aw (.bool false) (bg (h.ev rfl)) rfl) rfl ?_;intro f h
   refine ac h (aE (h.ev rfl) (h.ev rfl)) rfl ?_;intro f h
   refine ac h (ag (h.ev rfl)) rfl ?_;intro f h
   refine aB h rfl rfl rfl ?_
   refine aF h s yE (aO (.bool true) (lE _) (rfl)) rfl rfl ?_;intro f w1 v9 hT hE h s;obtain rfl:=hT
   refine aB h rfl rfl rfl ?_
   refine ac h (aw (.bool false) (bg (h.ev rfl)) rfl) rfl ?_;intro f h
   refine ac h (aE (h.ev rfl) (h.ev rfl)) rfl ?_;intro f h
   refine ah ?_
   refine hK7 _ _ ?_
   refine wpIn_cond_false (h.ev rfl) ?_
   refine wpIn_skip ?_
   refine hK6 _ _ ?_
   refine aj fun K8 hK8=>?_
   refine aj fun K9 hK9=>?_
   refine ae ?_
   refine ac h (ag (h.ev rfl)) rfl ?_;intro f h
   refine ac h (aw (.bool true) (bg (h.ev rfl)) rfl) rfl ?_;intro f h
   refine ac h (ag (h.ev rfl)) rfl ?_;intro f h
   refine aC (b:=false) h rfl rfl rfl rfl ?_;intro f h
   refine aC (b:=false) h rfl rfl rfl rfl ?_;intro f h
   refine aC (b:=false) h rfl rfl rfl rfl ?_;intro f h
   refine ac h (aJ (h.ev rfl) (h.ev rfl)) rfl ?_;intro f h
   refine ac h (ag (h.ev rfl)) rfl ?_;intro f h
   refine aC (b:=false) h rfl rfl rfl rfl ?_;intro f h
   refine aC (b:=false) h rfl rfl rfl rfl ?_;intro f h
   refine aC (b:=false) h rfl rfl rfl rfl ?_;intro f h
   refine ac h (aJ (h.ev rfl) (h.ev rfl)) rfl ?_;intro f h
   refine ah ?_
   refine hK9 _ _ ?_
   refine wpIn_cond_true (h.ev rfl) ?_
   refine aj fun K10 hK10=>?_
   refine ae ?_
   refine ao 2 h s aU rfl rfl (rfl) rfl ?_;intro f h
   refine ac h (bM eE) rfl ?_;intro f h
   refine ac h (ag (h.ev rfl)) rfl ?_;intro f h
   refine aF h s eY (aO (.bool true) (cR La [] va bo (vL M m sc9) 1 _ ((s.getG 3 rfl) (⟨bK.of_own (s.getSl 4 rfl),fun y hy=>(hMr y hy).keep s.ext⟩:cf _ vm M)) hlva (c1 _) (by decide) hbva eg) (congrArg Value.bool (j8 (fY (rt r0)).1 (by decide) (hnva.trans (fY (rt r0)).2)))) rfl rfl ?_;intro f w1 v9 hT hE h s;obtain rfl:=hT
   refine ac h (aw (.bool false) (bg (h.ev rfl)) rfl) rfl ?_;intro f h
   refine ah ?_
   refine hK10 _ _ ?_
   refine wpIn_cond_false (h.ev rfl) ?_
   refine wpIn_skip ?_
   refine hK8 _ _ ?_
   refine aj fun K11 hK11=>?_
   refine aj fun K12 hK12=>?_
   refine ae ?_
   refine ac h (ag (h.ev rfl)) rfl ?_;intro f h
   refine ac h (aw (.bool true) (bg (h.ev rfl)) rfl) rfl ?_;intro f h
   refine ah ?_
   refine hK12 _ _ ?_
   refine wpIn_cond_true (h.ev rfl) ?_
   refine aj fun K13 hK13=>?_
   refine ae ?_
   refine ao 0 h s aU rfl rfl (rfl) rfl ?_;intro f h
   refine ac h (bM eE) rfl ?_;intro f h
   refine ac h (ag (h.ev rfl)) rfl ?_;intro f h
   refine aF h s eY (aO (.bool true) (cR Lb [] vb bo (i5 M no to) 1 _ ((s.getG 1 rfl) (⟨bK.of_own (s.getSl 4 rfl),fun y hy=>(hMr y hy).keep s.ext⟩:cf _ vm M)) hlvb (c1 _) (by decide) hbvb eg) (congrArg Value.bool (j8 (nC r0) (by decide) (hnvb.trans (fV (nC r0) (by decide)))))) rfl rfl ?_;intro f w1 v9 hT hE h s;obtain rfl:=hT
   refine ac h (ai (h.ev rfl)) rfl ?_;intro f h
   refine ah ?_
   refine hK13 _ _ ?_
   refine wpIn_ret ?_
   refine aQ ?_
   exact aX rfl h s rfl (rfl)
 ·skip
  refine ae ?_
  refine ao 6 h s aU rfl rfl (rfl) rfl ?_;intro f h
  refine aF h s ra (aO (.bool true) (gI M vm _ (⟨bK.of_own (s.getSl 4 rfl),fun y hy=>(hMr y hy).keep s.ext⟩:cf _ vm M) hM40 hMb) (congrArg Value.bool r0)) rfl rfl ?_;intro f w1 v9 hT hE h s;obtain rfl:=hT
  refine ac h (ai (h.ev rfl)) rfl ?_;intro f h
  refine ah ?_
  refine hK5 _ _ ?_
  refine aj fun K14 hK14=>?_
  refine aj fun K15 hK15=>?_
  have hbs:=s.ext.le
  refine' eL 16 [2] [] [[],[0],[],[0,1,2],[0,1,2,3],[0,1,2,3,4],[0,1,2,3,4,5],[0,1,2,3,4],[0,1,2,3,4,5,6,7],[0,1,2,3,4,5,6,7,8],[0,1,2,3,4,5,6,7,8,9],[0,1,2,3,4,5,6,7,8,9,10],[0,1,2,3,4,5,6,7,8,9,10,11],[0,1,2,3,4,5,6,7,8,9,10,11,12],[0,1,2,3,4,5,6,7,8,9,10,11],[0,1,2,3,4,5,6,7,8,9,10,11,12,13,14],[0,1,2,3,4,5,6,7,8,9,10,11,12,13,14,15],[0,1,2,3,4,5,6,7,8,9,10,11,12,13,14,15,16],[0,1,2,3,4,5,6,7,8,9,10,11,12,13,14,15,16,17],[0,1,2,3,4,5,6,7,8,9,10,11,12,13,14,15,16,17,18],[0,1,2,3,4,5,6,7,8,9,10,11,12,13,14,15,16,17,18,19],[0,1,2,3,4,5,6,7,8,9,10,11,12,13,14,15,16,17,18,19,20],[0,1,2,3,4,5,6,7,8,9,10,11,12,13,14,15,16,17,18,19,20,21]] (is _::is _::is _::is _::is _::is _::is _::is _::is _::is _::is _::is _::is _::(fun v w9=>bK w9 v 33 (aN M).length (av (aN M)))::is _::(fun v w9=>bK w9 v 33 (aN M).length (av (aN M)))::is undef::is undef::is undef::is undef::is undef::is undef::is undef::[]) (fun _=>True) h s (by kernel_rfl) (by kernel_rfl) (by kernel_rfl) (by kernel_rfl) rfl (fun _ _ h _=>h) (trivial) ⟨⟨_,rfl⟩,trivial⟩ ⟨az _,az _,az _,az _,az _,az _,az _,az _,az _,az _,az _,az _,az _,bK.mono,az _,bK.mono,az _,az _,az _,az _,az _,az _,az _,trivial⟩ (And.intro ?_ (And.intro ?_ (And.intro ?_ (And.intro ?_ (And.intro ?_ (And.intro ?_ (And.intro ?_ (And.intro ?_ (And.intro ?_ (And.intro ?_ (And.intro ?_ (And.intro ?_ (And.intro ?_ (And.intro ?_ (And.intro ?_ (And.intro ?_ (And.intro ?_ (And.intro ?_ (And.intro ?_ (And.intro ?_ (And.intro ?_ (And.intro ?_ (And.intro ?_ (trivial)))))))))))))))))))))))) ?_
  rotate_left 14
  ·refine aT 38 rfl (by decide) (by decide) ?_
   intro f9 w2 hE hs hd9 hl
   have e5:f9.tmps.getD 5 undef=_:=bX hl 5 (by kernel_rfl) (by kernel_rfl) (h.holds 5 _ rfl)
   have h:=aq [(5,_)] hs hd9 (holds_lk ⟨e5,trivial⟩)
   have s:=s.more hE
   have z:=St.start w2
   refine ao 6 h s aU rfl rfl (rfl) rfl ?_;intro f h
   refine ah ?_
   have e9:=h.holds 38 _ rfl
   refine ⟨?_,Ext.refl _,fun h9=>absurd h9 (by decide)⟩
   refine e9.trans ?_
   exact rfl
  ·refine aT 39 rfl (by decide) (by decide) ?_
   intro f9 w2 hE hs hd9 hl
   have e38:f9.tmps.getD 38 undef=_:=aH hl 38 0 (by kernel_rfl) (by kernel_rfl)
   have h:=aq [(38,_)] hs hd9 (holds_lk ⟨e38,trivial⟩)
   have s:=s.more hE
   have z:=St.start w2
   refine aF h s jP (aO (.bool true) (dB M vm _ (⟨bK.of_own (s.getSl 4 rfl),fun y hy=>(hMr y hy).keep s.ext⟩:cf _ vm M) hM40 hMb) (congrArg Value.bool r0)) rfl rfl ?_;intro f w1 v9 hT hE h s;obtain rfl:=hT
   refine ah ?_
   have e9:=h.holds 39 _ rfl
   refine ⟨?_,hE,fun h9=>absurd h9 (by decide)⟩
   refine e9.trans ?_
   exact rfl
  ·refine cZ 40 rfl (by decide) ?_
   intro f9 w2 hE hs hl
   have e15:f9.tmps.getD 15 undef=_:=bX hl 15 (by kernel_rfl) (by kernel_rfl) (h.holds 15 _ rfl)
   have h:=aq [(15,_)] hs rfl (holds_lk ⟨e15,trivial⟩)
   refine ac h (ag (h.ev rfl)) rfl ?_;intro f h
   refine ah ?_
   have e9:=h.holds 40 _ rfl
   refine ⟨?_,rfl⟩
   refine e9.trans ?_
   exact rfl
  ·refine aT 41 rfl (by decide) (by decide) ?_
   intro f9 w2 hE hs hd9 hl
   have e39:f9.tmps.getD 39 undef=_:=aH hl 39 1 (by kernel_rfl) (by kernel_rfl)
   have e40:f9.tmps.getD 40 undef=_:=aH hl 40 2 (by kernel_rfl) (by kernel_rfl)
   have h:=aq [(39,_),(40,_)] hs hd9 (holds_lk ⟨e39,e40,trivial⟩)
   have s:=s.more hE
   have z:=St.start w2
   refine ac h (aw (.bool false) (fJ Tryz.underlying4 (h.ev rfl) (h.ev rfl)) (by rfl)) rfl ?_;intro f h
   refine ah ?_
   have e9:=h.holds 41 _ rfl
   refine ⟨?_,Ext.refl _,fun h9=>absurd h9 (by decide)⟩
   refine e9.trans ?_
   exact rfl
  ·refine aT 42 rfl (by decide) (by decide) ?_
   intro f9 w2 hE hs hd9 hl
   have e41:f9.tmps.getD 41 undef=_:=aH hl 41 3 (by kernel_rfl) (by kernel_rfl)
   have h:=aq [(41,_)] hs hd9 (holds_lk ⟨e41,trivial⟩)
   have s:=s.more hE
   have z:=St.start w2
   refine ac h (ag (h.ev rfl)) rfl ?_;intro f h
   refine ah ?_
   have e9:=h.holds 42 _ rfl
   refine ⟨?_,Ext.refl _,fun h9=>absurd h9 (by decide)⟩
   refine e9.trans ?_
   exact rfl
  ·refine aT 43 rfl (by decide) (by decide) ?_
   intro f9 w2 hE hs hd9 hl
   have e5:f9.tmps.getD 5 undef=_:=bX hl 5 (by kernel_rfl) (by kernel_rfl) (h.holds 5 _ rfl)
   have e42:f9.tmps.getD 42 undef=_:=aH hl 42 4 (by kernel_rfl) (by kernel_rfl)
   have h:=aq [(5,_),(42,_)] hs hd9 (holds_lk ⟨e5,e42,trivial⟩)
   have s:=s.more hE
   have z:=St.start w2
   refine aB h rfl rfl rfl ?_
   refine ao 6 h s aU rfl rfl (rfl) rfl ?_;intro f h
   refine ah ?_
   have e9:=h.holds 43 _ rfl
   refine ⟨?_,Ext.refl _,fun h9=>absurd h9 (by decide)⟩
   refine e9.trans ?_
   exact rfl
  ·refine aT 44 rfl (by decide) (by decide) ?_
   intro f9 w2 hE hs hd9 hl
   have e43:f9.tmps.getD 43 undef=_:=aH hl 43 5 (by kernel_rfl) (by kernel_rfl)
   have e42:f9.tmps.getD 42 undef=_:=aH hl 42 4 (by kernel_rfl) (by kernel_rfl)
   have h:=aq [(43,_),(42,_)] hs hd9 (holds_lk ⟨e43,e42,trivial⟩)
   have s:=s.more hE
   have z:=St.start w2
   refine aB h rfl rfl rfl ?_
   refine aF h s tw (g6 M vm _ (⟨bK.of_own (s.getSl 4 rfl),fun y hy=>(hMr y hy).keep s.ext⟩:cf _ vm M) hM40 hMb) rfl rfl ?_;intro f w1 v9 hT hE h s;obtain rfl:=hT
   refine ah ?_
   have e9:=h.holds 44 _ rfl
   refine ⟨?_,hE,fun h9=>absurd h9 (by decide)⟩
   refine e9.trans ?_
   exact rfl
  ·refine aT 45 rfl (by decide) (by decide) ?_
   intro f9 w2 hE hs hd9 hl
   have e5:f9.tmps.getD 5 undef=_:=bX hl 5 (by kernel_rfl) (by kernel_rfl) (h.holds 5 _ rfl)
   have e42:f9.tmps.getD 42 undef=_:=aH hl 42 4 (by kernel_rfl) (by kernel_rfl)
   have h:=aq [(5,_),(42,_)] hs hd9 (holds_lk ⟨e5,e42,trivial⟩)
   have s:=s.more hE
   have z:=St.start w2
   refine aB h rfl rfl rfl ?_
   refine ao 6 h s aU rfl rfl (rfl) rfl ?_;intro f h
   refine ah ?_
   have e9:=h.holds 45 _ rfl
   refine ⟨?_,Ext.refl _,fun h9=>absurd h9 (by decide)⟩
   refine e9.trans ?_
   exact rfl
  ·refine aT 46 rfl (by decide) (by decide) ?_
   intro f9 w2 hE hs hd9 hl
   have e45:f9.tmps.getD 45 undef=_:=aH hl 45 7 (by kernel_rfl) (by kernel_rfl)
   have e42:f9.tmps.getD 42 undef=_:=aH hl 42 4 (by kernel_rfl) (by kernel_rfl)
   have h:=aq [(45,_),(42,_)] hs hd9 (holds_lk ⟨e45,e42,trivial⟩)
   have s:=s.more hE
   have z:=St.start w2
   refine aB h rfl rfl rfl ?_
   refine aF h s x2 (lU M vm _ (⟨bK.of_own (s.getSl 4 rfl),fun y hy=>(hMr y hy).keep s.ext⟩:cf _ vm M) hM40 hMb) rfl rfl ?_;intro f w1 v9 hT hE h s;obtain rfl:=hT
   refine ah ?_
   have e9:=h.holds 46 _ rfl
   refine ⟨?_,hE,fun h9=>absurd h9 (by decide)⟩
   refine e9.trans ?_
   exact rfl
  ·refine aT 47 rfl (by decide) (by decide) ?_
   intro f9 w2 hE hs hd9 hl
   have e44:f9.tmps.getD 44 undef=_:=aH hl 44 6 (by kernel_rfl) (by kernel_rfl)
   have e46:f9.tmps.getD 46 undef=_:=aH hl 46 8 (by kernel_rfl) (by kernel_rfl)
   have e42:f9.tmps.getD 42 undef=_:=aH hl 42 4 (by kernel_rfl) (by kernel_rfl)
   have h:=aq [(44,_),(46,_),(42,_)] hs hd9 (holds_lk ⟨e44,e46,e42,trivial⟩)
   have s:=s.more hE
   have z:=St.start w2
   refine aB h rfl rfl rfl ?_
   refine ac h (aw (.bool false) (fJ Tryz.underlying4 (h.ev rfl) (h.ev rfl)) (by simp)) rfl ?_;intro f h
   refine ah ?_
   have e9:=h.holds 47 _ rfl
   refine ⟨?_,Ext.refl _,fun h9=>absurd h9 (by decide)⟩
   refine e9.trans ?_
   exact rfl
  ·refine aT 48 rfl (by decide) (by decide) ?_
   intro f9 w2 hE hs hd9 hl
   have e42:f9.tmps.getD 42 undef=_:=aH hl 42 4 (by kernel_rfl) (by kernel_rfl)
   have e47:f9.tmps.getD 47 undef=_:=aH hl 47 9 (by kernel_rfl) (by kernel_rfl)
   have h:=aq [(42,_),(47,_)] hs hd9 (holds_lk ⟨e42,e47,trivial⟩)
   have s:=s.more hE
   have z:=St.start w2
   refine ac h (aE (h.ev rfl) (h.ev rfl)) rfl ?_;intro f h
   refine ah ?_
   have e9:=h.holds 48 _ rfl
   refine ⟨?_,Ext.refl _,fun h9=>absurd h9 (by decide)⟩
   refine e9.trans ?_
   exact rfl
  ·refine aT 49 rfl (by decide) (by decide) ?_
   intro f9 w2 hE hs hd9 hl
   have e48:f9.tmps.getD 48 undef=_:=aH hl 48 10 (by kernel_rfl) (by kernel_rfl)
   have h:=aq [(48,_)] hs hd9 (holds_lk ⟨e48,trivial⟩)
   have s:=s.more hE
   have z:=St.start w2
   refine ac h (ag (h.ev rfl)) rfl ?_;intro f h
   refine ah ?_
   have e9:=h.holds 49 _ rfl
   refine ⟨?_,Ext.refl _,fun h9=>absurd h9 (by decide)⟩
   refine e9.trans ?_
   exact rfl
  ·refine aT 50 rfl (by decide) (by decide) ?_
   intro f9 w2 hE hs hd9 hl
   have e5:f9.tmps.getD 5 undef=_:=bX hl 5 (by kernel_rfl) (by kernel_rfl) (h.holds 5 _ rfl)
   have e49:f9.tmps.getD 49 undef=_:=aH hl 49 11 (by kernel_rfl) (by kernel_rfl)
   have h:=aq [(5,_),(49,_)] hs hd9 (holds_lk ⟨e5,e49,trivial⟩)
   have s:=s.more hE
   have z:=St.start w2
   refine aB h rfl rfl rfl ?_
   refine ao 6 h s aU rfl rfl (rfl) rfl ?_;intro f h
   refine ah ?_
   have e9:=h.holds 50 _ rfl
   refine ⟨?_,Ext.refl _,fun h9=>absurd h9 (by decide)⟩
   refine e9.trans ?_
   exact rfl
  ·refine aT 51 rfl (by decide) (by decide) ?_
   intro f9 w2 hE hs hd9 hl
   have e50:f9.tmps.getD 50 undef=_:=aH hl 50 12 (by kernel_rfl) (by kernel_rfl)
   have e49:f9.tmps.getD 49 undef=_:=aH hl 49 11 (by kernel_rfl) (by kernel_rfl)
   have h:=aq [(50,_),(49,_)] hs hd9 (holds_lk ⟨e50,e49,trivial⟩)
   have s:=s.more hE
   have z:=St.start w2
   refine aB h rfl rfl rfl ?_
   refine aF h z rA (ff M vm _ (⟨bK.of_own (s.getSl 4 rfl),fun y hy=>(hMr y hy).keep s.ext⟩:cf _ vm M) hM40) rfl rfl ?_;intro f w1 v51 hT hE2 h sq;replace z:=z.sl_new hE2 hT
   refine ah ?_
   exact pz (h.holds 51 _ rfl) z _ rfl
  ·refine aT 52 rfl (by decide) (by decide) ?_
   intro f9 w2 hE hs hd9 hl
   have e5:f9.tmps.getD 5 undef=_:=bX hl 5 (by kernel_rfl) (by kernel_rfl) (h.holds 5 _ rfl)
   have e49:f9.tmps.getD 49 undef=_:=aH hl 49 11 (by kernel_rfl) (by kernel_rfl)
   have h:=aq [(5,_),(49,_)] hs hd9 (holds_lk ⟨e5,e49,trivial⟩)
   have s:=s.more hE
   have z:=St.start w2
   refine aB h rfl rfl rfl ?_
   refine ao 6 h s aU rfl rfl (rfl) rfl ?_;intro f h
   refine ah ?_
   have e9:=h.holds 52 _ rfl
   refine ⟨?_,Ext.refl _,fun h9=>absurd h9 (by decide)⟩
   refine e9.trans ?_
   exact rfl
  ·refine aT 53 rfl (by decide) (by decide) ?_
   intro f9 w2 hE hs hd9 hl
   have e52:f9.tmps.getD 52 undef=_:=aH hl 52 14 (by kernel_rfl) (by kernel_rfl)
   have e49:f9.tmps.getD 49 undef=_:=aH hl 49 11 (by kernel_rfl) (by kernel_rfl)
   have h:=aq [(52,_),(49,_)] hs hd9 (holds_lk ⟨e52,e49,trivial⟩)
   have s:=s.more hE
   have z:=St.start w2
   refine aB h rfl rfl rfl ?_
   refine aF h z mL (eo M vm _ (⟨bK.of_own (s.getSl 4 rfl),fun y hy=>(hMr y hy).keep s.ext⟩:cf _ vm M) hM40) rfl rfl ?_;intro f w1 v53 hT hE2 h sq;replace z:=z.sl_new hE2 hT
   refine ah ?_
   exact pz (h.holds 53 _ rfl) z _ rfl
  ·exact cr (by decide) (by decide)
  ·exact cr (by decide) (by decide)
  ·exact cr (by decide) (by decide)
  ·exact cr (by decide) (by decide)
  ·exact cr (by decide) (by decide)
  ·exact cr (by decide) (by decide)
  ·exact cr (by decide) (by decide)
  ·intro f9 w2 hE hs hd9 hWp hT hR hFr hDj
   obtain ⟨u51,hu51⟩:∃ v,f9.tmps.getD 51 undef=v:=⟨_,rfl⟩
   have e51:(fun v w9=>bK w9 v 33 (aN M).length (av (aN M))) u51 w2:=by rw [← hu51];exact hT 13 51 (by decide) rfl
   obtain ⟨u53,hu53⟩:∃ v,f9.tmps.getD 53 undef=v:=⟨_,rfl⟩
   have e53:(fun v w9=>bK w9 v 33 (aN M).length (av (aN M))) u53 w2:=by rw [← hu53];exact hT 15 53 (by decide) rfl
   replace h:=sl_new (ops:=_) [(38,_),(39,_),(40,_),(41,_),(42,_),(43,_),(44,_),(45,_),(46,_),(47,_),(48,_),(49,_),(50,_),(51,u51),(52,_),(53,u53)] h hs hd9 hR ⟨hT 0 38 (by decide) rfl,hT 1 39 (by decide) rfl,hT 2 40 (by decide) rfl,hT 3 41 (by decide) rfl,hT 4 42 (by decide) rfl,hT 5 43 (by decide) rfl,hT 6 44 (by decide) rfl,hT 7 45 (by decide) rfl,hT 8 46 (by decide) rfl,hT 9 47 (by decide) rfl,hT 10 48 (by decide) rfl,hT 11 49 (by decide) rfl,hT 12 50 (by decide) rfl,hu51,hT 14 52 (by decide) rfl,hu53,trivial⟩ (by kernel_rfl)
   replace s:=s.more hE
   clear hT hR hFr hDj
   refine eD.of ?_
   refine aB h rfl rfl rfl ?_
   refine aF h s ly (aO (.bool true) (fG (aN M) (aN M) u51 u53 _ e51 e53 (by rw [List.length_map];omega) (by rw [List.length_map];omega)) (congrArg Value.bool (decide_eq_true rfl))) rfl rfl ?_;intro f w1 v9 hT hE h s;obtain rfl:=hT
   refine aB h rfl rfl rfl ?_
   refine ac h (aw (.bool false) (bg (h.ev rfl)) rfl) rfl ?_;intro f h
   refine ac h (aE (h.ev rfl) (h.ev rfl)) rfl ?_;intro f h
   refine ac h (ag (h.ev rfl)) rfl ?_;intro f h
   refine aB h rfl rfl rfl ?_
   refine aF h s yE (aO (.bool true) (lE _) (rfl)) rfl rfl ?_;intro f w1 v9 hT hE h s;obtain rfl:=hT
   refine aB h rfl rfl rfl ?_
   refine ac h (aw (.bool false) (bg (h.ev rfl)) rfl) rfl ?_;intro f h
   refine ac h (aE (h.ev rfl) (h.ev rfl)) rfl ?_;intro f h
   refine ah ?_
   refine hK15 _ _ ?_
   refine wpIn_cond_false (h.ev rfl) ?_
   refine wpIn_skip ?_
   refine hK14 _ _ ?_
   refine aj fun K16 hK16=>?_
   refine aj fun K17 hK17=>?_
   cases m0:(decide (m.1<0):Bool)
   ·skip
    cases m1:(decide (15<m.1):Bool)
    ·skip
     refine ae ?_
     refine ac h (ag (h.ev rfl)) rfl ?_;intro f h
     refine ac h (aw (.bool false) (bg (h.ev rfl)) rfl) rfl ?_;intro f h
     refine ac h (ag (h.ev rfl)) rfl ?_;intro f h
     refine aB h rfl rfl rfl ?_
     refine ac h (al aP (h.ev rfl)) rfl ?_;intro f h
     refine aB h rfl rfl rfl ?_
     refine ar (am (bc.of_own s 5 rfl) 0 (aV _)) h bO rfl rfl ?_;intro f h
     refine aB h rfl rfl rfl ?_
     refine ac h (aw (.bool false) (bD (h.ev rfl) (h.ev rfl)) (congrArg Value.bool m0)) rfl ?_;intro f h
     refine ac h (aE (h.ev rfl) (h.ev rfl)) rfl ?_;intro f h
     refine ac h (ag (h.ev rfl)) rfl ?_;intro f h
     refine aB h rfl rfl rfl ?_
     refine ac h (al aP (h.ev rfl)) rfl ?_;intro f h
     refine aB h rfl rfl rfl ?_
     refine ar (am (bc.of_own s 5 rfl) 0 (aV _)) h bO rfl rfl ?_;intro f h
     refine aB h rfl rfl rfl ?_
     refine ac h (aw (.bool false) (cL (h.ev rfl) (h.ev rfl)) (congrArg Value.bool m1)) rfl ?_;intro f h
     refine ac h (aE (h.ev rfl) (h.ev rfl)) rfl ?_;intro f h
     refine ah ?_
     refine hK17 _ _ ?_
     refine wpIn_cond_false (h.ev rfl) ?_
     refine aj fun K18 hK18=>?_
     refine ae ?_
     have hok:mw M m=true:=AK r0 m0 m1
     refine ao 6 h s aU rfl rfl (rfl) rfl ?_;intro f h
     refine ao 5 h s aL rfl rfl (ak _) rfl ?_;intro f h
     refine ac h (ag (h.ev rfl)) rfl ?_;intro f h
     refine aF h s AQ (uv M vm m sc9 _ (⟨bK.of_own (s.getSl 4 rfl),fun y hy=>(hMr y hy).keep s.ext⟩:cf _ vm M) hM40 hMb) rfl rfl ?_;rintro f w1 v82 ⟨o9,rfl,vc,Lc,kc,rfl,hnvc,hG⟩ hE h sq;replace s:=s.add hG;clear hG
     have hlvc:=(xQ sc9 hok).l hnvc
     have hbvc:=(xQ sc9 hok).r hnvc
     refine ac h (ag (h.ev rfl)) rfl ?_;intro f h
     refine ac h (bB (h.ev rfl) rfl) rfl ?_;intro f h
     refine ac h (bB (h.ev rfl) rfl) rfl ?_;intro f h
     refine ba (#[bo]) h s dY rfl rfl ?_;intro f w1 b16 h s
     refine ay 0 h s aU rfl rfl rfl (rfl) (rfl) (cj (cx (((s.getG 1 rfl) (⟨bK.of_own (s.getSl 6 rfl),fun y hy=>(hMr y hy).keep s.ext⟩:cf _ vm M)).1))) ?_;intro w1 s
     refine ac h (ai (h.ev rfl)) rfl ?_;intro f h
     refine ah ?_
     refine hK18 _ _ ?_
     refine aj fun K19 hK19=>?_
     refine ae ?_
     refine ao 4 h s aU rfl rfl (rfl) rfl ?_;intro f h
     refine ao 0 h s aU rfl rfl (rfl) rfl ?_;intro f h
     refine ac h (ag (h.ev rfl)) rfl ?_;intro f h
     refine ac h (ag (h.ev rfl)) rfl ?_;intro f h
     refine aF h s eY (aO (.bool true) (cR La Lc va vc (vL M m sc9) (qh M m sc9) _ ((s.getG 5 rfl) (⟨bK.of_own (s.getSl 6 rfl),fun y hy=>(hMr y hy).keep s.ext⟩:cf _ vm M)) hlva ((s.getG 1 rfl) (⟨bK.of_own (s.getSl 6 rfl),fun y hy=>(hMr y hy).keep s.ext⟩:cf _ vm M)) hlvc hbva hbvc) (congrArg Value.bool (BA (ij hok).1 (hnva.trans ((ij hok).2.trans hnvc.symm)) (fun h9=>hnva.trans ((ij hok).2.trans (ln rfl h9)))))) rfl rfl ?_;intro f w1 v9 hT hE h s;obtain rfl:=hT
     refine ac h (aw (.bool false) (bg (h.ev rfl)) rfl) rfl ?_;intro f h
     refine ah ?_
     refine hK19 _ _ ?_
     refine wpIn_cond_false (h.ev rfl) ?_
     refine wpIn_skip ?_
     refine hK16 _ _ ?_
     refine aj fun K20 hK20=>?_
     refine aj fun K21 hK21=>?_
     refine ae ?_
     refine ac h (ag (h.ev rfl)) rfl ?_;intro f h
     refine ac h (aw (.bool false) (bg (h.ev rfl)) rfl) rfl ?_;intro f h
     refine ah ?_
     refine hK21 _ _ ?_
     refine wpIn_cond_false (h.ev rfl) ?_
     refine wpIn_skip ?_
     refine hK20 _ _ ?_
     refine aj fun K22 hK22=>?_
     refine aj fun K23 hK23=>?_
     cases n0:(cw (aN M) no:Bool)
     ·skip
      refine ae ?_
      refine ao 8 h s aU rfl rfl (rfl) rfl ?_;intro f h
      refine ac h (ag (h.ev rfl)) rfl ?_;intro f h
      refine aF h s eT (aO (.bool false) (cS M vm no _ (⟨bK.of_own (s.getSl 6 rfl),fun y hy=>(hMr y hy).keep s.ext⟩:cf _ vm M) hM40) (congrArg Value.bool n0)) rfl rfl ?_;intro f w1 v9 hT hE h s;obtain rfl:=hT
      refine ac h (aw (.bool true) (bg (h.ev rfl)) rfl) rfl ?_;intro f h
      refine ac h (ag (h.ev rfl)) rfl ?_;intro f h
      refine aC (b:=false) h rfl rfl rfl rfl ?_;intro f h
      refine aC (b:=false) h rfl rfl rfl rfl ?_;intro f h
      refine aC (b:=false) h rfl rfl rfl rfl ?_;intro f h
      refine aC (b:=false) h rfl rfl rfl rfl ?_;intro f h
      refine ac h (aJ (h.ev rfl) (h.ev rfl)) rfl ?_;intro f h
      refine ah ?_
      refine hK23 _ _ ?_
      refine wpIn_cond_true (h.ev rfl) ?_
      refine aj fun K24 hK24=>?_
      refine ae ?_
      refine ao 2 h s aU rfl rfl (rfl) rfl ?_;intro f h
      refine ac h (bM eE) rfl ?_;intro f h
      refine ac h (ag (h.ev rfl)) rfl ?_;intro f h
      refine aF h s eY (aO (.bool true) (cR Lb [] vb bo (i5 M no to) 10 _ ((s.getG 3 rfl) (⟨bK.of_own (s.getSl 6 rfl),fun y hy=>(hMr y hy).keep s.ext⟩:cf _ vm M)) hlvb (c1 _) (by decide) hbvb eg) (congrArg Value.bool (j8 (kG r0 n0) (by decide) (hnvb.trans (fV (kG r0 n0) (by decide)))))) rfl rfl ?_;intro f w1 v9 hT hE h s;obtain rfl:=hT
      refine ac h (ai (h.ev rfl)) rfl ?_;intro f h
      refine ah ?_
      refine hK24 _ _ ?_
      refine wpIn_ret ?_
      refine aQ ?_
      exact aX rfl h s rfl (rfl)
     ·skip
      cases n1:(cw (aN M) to:Bool)
      ·skip
       refine ae ?_
       refine ao 8 h s aU rfl rfl (rfl) rfl ?_;intro f h
       refine ac h (ag (h.ev rfl)) rfl ?_;intro f h
       refine aF h s eT (aO (.bool true) (cS M vm no _ (⟨bK.of_own (s.getSl 6 rfl),fun y hy=>(hMr y hy).keep s.ext⟩:cf _ vm M) hM40) (congrArg Value.bool n0)) rfl rfl ?_;intro f w1 v9 hT hE h s;obtain rfl:=hT
       refine ac h (aw (.bool false) (bg (h.ev rfl)) rfl) rfl ?_;intro f h
       refine ac h (ag (h.ev rfl)) rfl ?_;intro f h
       refine aB h rfl rfl rfl ?_
       refine ao 8 h s aU rfl rfl (rfl) rfl ?_;intro f h
       refine aB h rfl rfl rfl ?_
       refine ac h (ag (h.ev rfl)) rfl ?_;intro f h
       refine aB h rfl rfl rfl ?_
       refine aF h s eT (aO (.bool false) (cS M vm to _ (⟨bK.of_own (s.getSl 6 rfl),fun y hy=>(hMr y hy).keep s.ext⟩:cf _ vm M) hM40) (congrArg Value.bool n1)) rfl rfl ?_;intro f w1 v9 hT hE h s;obtain rfl:=hT
       refine aB h rfl rfl rfl ?_
       refine ac h (aw (.bool true) (bg (h.ev rfl)) rfl) rfl ?_;intro f h
       refine ac h (aE (h.ev rfl) (h.ev rfl)) rfl ?_;intro f h
       refine ah ?_
       refine hK23 _ _ ?_
       refine wpIn_cond_true (h.ev rfl) ?_
       refine aj fun K25 hK25=>?_
       refine ae ?_
       refine ao 2 h s aU rfl rfl (rfl) rfl ?_;intro f h
       refine ac h (bM eE) rfl ?_;intro f h
       refine ac h (ag (h.ev rfl)) rfl ?_;intro f h
       refine aF h s eY (aO (.bool true) (cR Lb [] vb bo (i5 M no to) 10 _ ((s.getG 3 rfl) (⟨bK.of_own (s.getSl 6 rfl),fun y hy=>(hMr y hy).keep s.ext⟩:cf _ vm M)) hlvb (c1 _) (by decide) hbvb eg) (congrArg Value.bool (j8 (kr r0 n1) (by decide) (hnvb.trans (fV (kr r0 n1) (by decide)))))) rfl rfl ?_;intro f w1 v9 hT hE h s;obtain rfl:=hT
       refine ac h (ai (h.ev rfl)) rfl ?_;intro f h
       refine ah ?_
       refine hK25 _ _ ?_
       refine wpIn_ret ?_
       refine aQ ?_
       exact aX rfl h s rfl (rfl)
      ·skip
       refine ae ?_
       refine ao 8 h s aU rfl rfl (rfl) rfl ?_;intro f h
       refine ac h (ag (h.ev rfl)) rfl ?_;intro f h
       refine aF h s eT (aO (.bool true) (cS M vm no _ (⟨bK.of_own (s.getSl 6 rfl),fun y hy=>(hMr y hy).keep s.ext⟩:cf _ vm M) hM40) (congrArg Value.bool n0)) rfl rfl ?_;intro f w1 v9 hT hE h s;obtain rfl:=hT
       refine ac h (aw (.bool false) (bg (h.ev rfl)) rfl) rfl ?_;intro f h
       refine ac h (ag (h.ev rfl)) rfl ?_;intro f h
       refine aB h rfl rfl rfl ?_
       refine ao 8 h s aU rfl rfl (rfl) rfl ?_;intro f h
       refine aB h rfl rfl rfl ?_
       refine ac h (ag (h.ev rfl)) rfl ?_;intro f h
       refine aB h rfl rfl rfl ?_
       refine aF h s eT (aO (.bool true) (cS M vm to _ (⟨bK.of_own (s.getSl 6 rfl),fun y hy=>(hMr y hy).keep s.ext⟩:cf _ vm M) hM40) (congrArg Value.bool n1)) rfl rfl ?_;intro f w1 v9 hT hE h s;obtain rfl:=hT
       refine aB h rfl rfl rfl ?_
       refine ac h (aw (.bool false) (bg (h.ev rfl)) rfl) rfl ?_;intro f h
       refine ac h (aE (h.ev rfl) (h.ev rfl)) rfl ?_;intro f h
       refine ah ?_
       refine hK23 _ _ ?_
       refine wpIn_cond_false (h.ev rfl) ?_
       refine wpIn_skip ?_
       refine hK22 _ _ ?_
       refine aj fun K26 hK26=>?_
       have hrs:=(ex r0).rs
       have hgb:=hMb.each _ (hrs.get n0).1
       refine i9 0 [[],[],[0,1],[],[],[0,1,2,3,4],[0,1,2,3,4,5],[0,1,2,3,4,5,6],[0,1,2,3,4,5,6,7],[0,1,2,3,4,5,6,7,8],[0,1,2,3,4,5,6,7,8],[],[0,1,2,3,4,5,6,7,8,9,11],[0,1,2,3,4,5,6,7,8,9,10,11,12]] [[],[],[],[],[],[],[],[],[],[],[],[],[11],[]] [fun _=>[],fun _=>[],fun _=>[],fun _=>[],fun _=>[],fun _=>[],fun _=>[],fun v=>[.sl (ck 66 (v 7)) 28 33 (ci (ax M no).1 (ax M to).1.me).sc.length (av (ci (ax M no).1 (ax M to).1.me).sc),.sl (ck 67 (v 7)) 28 33 (ci (ax M no).1 (ax M to).1.me).fg.length (av (ci (ax M no).1 (ax M to).1.me).fg)],fun _=>[],fun _=>[],fun _=>[],fun v=>[.blk (np (v 11)) (.cells (aD a8 a8 bo bo) 42)],fun v=>[.blk (np (v 11)) (.cells (aD (ci (ax M no).1 (ax M to).1.me).me (ci (ax M no).1 (ax M to).1.me).pr (ck 66 (v 7)) (ck 67 (v 7))) 42)],fun _=>[]] [] [fun v=>v 0=.agg (#[vm]),fun v=>v 1=.int .i64 no,fun v=>v 2=.agg (aD (ax M no).1.me (ax M no).1.pr (ax M no).2.1 (ax M no).2.2),fun v=>v 3=.agg (#[vm]),fun v=>v 4=.int .i64 to,fun v=>v 5=.agg (aD (ax M to).1.me (ax M to).1.pr (ax M to).2.1 (ax M to).2.2),fun v=>v 6=.agg (au (ax M to).1.me),fun v=>v 7=.tuple #[.agg (aD (ci (ax M no).1 (ax M to).1.me).me (ci (ax M no).1 (ax M to).1.me).pr (ck 66 (v 7)) (ck 67 (v 7))),.int .i64 (de (ax M no).1 (ax M to).1.me)],fun v=>v 8=.tuple #[.agg (aD (ci (ax M no).1 (ax M to).1.me).me (ci (ax M no).1 (ax M to).1.me).pr (ck 66 (v 7)) (ck 67 (v 7))),.int .i64 (de (ax M no).1 (ax M to).1.me)],fun v=>v 9=.agg (aD (ci (ax M no).1 (ax M to).1.me).me (ci (ax M no).1 (ax M to).1.me).pr (ck 66 (v 7)) (ck 67 (v 7))),fun v=>v 10=.int .i64 (de (ax M no).1 (ax M to).1.me),fun v=>∃ b,v 11=.pointer (some ⟨b,0,none⟩),fun _=>True,fun v=>v 13=.int .i64 (de (ax M no).1 (ax M to).1.me)] [.blk b16 (.cells (#[vc]) 24),(.grp kc (fun w9=>cP vm M w9→cf w9 vc Lc)),.blk b13 (.cells (#[vb]) 24),(.grp kb (fun w9=>cP vm M w9→cf w9 vb Lb)),.blk b11 (.cells (#[va]) 24),(.grp ka (fun w9=>cP vm M w9→cf w9 va La)),.sl vm 42 68 M.length (aK M),.blk b6 (.cells ((au m)) 28),.blk b5 (.cells (#[vm]) 24)] h s rfl (by kernel_rfl) (by kernel_rfl) (by kernel_rfl) (And.intro ?_ (And.intro ?_ (And.intro ?_ (And.intro ?_ (And.intro ?_ (And.intro ?_ (And.intro ?_ (And.intro ?_ (And.intro ?_ (And.intro ?_ (And.intro ?_ (And.intro ?_ (And.intro ?_ (And.intro ?_ (trivial))))))))))))))) [0,1,2,3,4,5,6,7,8,9,10,12,13] (by kernel_rfl) ?_
       ·intro f9 w2 vl17 E9 hs9 hd9 hl hF s
        have e5:f9.tmps.getD 5 undef=_:=cD hl 5 (by kernel_rfl) (by kernel_rfl) (h.holds 5 _ rfl)
        have h:=aq [(5,_)] (hs9.trans h.size) (hd9.trans h.defers) (holds_lk ⟨e5,trivial⟩)
        replace s:St w (.blk b16 (.cells (#[vc]) 24)::(.grp kc (fun w9=>cP vm M w9→cf w9 vc Lc))::.blk b13 (.cells (#[vb]) 24)::(.grp kb (fun w9=>cP vm M w9→cf w9 vb Lb))::.blk b11 (.cells (#[va]) 24)::(.grp ka (fun w9=>cP vm M w9→cf w9 va La))::.sl vm 42 68 M.length (aK M)::.blk b6 (.cells ((au m)) 28)::.blk b5 (.cells (#[vm]) 24)::E9) _:=s
        refine ao 8 h s aU rfl rfl (rfl) rfl ?_;intro f h
        exact ah ⟨_,a7 112 rfl (h.holds 112 _ rfl),rfl,s⟩
       ·intro f9 w2 vl17 E9 hs9 hd9 hl hF s
        have e3:f9.tmps.getD 3 undef=_:=cD hl 3 (by kernel_rfl) (by kernel_rfl) (h.holds 3 _ rfl)
        have h:=aq [(3,_)] (hs9.trans h.size) (hd9.trans h.defers) (holds_lk ⟨e3,trivial⟩)
        replace s:St w (.blk b16 (.cells (#[vc]) 24)::(.grp kc (fun w9=>cP vm M w9→cf w9 vc Lc))::.blk b13 (.cells (#[vb]) 24)::(.grp kb (fun w9=>cP vm M w9→cf w9 vb Lb))::.blk b11 (.cells (#[va]) 24)::(.grp ka (fun w9=>cP vm M w9→cf w9 va La))::.sl vm 42 68 M.length (aK M)::.blk b6 (.cells ((au m)) 28)::.blk b5 (.cells (#[vm]) 24)::E9) _:=s
        refine ac h (ag (h.ev rfl)) rfl ?_;intro f h
        exact ah ⟨_,a7 113 rfl (h.holds 113 _ rfl),rfl,s⟩
       ·intro f9 w2 vl17 E9 hs9 hd9 hl hF s
        have e112:f9.tmps.getD 112 undef=.agg (#[vm]):=(aW hl 112 0 (by kernel_rfl) (by kernel_rfl)).trans (hF 0 (by decide))
        have e113:f9.tmps.getD 113 undef=.int .i64 no:=(aW hl 113 1 (by kernel_rfl) (by kernel_rfl)).trans (hF 1 (by decide))
        have h:=aq [(112,.agg (#[vm])),(113,.int .i64 no)] (hs9.trans h.size) (hd9.trans h.defers) (holds_lk ⟨e112,e113,trivial⟩)
        replace s:St w (.blk b16 (.cells (#[vc]) 24)::(.grp kc (fun w9=>cP vm M w9→cf w9 vc Lc))::.blk b13 (.cells (#[vb]) 24)::(.grp kb (fun w9=>cP vm M w9→cf w9 vb Lb))::.blk b11 (.cells (#[va]) 24)::(.grp ka (fun w9=>cP vm M w9→cf w9 va La))::.sl vm 42 68 M.length (aK M)::.blk b6 (.cells ((au m)) 28)::.blk b5 (.cells (#[vm]) 24)::E9) _:=s
        refine aF h s l4 (gx M vm no _ (⟨bK.of_own (s.getSl 6 rfl),fun y hy=>(hMr y hy).keep s.ext⟩:cf _ vm M) hM40) rfl rfl ?_;intro f w1 v9 hT hE h s;obtain rfl:=hT
        exact ah ⟨_,a7 114 rfl (h.holds 114 _ rfl),rfl,s⟩
       ·intro f9 w2 vl17 E9 hs9 hd9 hl hF s
        have e5:f9.tmps.getD 5 undef=_:=cD hl 5 (by kernel_rfl) (by kernel_rfl) (h.holds 5 _ rfl)
        have h:=aq [(5,_)] (hs9.trans h.size) (hd9.trans h.defers) (holds_lk ⟨e5,trivial⟩)
        replace s:St w (.blk b16 (.cells (#[vc]) 24)::(.grp kc (fun w9=>cP vm M w9→cf w9 vc Lc))::.blk b13 (.cells (#[vb]) 24)::(.grp kb (fun w9=>cP vm M w9→cf w9 vb Lb))::.blk b11 (.cells (#[va]) 24)::(.grp ka (fun w9=>cP vm M w9→cf w9 va La))::.sl vm 42 68 M.length (aK M)::.blk b6 (.cells ((au m)) 28)::.blk b5 (.cells (#[vm]) 24)::E9) _:=s
        refine ao 8 h s aU rfl rfl (rfl) rfl ?_;intro f h
        exact ah ⟨_,a7 115 rfl (h.holds 115 _ rfl),rfl,s⟩
       ·intro f9 w2 vl17 E9 hs9 hd9 hl hF s
        have e4:f9.tmps.getD 4 undef=_:=cD hl 4 (by kernel_rfl) (by kernel_rfl) (h.holds 4 _ rfl)
        have h:=aq [(4,_)] (hs9.trans h.size) (hd9.trans h.defers) (holds_lk ⟨e4,trivial⟩)
        replace s:St w (.blk b16 (.cells (#[vc]) 24)::(.grp kc (fun w9=>cP vm M w9→cf w9 vc Lc))::.blk b13 (.cells (#[vb]) 24)::(.grp kb (fun w9=>cP vm M w9→cf w9 vb Lb))::.blk b11 (.cells (#[va]) 24)::(.grp ka (fun w9=>cP vm M w9→cf w9 va La))::.sl vm 42 68 M.length (aK M)::.blk b6 (.cells ((au m)) 28)::.blk b5 (.cells (#[vm]) 24)::E9) _:=s
        refine ac h (ag (h.ev rfl)) rfl ?_;intro f h
        exact ah ⟨_,a7 116 rfl (h.holds 116 _ rfl),rfl,s⟩
       ·intro f9 w2 vl17 E9 hs9 hd9 hl hF s
        have e115:f9.tmps.getD 115 undef=.agg (#[vm]):=(aW hl 115 3 (by kernel_rfl) (by kernel_rfl)).trans (hF 3 (by decide))
        have e116:f9.tmps.getD 116 undef=.int .i64 to:=(aW hl 116 4 (by kernel_rfl) (by kernel_rfl)).trans (hF 4 (by decide))
        have h:=aq [(115,.agg (#[vm])),(116,.int .i64 to)] (hs9.trans h.size) (hd9.trans h.defers) (holds_lk ⟨e115,e116,trivial⟩)
        replace s:St w (.blk b16 (.cells (#[vc]) 24)::(.grp kc (fun w9=>cP vm M w9→cf w9 vc Lc))::.blk b13 (.cells (#[vb]) 24)::(.grp kb (fun w9=>cP vm M w9→cf w9 vb Lb))::.blk b11 (.cells (#[va]) 24)::(.grp ka (fun w9=>cP vm M w9→cf w9 va La))::.sl vm 42 68 M.length (aK M)::.blk b6 (.cells ((au m)) 28)::.blk b5 (.cells (#[vm]) 24)::E9) _:=s
        refine aF h s l4 (gx M vm to _ (⟨bK.of_own (s.getSl 6 rfl),fun y hy=>(hMr y hy).keep s.ext⟩:cf _ vm M) hM40) rfl rfl ?_;intro f w1 v9 hT hE h s;obtain rfl:=hT
        exact ah ⟨_,a7 117 rfl (h.holds 117 _ rfl),rfl,s⟩
       ·intro f9 w2 vl17 E9 hs9 hd9 hl hF s
        have e117:f9.tmps.getD 117 undef=.agg (aD (ax M to).1.me (ax M to).1.pr (ax M to).2.1 (ax M to).2.2):=(aW hl 117 5 (by kernel_rfl) (by kernel_rfl)).trans (hF 5 (by decide))
        have h:=aq [(117,.agg (aD (ax M to).1.me (ax M to).1.pr (ax M to).2.1 (ax M to).2.2))] (hs9.trans h.size) (hd9.trans h.defers) (holds_lk ⟨e117,trivial⟩)
        replace s:St w (.blk b16 (.cells (#[vc]) 24)::(.grp kc (fun w9=>cP vm M w9→cf w9 vc Lc))::.blk b13 (.cells (#[vb]) 24)::(.grp kb (fun w9=>cP vm M w9→cf w9 vb Lb))::.blk b11 (.cells (#[va]) 24)::(.grp ka (fun w9=>cP vm M w9→cf w9 va La))::.sl vm 42 68 M.length (aK M)::.blk b6 (.cells ((au m)) 28)::.blk b5 (.cells (#[vm]) 24)::E9) _:=s
        refine ac h (iu lc aL (h.ev rfl) (bU _ _ _ _)) rfl ?_;intro f h
        exact ah ⟨_,a7 118 rfl (h.holds 118 _ rfl),rfl,s⟩
       ·intro f9 w2 vl17 E9 hs9 hd9 hl hF s
        have e114:f9.tmps.getD 114 undef=.agg (aD (ax M no).1.me (ax M no).1.pr (ax M no).2.1 (ax M no).2.2):=(aW hl 114 2 (by kernel_rfl) (by kernel_rfl)).trans (hF 2 (by decide))
        have e118:f9.tmps.getD 118 undef=.agg (au (ax M to).1.me):=(aW hl 118 6 (by kernel_rfl) (by kernel_rfl)).trans (hF 6 (by decide))
        have h:=aq [(114,.agg (aD (ax M no).1.me (ax M no).1.pr (ax M no).2.1 (ax M no).2.2)),(118,.agg (au (ax M to).1.me))] (hs9.trans h.size) (hd9.trans h.defers) (holds_lk ⟨e114,e118,trivial⟩)
        replace s:St w (.blk b16 (.cells (#[vc]) 24)::(.grp kc (fun w9=>cP vm M w9→cf w9 vc Lc))::.blk b13 (.cells (#[vb]) 24)::(.grp kb (fun w9=>cP vm M w9→cf w9 vb Lb))::.blk b11 (.cells (#[va]) 24)::(.grp ka (fun w9=>cP vm M w9→cf w9 va La))::.sl vm 42 68 M.length (aK M)::.blk b6 (.cells ((au m)) 28)::.blk b5 (.cells (#[vm]) 24)::E9) _:=s
        refine aF h s rJ (gE (ax M no).1 (ax M no).2.1 (ax M no).2.2 (ax M to).1.me _ ((kp hMr no).1.keep s.ext) ((kp hMr no).2.keep s.ext) (by omega) (by omega)) rfl rfl ?_;rintro f w1 v119 ⟨cu,cv,hv9,hS⟩ hE h sq;replace s:=s.add hS
        have h66:cu=ck 66 v119:=by rw [hv9];exact(nV (bK.of_own (hS.getSl 0 rfl))).symm
        have h67:cv=ck 67 v119:=by rw [hv9];exact(nJ (bK.of_own (hS.getSl 1 rfl))).symm
        clear hS
        subst h66;subst h67
        exact ah ⟨_,a7 119 rfl (h.holds 119 _ rfl),hv9,s⟩
       ·intro f9 w2 vl17 E9 hs9 hd9 hl hF s
        have e119:f9.tmps.getD 119 undef=.tuple #[.agg (aD (ci (ax M no).1 (ax M to).1.me).me (ci (ax M no).1 (ax M to).1.me).pr (ck 66 (vl17 7)) (ck 67 (vl17 7))),.int .i64 (de (ax M no).1 (ax M to).1.me)]:=(aW hl 119 7 (by kernel_rfl) (by kernel_rfl)).trans (hF 7 (by decide))
        have h:=aq [(119,.tuple #[.agg (aD (ci (ax M no).1 (ax M to).1.me).me (ci (ax M no).1 (ax M to).1.me).pr (ck 66 (vl17 7)) (ck 67 (vl17 7))),.int .i64 (de (ax M no).1 (ax M to).1.me)])] (hs9.trans h.size) (hd9.trans h.defers) (holds_lk ⟨e119,trivial⟩)
        replace s:St w (.blk b16 (.cells (#[vc]) 24)::(.grp kc (fun w9=>cP vm M w9→cf w9 vc Lc))::.blk b13 (.cells (#[vb]) 24)::(.grp kb (fun w9=>cP vm M w9→cf w9 vb Lb))::.blk b11 (.cells (#[va]) 24)::(.grp ka (fun w9=>cP vm M w9→cf w9 va La))::.sl vm 42 68 M.length (aK M)::.blk b6 (.cells ((au m)) 28)::.blk b5 (.cells (#[vm]) 24)::E9) _:=s
        refine ac h (ag (h.ev rfl)) rfl ?_;intro f h
        exact ah ⟨_,a7 111 rfl (h.holds 111 _ rfl),rfl,s⟩
       ·intro f9 w2 vl17 E9 hs9 hd9 hl hF s
        have e111:f9.tmps.getD 111 undef=.tuple #[.agg (aD (ci (ax M no).1 (ax M to).1.me).me (ci (ax M no).1 (ax M to).1.me).pr (ck 66 (vl17 7)) (ck 67 (vl17 7))),.int .i64 (de (ax M no).1 (ax M to).1.me)]:=(aW hl 111 8 (by kernel_rfl) (by kernel_rfl)).trans (hF 8 (by decide))
        have h:=aq [(111,.tuple #[.agg (aD (ci (ax M no).1 (ax M to).1.me).me (ci (ax M no).1 (ax M to).1.me).pr (ck 66 (vl17 7)) (ck 67 (vl17 7))),.int .i64 (de (ax M no).1 (ax M to).1.me)])] (hs9.trans h.size) (hd9.trans h.defers) (holds_lk ⟨e111,trivial⟩)
        replace s:St w (.blk b16 (.cells (#[vc]) 24)::(.grp kc (fun w9=>cP vm M w9→cf w9 vc Lc))::.blk b13 (.cells (#[vb]) 24)::(.grp kb (fun w9=>cP vm M w9→cf w9 vb Lb))::.blk b11 (.cells (#[va]) 24)::(.grp ka (fun w9=>cP vm M w9→cf w9 va La))::.sl vm 42 68 M.length (aK M)::.blk b6 (.cells ((au m)) 28)::.blk b5 (.cells (#[vm]) 24)::E9) _:=s
        refine ac h (bB (h.ev rfl) rfl) rfl ?_;intro f h
        exact ah ⟨_,a7 120 rfl (h.holds 120 _ rfl),rfl,s⟩
       ·intro f9 w2 vl17 E9 hs9 hd9 hl hF s
        have e111:f9.tmps.getD 111 undef=.tuple #[.agg (aD (ci (ax M no).1 (ax M to).1.me).me (ci (ax M no).1 (ax M to).1.me).pr (ck 66 (vl17 7)) (ck 67 (vl17 7))),.int .i64 (de (ax M no).1 (ax M to).1.me)]:=(aW hl 111 8 (by kernel_rfl) (by kernel_rfl)).trans (hF 8 (by decide))
        have h:=aq [(111,.tuple #[.agg (aD (ci (ax M no).1 (ax M to).1.me).me (ci (ax M no).1 (ax M to).1.me).pr (ck 66 (vl17 7)) (ck 67 (vl17 7))),.int .i64 (de (ax M no).1 (ax M to).1.me)])] (hs9.trans h.size) (hd9.trans h.defers) (holds_lk ⟨e111,trivial⟩)
        replace s:St w (.blk b16 (.cells (#[vc]) 24)::(.grp kc (fun w9=>cP vm M w9→cf w9 vc Lc))::.blk b13 (.cells (#[vb]) 24)::(.grp kb (fun w9=>cP vm M w9→cf w9 vb Lb))::.blk b11 (.cells (#[va]) 24)::(.grp ka (fun w9=>cP vm M w9→cf w9 va La))::.sl vm 42 68 M.length (aK M)::.blk b6 (.cells ((au m)) 28)::.blk b5 (.cells (#[vm]) 24)::E9) _:=s
        refine ac h (bB (h.ev rfl) rfl) rfl ?_;intro f h
        exact ah ⟨_,a7 121 rfl (h.holds 121 _ rfl),rfl,s⟩
       ·intro f9 w2 vl17 E9 hs9 hd9 hl hF s
        have h:=aq [] (hs9.trans h.size) (hd9.trans h.defers) (holds_lk trivial)
        replace s:St w (.blk b16 (.cells (#[vc]) 24)::(.grp kc (fun w9=>cP vm M w9→cf w9 vc Lc))::.blk b13 (.cells (#[vb]) 24)::(.grp kb (fun w9=>cP vm M w9→cf w9 vb Lb))::.blk b11 (.cells (#[va]) 24)::(.grp ka (fun w9=>cP vm M w9→cf w9 va La))::.sl vm 42 68 M.length (aK M)::.blk b6 (.cells ((au m)) 28)::.blk b5 (.cells (#[vm]) 24)::E9) _:=s
        refine ba (aD a8 a8 bo bo) h s dH rfl rfl ?_;intro f w1 b18 h s
        exact ah ⟨_,a7 18 rfl (h.holds 18 _ rfl),⟨_,rfl⟩,s⟩
       ·intro f9 w2 vl17 E9 hs9 hd9 hl hF s
        obtain ⟨b18,hb18⟩:∃ b,vl17 11=.pointer (some ⟨b,0,none⟩):=hF 11 (by decide)
        have e18:f9.tmps.getD 18 undef=.pointer (some ⟨b18,0,none⟩):=(aW hl 18 11 (by kernel_rfl) (by kernel_rfl)).trans hb18
        have e120:f9.tmps.getD 120 undef=.agg (aD (ci (ax M no).1 (ax M to).1.me).me (ci (ax M no).1 (ax M to).1.me).pr (ck 66 (vl17 7)) (ck 67 (vl17 7))):=(aW hl 120 9 (by kernel_rfl) (by kernel_rfl)).trans (hF 9 (by decide))
        have h:=aq [(18,.pointer (some ⟨b18,0,none⟩)),(120,.agg (aD (ci (ax M no).1 (ax M to).1.me).me (ci (ax M no).1 (ax M to).1.me).pr (ck 66 (vl17 7)) (ck 67 (vl17 7))))] (hs9.trans h.size) (hd9.trans h.defers) (holds_lk ⟨e18,e120,trivial⟩)
        replace s:St w (.blk (np (vl17 11)) (.cells (aD a8 a8 bo bo) 42)::.blk b16 (.cells (#[vc]) 24)::(.grp kc (fun w9=>cP vm M w9→cf w9 vc Lc))::.blk b13 (.cells (#[vb]) 24)::(.grp kb (fun w9=>cP vm M w9→cf w9 vb Lb))::.blk b11 (.cells (#[va]) 24)::(.grp ka (fun w9=>cP vm M w9→cf w9 va La))::.sl vm 42 68 M.length (aK M)::.blk b6 (.cells ((au m)) 28)::.blk b5 (.cells (#[vm]) 24)::E9) _:=s
        rw [hb18] at s
        replace s:St w (.blk b18 (.cells (aD a8 a8 bo bo) 42)::.blk b16 (.cells (#[vc]) 24)::(.grp kc (fun w9=>cP vm M w9→cf w9 vc Lc))::.blk b13 (.cells (#[vb]) 24)::(.grp kb (fun w9=>cP vm M w9→cf w9 vb Lb))::.blk b11 (.cells (#[va]) 24)::(.grp ka (fun w9=>cP vm M w9→cf w9 va La))::.sl vm 42 68 M.length (aK M)::.blk b6 (.cells ((au m)) 28)::.blk b5 (.cells (#[vm]) 24)::E9) _:=s
        refine ay 0 h s bS rfl rfl rfl (aA _ _ _ _) (aA _ _ _ _) (bW (fO _ _) (fO _ _)) ?_;intro w1 s
        refine ah ⟨undef,im rfl,trivial,?_⟩
        have z:=s
        rw [← show np (vl17 11)=b18 from by rw [hb18];rfl] at z
        exact z
       ·intro f9 w2 vl17 E9 hs9 hd9 hl hF s
        have e121:f9.tmps.getD 121 undef=.int .i64 (de (ax M no).1 (ax M to).1.me):=(aW hl 121 10 (by kernel_rfl) (by kernel_rfl)).trans (hF 10 (by decide))
        have h:=aq [(121,.int .i64 (de (ax M no).1 (ax M to).1.me))] (hs9.trans h.size) (hd9.trans h.defers) (holds_lk ⟨e121,trivial⟩)
        replace s:St w (.blk b16 (.cells (#[vc]) 24)::(.grp kc (fun w9=>cP vm M w9→cf w9 vc Lc))::.blk b13 (.cells (#[vb]) 24)::(.grp kb (fun w9=>cP vm M w9→cf w9 vb Lb))::.blk b11 (.cells (#[va]) 24)::(.grp ka (fun w9=>cP vm M w9→cf w9 va La))::.sl vm 42 68 M.length (aK M)::.blk b6 (.cells ((au m)) 28)::.blk b5 (.cells (#[vm]) 24)::E9) _:=s
        refine ac h (ai (h.ev rfl)) rfl ?_;intro f h
        exact ah ⟨_,a7 19 rfl (h.holds 19 _ rfl),rfl,s⟩
       intro f w1 vl17 hs9 hd9 hv hr hF s
       obtain ⟨b18,hb18⟩:∃ b,vl17 11=.pointer (some ⟨b,0,none⟩):=hF 11 (by kernel_rfl)
       replace h:=kM (ops:=_) [(112,.agg (#[vm])),(113,.int .i64 no),(114,.agg (aD (ax M no).1.me (ax M no).1.pr (ax M no).2.1 (ax M no).2.2)),(115,.agg (#[vm])),(116,.int .i64 to),(117,.agg (aD (ax M to).1.me (ax M to).1.pr (ax M to).2.1 (ax M to).2.2)),(118,.agg (au (ax M to).1.me)),(119,.tuple #[.agg (aD (ci (ax M no).1 (ax M to).1.me).me (ci (ax M no).1 (ax M to).1.me).pr (ck 66 (vl17 7)) (ck 67 (vl17 7))),.int .i64 (de (ax M no).1 (ax M to).1.me)]),(111,.tuple #[.agg (aD (ci (ax M no).1 (ax M to).1.me).me (ci (ax M no).1 (ax M to).1.me).pr (ck 66 (vl17 7)) (ck 67 (vl17 7))),.int .i64 (de (ax M no).1 (ax M to).1.me)]),(120,.agg (aD (ci (ax M no).1 (ax M to).1.me).me (ci (ax M no).1 (ax M to).1.me).pr (ck 66 (vl17 7)) (ck 67 (vl17 7)))),(121,.int .i64 (de (ax M no).1 (ax M to).1.me)),(18,.pointer (some ⟨b18,0,none⟩)),(19,.int .i64 (de (ax M no).1 (ax M to).1.me))] h hs9 hd9 hr ⟨(hv 0 112 rfl).trans (hF 0 (by kernel_rfl)),(hv 1 113 rfl).trans (hF 1 (by kernel_rfl)),(hv 2 114 rfl).trans (hF 2 (by kernel_rfl)),(hv 3 115 rfl).trans (hF 3 (by kernel_rfl)),(hv 4 116 rfl).trans (hF 4 (by kernel_rfl)),(hv 5 117 rfl).trans (hF 5 (by kernel_rfl)),(hv 6 118 rfl).trans (hF 6 (by kernel_rfl)),(hv 7 119 rfl).trans (hF 7 (by kernel_rfl)),(hv 8 111 rfl).trans (hF 8 (by kernel_rfl)),(hv 9 120 rfl).trans (hF 9 (by kernel_rfl)),(hv 10 121 rfl).trans (hF 10 (by kernel_rfl)),(hv 11 18 rfl).trans hb18,(hv 13 19 rfl).trans (hF 13 (by kernel_rfl)),trivial⟩ (by kernel_rfl)
       replace s:St w [.sl (ck 66 (vl17 7)) 28 33 (ci (ax M no).1 (ax M to).1.me).sc.length (av (ci (ax M no).1 (ax M to).1.me).sc),.sl (ck 67 (vl17 7)) 28 33 (ci (ax M no).1 (ax M to).1.me).fg.length (av (ci (ax M no).1 (ax M to).1.me).fg),.blk (np (vl17 11)) (.cells (aD (ci (ax M no).1 (ax M to).1.me).me (ci (ax M no).1 (ax M to).1.me).pr (ck 66 (vl17 7)) (ck 67 (vl17 7))) 42),.blk b16 (.cells (#[vc]) 24),(.grp kc (fun w9=>cP vm M w9→cf w9 vc Lc)),.blk b13 (.cells (#[vb]) 24),(.grp kb (fun w9=>cP vm M w9→cf w9 vb Lb)),.blk b11 (.cells (#[va]) 24),(.grp ka (fun w9=>cP vm M w9→cf w9 va La)),.sl vm 42 68 M.length (aK M),.blk b6 (.cells ((au m)) 28),.blk b5 (.cells (#[vm]) 24)] _:=s
       rw [hb18] at s
       replace s:St w [.sl (ck 66 (vl17 7)) 28 33 (ci (ax M no).1 (ax M to).1.me).sc.length (av (ci (ax M no).1 (ax M to).1.me).sc),.sl (ck 67 (vl17 7)) 28 33 (ci (ax M no).1 (ax M to).1.me).fg.length (av (ci (ax M no).1 (ax M to).1.me).fg),.blk b18 (.cells (aD (ci (ax M no).1 (ax M to).1.me).me (ci (ax M no).1 (ax M to).1.me).pr (ck 66 (vl17 7)) (ck 67 (vl17 7))) 42),.blk b16 (.cells (#[vc]) 24),(.grp kc (fun w9=>cP vm M w9→cf w9 vc Lc)),.blk b13 (.cells (#[vb]) 24),(.grp kb (fun w9=>cP vm M w9→cf w9 vb Lb)),.blk b11 (.cells (#[va]) 24),(.grp ka (fun w9=>cP vm M w9→cf w9 va La)),.sl vm 42 68 M.length (aK M),.blk b6 (.cells ((au m)) 28),.blk b5 (.cells (#[vm]) 24)] _:=s
       refine hK26 _ _ ?_
       refine aj fun K27 hK27=>?_
       refine aj fun K28 hK28=>?_
       cases p0:(decide ((de (ax M no).1 (ax M to).1.me)=0):Bool)
       ·skip
        refine ae ?_
        refine ac h (ag (h.ev rfl)) rfl ?_;intro f h
        refine ac h (aw (.bool true) (cO (h.ev rfl) (h.ev rfl)) (congrArg Value.bool (decide_eq_true (of_decide_eq_false p0)))) rfl ?_;intro f h
        refine ah ?_
        refine hK28 _ _ ?_
        refine wpIn_cond_true (h.ev rfl) ?_
        refine aj fun K29 hK29=>?_
        refine ae ?_
        refine ao 5 h s aU rfl rfl (rfl) rfl ?_;intro f h
        refine ac h (bM eE) rfl ?_;intro f h
        refine ac h (ag (h.ev rfl)) rfl ?_;intro f h
        refine ac h (ag (h.ev rfl)) rfl ?_;intro f h
        refine aF h s eY (aO (.bool true) (cR Lb [] vb bo (i5 M no to) (de (ax M no).1 (ax M to).1.me) _ ((s.getG 6 rfl) (⟨bK.of_own (s.getSl 9 rfl),fun y hy=>(hMr y hy).keep s.ext⟩:cf _ vm M)) hlvb (c1 _) (by decide) hbvb eg) (congrArg Value.bool (j8 (gB r0 n0 n1) (of_decide_eq_false p0) (hnvb.trans (fV (gB r0 n0 n1) (of_decide_eq_false p0)))))) rfl rfl ?_;intro f w1 v9 hT hE h s;obtain rfl:=hT
        refine ac h (ai (h.ev rfl)) rfl ?_;intro f h
        refine ah ?_
        refine hK29 _ _ ?_
        refine wpIn_ret ?_
        refine aQ ?_
        exact aX rfl h s rfl (rfl)
       ·skip
        refine ae ?_
        refine ac h (ag (h.ev rfl)) rfl ?_;intro f h
        refine ac h (aw (.bool false) (cO (h.ev rfl) (h.ev rfl)) (congrArg Value.bool (decide_eq_false (not_not_intro (of_decide_eq_true p0))))) rfl ?_;intro f h
        refine ah ?_
        refine hK28 _ _ ?_
        refine wpIn_cond_false (h.ev rfl) ?_
        refine wpIn_skip ?_
        refine hK27 _ _ ?_
        refine aj fun K30 hK30=>?_
        have hbs:=s.ext.le
        refine' eL 6 [4] [] [[],[],[],[1,2],[],[0,1,2,3,4],[0,1,2,3,4,5]] (is _::is _::is _::(ox (hU (nds M) (ci (ax M no).1 (ax M to).1.me)))::is _::is _::is undef::[]) (fun _=>True) h s (by kernel_rfl) (by kernel_rfl) (by kernel_rfl) (by kernel_rfl) rfl (fun _ _ h _=>h) (trivial) ⟨⟨_,rfl⟩,trivial⟩ ⟨az _,az _,az _,ox.mono _,az _,az _,az _,trivial⟩ (And.intro ?_ (And.intro ?_ (And.intro ?_ (And.intro ?_ (And.intro ?_ (And.intro ?_ (And.intro ?_ (trivial)))))))) ?_
        rotate_left 5
        ·refine aT 129 rfl (by decide) (by decide) ?_
         intro f9 w2 hE hs hd9 hl
         have e13:f9.tmps.getD 13 undef=_:=bX hl 13 (by kernel_rfl) (by kernel_rfl) (h.holds 13 _ rfl)
         have h:=aq [(13,_)] hs hd9 (holds_lk ⟨e13,trivial⟩)
         have s:=s.more hE
         have z:=St.start w2
         refine ao 5 h s aU rfl rfl (rfl) rfl ?_;intro f h
         refine ah ?_
         have e9:=h.holds 129 _ rfl
         refine ⟨?_,Ext.refl _,fun h9=>absurd h9 (by decide)⟩
         refine e9.trans ?_
         exact rfl
        ·refine aT 130 rfl (by decide) (by decide) ?_
         intro f9 w2 hE hs hd9 hl
         have e5:f9.tmps.getD 5 undef=_:=bX hl 5 (by kernel_rfl) (by kernel_rfl) (h.holds 5 _ rfl)
         have h:=aq [(5,_)] hs hd9 (holds_lk ⟨e5,trivial⟩)
         have s:=s.more hE
         have z:=St.start w2
         refine ao 11 h s aU rfl rfl (rfl) rfl ?_;intro f h
         refine ah ?_
         have e9:=h.holds 130 _ rfl
         refine ⟨?_,Ext.refl _,fun h9=>absurd h9 (by decide)⟩
         refine e9.trans ?_
         exact rfl
        ·refine aT 131 rfl (by decide) (by decide) ?_
         intro f9 w2 hE hs hd9 hl
         have e18:f9.tmps.getD 18 undef=_:=bX hl 18 (by kernel_rfl) (by kernel_rfl) (h.holds 18 _ rfl)
         have h:=aq [(18,_)] hs hd9 (holds_lk ⟨e18,trivial⟩)
         have s:=s.more hE
         have z:=St.start w2
         refine ao 2 h s bS rfl rfl (aA _ _ _ _) rfl ?_;intro f h
         refine ah ?_
         have e9:=h.holds 131 _ rfl
         refine ⟨?_,Ext.refl _,fun h9=>absurd h9 (by decide)⟩
         refine e9.trans ?_
         exact rfl
        ·refine aT 132 rfl (by decide) (by decide) ?_
         intro f9 w2 hE hs hd9 hl
         have e130:f9.tmps.getD 130 undef=_:=aH hl 130 1 (by kernel_rfl) (by kernel_rfl)
         have e131:f9.tmps.getD 131 undef=_:=aH hl 131 2 (by kernel_rfl) (by kernel_rfl)
         have h:=aq [(130,_),(131,_)] hs hd9 (holds_lk ⟨e130,e131,trivial⟩)
         have s:=s.more hE
         have z:=St.start w2
         refine aF h s pc (gZ M vm ((ci (ax M no).1 (ax M to).1.me),(ck 66 (vl17 7)),(ck 67 (vl17 7))) _ (⟨bK.of_own (s.getSl 9 rfl),fun y hy=>(hMr y hy).keep s.ext⟩:cf _ vm M) hM40 ⟨bK.of_own (s.getSl 0 rfl),bK.of_own (s.getSl 1 rfl)⟩) rfl rfl ?_;intro f w3 v3 hT9 hE3 h s
         refine ah ?_
         exact ⟨by rw [h.holds 132 _ rfl];exact hT9.d (jc M ((ci (ax M no).1 (ax M to).1.me),(ck 66 (vl17 7)),(ck 67 (vl17 7)))) (lF (fun y hy=>(hMr y hy).keep s.ext) ⟨bK.of_own (s.getSl 0 rfl),bK.of_own (s.getSl 1 rfl)⟩),hE3,fun h9=>absurd h9 (by decide)⟩
        ·refine cZ 133 rfl (by decide) ?_
         intro f9 w2 hE hs hl
         have e14:f9.tmps.getD 14 undef=_:=bX hl 14 (by kernel_rfl) (by kernel_rfl) (h.holds 14 _ rfl)
         have h:=aq [(14,_)] hs rfl (holds_lk ⟨e14,trivial⟩)
         refine ac h (ag (h.ev rfl)) rfl ?_;intro f h
         refine ah ?_
         have e9:=h.holds 133 _ rfl
         refine ⟨?_,rfl⟩
         refine e9.trans ?_
         exact rfl
        ·refine aT 134 rfl (by decide) (by decide) ?_
         intro f9 w2 hE hs hd9 hl
         have e129:f9.tmps.getD 129 undef=_:=aH hl 129 0 (by kernel_rfl) (by kernel_rfl)
         obtain ⟨u132,hu132⟩:∃ v,f9.tmps.getD 132 undef=v:=⟨_,rfl⟩
         have e132:(ox (hU (nds M) (ci (ax M no).1 (ax M to).1.me))) u132 w2:=by rw [← hu132];exact aH hl 132 3 (by kernel_rfl) (by kernel_rfl)
         have e133:f9.tmps.getD 133 undef=_:=aH hl 133 4 (by kernel_rfl) (by kernel_rfl)
         have h:=aq [(129,_),(132,u132),(133,_)] hs hd9 (holds_lk ⟨e129,hu132,e133,trivial⟩)
         have s:=s.more hE
         have z:=St.start w2
         obtain ⟨vq,Lq,rfl,hnq,hRq⟩:=e132
         have hlq:=((iR ((gB r0 n0 n1).trans (of_decide_eq_true p0)))▸kN M no to).l hnq
         have hbq:=((iR ((gB r0 n0 n1).trans (of_decide_eq_true p0)))▸kN M no to).r hnq
         refine aF h s eY (aO (.bool true) (cR Lb Lq vb vq (i5 M no to) 0 _ ((s.getG 6 rfl) (⟨bK.of_own (s.getSl 9 rfl),fun y hy=>(hMr y hy).keep s.ext⟩:cf _ vm M)) hlvb hRq hlq hbvb hbq) (congrArg Value.bool (zD ((gB r0 n0 n1).trans (of_decide_eq_true p0)) (hnvb.trans ((iR ((gB r0 n0 n1).trans (of_decide_eq_true p0))).trans hnq.symm))))) rfl rfl ?_;intro f w3 v3 hT9 hE3 h s
         refine ah ?_
         exact ⟨by rw [h.holds 134 _ rfl];exact hT9,hE3,fun h9=>absurd h9 (by decide)⟩
        ·exact cr (by decide) (by decide)
        ·intro f9 w2 hE hs hd9 hWp hT hR hFr hDj
         obtain ⟨u132,hu132⟩:∃ v,f9.tmps.getD 132 undef=v:=⟨_,rfl⟩
         have e132:(ox (hU (nds M) (ci (ax M no).1 (ax M to).1.me))) u132 w2:=by rw [← hu132];exact hT 3 132 (by decide) rfl
         replace h:=sl_new (ops:=_) [(129,_),(130,_),(131,_),(132,u132),(133,_),(134,_)] h hs hd9 hR ⟨hT 0 129 (by decide) rfl,hT 1 130 (by decide) rfl,hT 2 131 (by decide) rfl,hu132,hT 4 133 (by decide) rfl,hT 5 134 (by decide) rfl,trivial⟩ (by kernel_rfl)
         replace s:=s.more hE
         clear hT hR hFr hDj
         refine eD.of ?_
         refine ac h (ai (h.ev rfl)) rfl ?_;intro f h
         refine ah ?_
         refine hK30 _ _ ?_
         refine wpIn_ret ?_
         exact aX rfl h s rfl (rfl)
    ·skip
     refine ae ?_
     refine ac h (ag (h.ev rfl)) rfl ?_;intro f h
     refine ac h (aw (.bool false) (bg (h.ev rfl)) rfl) rfl ?_;intro f h
     refine ac h (ag (h.ev rfl)) rfl ?_;intro f h
     refine aB h rfl rfl rfl ?_
     refine ac h (al aP (h.ev rfl)) rfl ?_;intro f h
     refine aB h rfl rfl rfl ?_
     refine ar (am (bc.of_own s 5 rfl) 0 (aV _)) h bO rfl rfl ?_;intro f h
     refine aB h rfl rfl rfl ?_
     refine ac h (aw (.bool false) (bD (h.ev rfl) (h.ev rfl)) (congrArg Value.bool m0)) rfl ?_;intro f h
     refine ac h (aE (h.ev rfl) (h.ev rfl)) rfl ?_;intro f h
     refine ac h (ag (h.ev rfl)) rfl ?_;intro f h
     refine aB h rfl rfl rfl ?_
     refine ac h (al aP (h.ev rfl)) rfl ?_;intro f h
     refine aB h rfl rfl rfl ?_
     refine ar (am (bc.of_own s 5 rfl) 0 (aV _)) h bO rfl rfl ?_;intro f h
     refine aB h rfl rfl rfl ?_
     refine ac h (aw (.bool true) (cL (h.ev rfl) (h.ev rfl)) (congrArg Value.bool m1)) rfl ?_;intro f h
     refine ac h (aE (h.ev rfl) (h.ev rfl)) rfl ?_;intro f h
     refine ah ?_
     refine hK17 _ _ ?_
     refine wpIn_cond_true (h.ev rfl) ?_
     refine aj fun K31 hK31=>?_
     refine ae ?_
     refine ao 2 h s aU rfl rfl (rfl) rfl ?_;intro f h
     refine ac h (bM eE) rfl ?_;intro f h
     refine ac h (ag (h.ev rfl)) rfl ?_;intro f h
     refine aF h s eY (aO (.bool true) (cR La [] va bo (vL M m sc9) 1 _ ((s.getG 3 rfl) (⟨bK.of_own (s.getSl 4 rfl),fun y hy=>(hMr y hy).keep s.ext⟩:cf _ vm M)) hlva (c1 _) (by decide) hbva eg) (congrArg Value.bool (j8 (fY (xM m1)).1 (by decide) (hnva.trans (fY (xM m1)).2)))) rfl rfl ?_;intro f w1 v9 hT hE h s;obtain rfl:=hT
     refine ac h (aw (.bool false) (bg (h.ev rfl)) rfl) rfl ?_;intro f h
     refine ah ?_
     refine hK31 _ _ ?_
     refine wpIn_cond_false (h.ev rfl) ?_
     refine wpIn_skip ?_
     refine hK16 _ _ ?_
     refine aj fun K32 hK32=>?_
     refine aj fun K33 hK33=>?_
     refine ae ?_
     refine ac h (ag (h.ev rfl)) rfl ?_;intro f h
     refine ac h (aw (.bool false) (bg (h.ev rfl)) rfl) rfl ?_;intro f h
     refine ah ?_
     refine hK33 _ _ ?_
     refine wpIn_cond_false (h.ev rfl) ?_
     refine wpIn_skip ?_
     refine hK32 _ _ ?_
     refine aj fun K34 hK34=>?_
     refine aj fun K35 hK35=>?_
     cases n0:(cw (aN M) no:Bool)
     ·skip
      refine ae ?_
      refine ao 6 h s aU rfl rfl (rfl) rfl ?_;intro f h
      refine ac h (ag (h.ev rfl)) rfl ?_;intro f h
      refine aF h s eT (aO (.bool false) (cS M vm no _ (⟨bK.of_own (s.getSl 4 rfl),fun y hy=>(hMr y hy).keep s.ext⟩:cf _ vm M) hM40) (congrArg Value.bool n0)) rfl rfl ?_;intro f w1 v9 hT hE h s;obtain rfl:=hT
      refine ac h (aw (.bool true) (bg (h.ev rfl)) rfl) rfl ?_;intro f h
      refine ac h (ag (h.ev rfl)) rfl ?_;intro f h
      refine aC (b:=false) h rfl rfl rfl rfl ?_;intro f h
      refine aC (b:=false) h rfl rfl rfl rfl ?_;intro f h
      refine aC (b:=false) h rfl rfl rfl rfl ?_;intro f h
      refine aC (b:=false) h rfl rfl rfl rfl ?_;intro f h
      refine ac h (aJ (h.ev rfl) (h.ev rfl)) rfl ?_;intro f h
      refine ah ?_
      refine hK35 _ _ ?_
      refine wpIn_cond_true (h.ev rfl) ?_
      refine aj fun K36 hK36=>?_
      refine ae ?_
      refine ao 0 h s aU rfl rfl (rfl) rfl ?_;intro f h
      refine ac h (bM eE) rfl ?_;intro f h
      refine ac h (ag (h.ev rfl)) rfl ?_;intro f h
      refine aF h s eY (aO (.bool true) (cR Lb [] vb bo (i5 M no to) 10 _ ((s.getG 1 rfl) (⟨bK.of_own (s.getSl 4 rfl),fun y hy=>(hMr y hy).keep s.ext⟩:cf _ vm M)) hlvb (c1 _) (by decide) hbvb eg) (congrArg Value.bool (j8 (kG r0 n0) (by decide) (hnvb.trans (fV (kG r0 n0) (by decide)))))) rfl rfl ?_;intro f w1 v9 hT hE h s;obtain rfl:=hT
      refine ac h (ai (h.ev rfl)) rfl ?_;intro f h
      refine ah ?_
      refine hK36 _ _ ?_
      refine wpIn_ret ?_
      refine aQ ?_
      exact aX rfl h s rfl (rfl)
     ·skip
      cases n1:(cw (aN M) to:Bool)
      ·skip
       refine ae ?_
       refine ao 6 h s aU rfl rfl (rfl) rfl ?_;intro f h
       refine ac h (ag (h.ev rfl)) rfl ?_;intro f h
       refine aF h s eT (aO (.bool true) (cS M vm no _ (⟨bK.of_own (s.getSl 4 rfl),fun y hy=>(hMr y hy).keep s.ext⟩:cf _ vm M) hM40) (congrArg Value.bool n0)) rfl rfl ?_;intro f w1 v9 hT hE h s;obtain rfl:=hT
       refine ac h (aw (.bool false) (bg (h.ev rfl)) rfl) rfl ?_;intro f h
       refine ac h (ag (h.ev rfl)) rfl ?_;intro f h
       refine aB h rfl rfl rfl ?_
       refine ao 6 h s aU rfl rfl (rfl) rfl ?_;intro f h
       refine aB h rfl rfl rfl ?_
       refine ac h (ag (h.ev rfl)) rfl ?_;intro f h
       refine aB h rfl rfl rfl ?_
       refine aF h s eT (aO (.bool false) (cS M vm to _ (⟨bK.of_own (s.getSl 4 rfl),fun y hy=>(hMr y hy).keep s.ext⟩:cf _ vm M) hM40) (congrArg Value.bool n1)) rfl rfl ?_;intro f w1 v9 hT hE h s;obtain rfl:=hT
       refine aB h rfl rfl rfl ?_
       refine ac h (aw (.bool true) (bg (h.ev rfl)) rfl) rfl ?_;intro f h
       refine ac h (aE (h.ev rfl) (h.ev rfl)) rfl ?_;intro f h
       refine ah ?_
       refine hK35 _ _ ?_
       refine wpIn_cond_true (h.ev rfl) ?_
       refine aj fun K37 hK37=>?_
       refine ae ?_
       refine ao 0 h s aU rfl rfl (rfl) rfl ?_;intro f h
       refine ac h (bM eE) rfl ?_;intro f h
       refine ac h (ag (h.ev rfl)) rfl ?_;intro f h
       refine aF h s eY (aO (.bool true) (cR Lb [] vb bo (i5 M no to) 10 _ ((s.getG 1 rfl) (⟨bK.of_own (s.getSl 4 rfl),fun y hy=>(hMr y hy).keep s.ext⟩:cf _ vm M)) hlvb (c1 _) (by decide) hbvb eg) (congrArg Value.bool (j8 (kr r0 n1) (by decide) (hnvb.trans (fV (kr r0 n1) (by decide)))))) rfl rfl ?_;intro f w1 v9 hT hE h s;obtain rfl:=hT
       refine ac h (ai (h.ev rfl)) rfl ?_;intro f h
       refine ah ?_
       refine hK37 _ _ ?_
       refine wpIn_ret ?_
       refine aQ ?_
       exact aX rfl h s rfl (rfl)
      ·skip
       refine ae ?_
       refine ao 6 h s aU rfl rfl (rfl) rfl ?_;intro f h
       refine ac h (ag (h.ev rfl)) rfl ?_;intro f h
       refine aF h s eT (aO (.bool true) (cS M vm no _ (⟨bK.of_own (s.getSl 4 rfl),fun y hy=>(hMr y hy).keep s.ext⟩:cf _ vm M) hM40) (congrArg Value.bool n0)) rfl rfl ?_;intro f w1 v9 hT hE h s;obtain rfl:=hT
       refine ac h (aw (.bool false) (bg (h.ev rfl)) rfl) rfl ?_;intro f h
       refine ac h (ag (h.ev rfl)) rfl ?_;intro f h
       refine aB h rfl rfl rfl ?_
       refine ao 6 h s aU rfl rfl (rfl) rfl ?_;intro f h
       refine aB h rfl rfl rfl ?_
       refine ac h (ag (h.ev rfl)) rfl ?_;intro f h
       refine aB h rfl rfl rfl ?_
       refine aF h s eT (aO (.bool true) (cS M vm to _ (⟨bK.of_own (s.getSl 4 rfl),fun y hy=>(hMr y hy).keep s.ext⟩:cf _ vm M) hM40) (congrArg Value.bool n1)) rfl rfl ?_;intro f w1 v9 hT hE h s;obtain rfl:=hT
       refine aB h rfl rfl rfl ?_
       refine ac h (aw (.bool false) (bg (h.ev rfl)) rfl) rfl ?_;intro f h
       refine ac h (aE (h.ev rfl) (h.ev rfl)) rfl ?_;intro f h
       refine ah ?_
       refine hK35 _ _ ?_
       refine wpIn_cond_false (h.ev rfl) ?_
       refine wpIn_skip ?_
       refine hK34 _ _ ?_
       refine aj fun K38 hK38=>?_
       have hrs:=(ex r0).rs
       have hgb:=hMb.each _ (hrs.get n0).1
       refine i9 0 [[],[],[0,1],[],[],[0,1,2,3,4],[0,1,2,3,4,5],[0,1,2,3,4,5,6],[0,1,2,3,4,5,6,7],[0,1,2,3,4,5,6,7,8],[0,1,2,3,4,5,6,7,8],[],[0,1,2,3,4,5,6,7,8,9,11],[0,1,2,3,4,5,6,7,8,9,10,11,12]] [[],[],[],[],[],[],[],[],[],[],[],[],[11],[]] [fun _=>[],fun _=>[],fun _=>[],fun _=>[],fun _=>[],fun _=>[],fun _=>[],fun v=>[.sl (ck 66 (v 7)) 28 33 (ci (ax M no).1 (ax M to).1.me).sc.length (av (ci (ax M no).1 (ax M to).1.me).sc),.sl (ck 67 (v 7)) 28 33 (ci (ax M no).1 (ax M to).1.me).fg.length (av (ci (ax M no).1 (ax M to).1.me).fg)],fun _=>[],fun _=>[],fun _=>[],fun v=>[.blk (np (v 11)) (.cells (aD a8 a8 bo bo) 42)],fun v=>[.blk (np (v 11)) (.cells (aD (ci (ax M no).1 (ax M to).1.me).me (ci (ax M no).1 (ax M to).1.me).pr (ck 66 (v 7)) (ck 67 (v 7))) 42)],fun _=>[]] [] [fun v=>v 0=.agg (#[vm]),fun v=>v 1=.int .i64 no,fun v=>v 2=.agg (aD (ax M no).1.me (ax M no).1.pr (ax M no).2.1 (ax M no).2.2),fun v=>v 3=.agg (#[vm]),fun v=>v 4=.int .i64 to,fun v=>v 5=.agg (aD (ax M to).1.me (ax M to).1.pr (ax M to).2.1 (ax M to).2.2),fun v=>v 6=.agg (au (ax M to).1.me),fun v=>v 7=.tuple #[.agg (aD (ci (ax M no).1 (ax M to).1.me).me (ci (ax M no).1 (ax M to).1.me).pr (ck 66 (v 7)) (ck 67 (v 7))),.int .i64 (de (ax M no).1 (ax M to).1.me)],fun v=>v 8=.tuple #[.agg (aD (ci (ax M no).1 (ax M to).1.me).me (ci (ax M no).1 (ax M to).1.me).pr (ck 66 (v 7)) (ck 67 (v 7))),.int .i64 (de (ax M no).1 (ax M to).1.me)],fun v=>v 9=.agg (aD (ci (ax M no).1 (ax M to).1.me).me (ci (ax M no).1 (ax M to).1.me).pr (ck 66 (v 7)) (ck 67 (v 7))),fun v=>v 10=.int .i64 (de (ax M no).1 (ax M to).1.me),fun v=>∃ b,v 11=.pointer (some ⟨b,0,none⟩),fun _=>True,fun v=>v 13=.int .i64 (de (ax M no).1 (ax M to).1.me)] [.blk b13 (.cells (#[vb]) 24),(.grp kb (fun w9=>cP vm M w9→cf w9 vb Lb)),.blk b11 (.cells (#[va]) 24),(.grp ka (fun w9=>cP vm M w9→cf w9 va La)),.sl vm 42 68 M.length (aK M),.blk b6 (.cells ((au m)) 28),.blk b5 (.cells (#[vm]) 24)] h s rfl (by kernel_rfl) (by kernel_rfl) (by kernel_rfl) (And.intro ?_ (And.intro ?_ (And.intro ?_ (And.intro ?_ (And.intro ?_ (And.intro ?_ (And.intro ?_ (And.intro ?_ (And.intro ?_ (And.intro ?_ (And.intro ?_ (And.intro ?_ (And.intro ?_ (And.intro ?_ (trivial))))))))))))))) [0,1,2,3,4,5,6,7,8,9,10,12,13] (by kernel_rfl) ?_
       ·intro f9 w2 vl17 E9 hs9 hd9 hl hF s
        have e5:f9.tmps.getD 5 undef=_:=cD hl 5 (by kernel_rfl) (by kernel_rfl) (h.holds 5 _ rfl)
        have h:=aq [(5,_)] (hs9.trans h.size) (hd9.trans h.defers) (holds_lk ⟨e5,trivial⟩)
        replace s:St w (.blk b13 (.cells (#[vb]) 24)::(.grp kb (fun w9=>cP vm M w9→cf w9 vb Lb))::.blk b11 (.cells (#[va]) 24)::(.grp ka (fun w9=>cP vm M w9→cf w9 va La))::.sl vm 42 68 M.length (aK M)::.blk b6 (.cells ((au m)) 28)::.blk b5 (.cells (#[vm]) 24)::E9) _:=s
        refine ao 6 h s aU rfl rfl (rfl) rfl ?_;intro f h
        exact ah ⟨_,a7 112 rfl (h.holds 112 _ rfl),rfl,s⟩
       ·intro f9 w2 vl17 E9 hs9 hd9 hl hF s
        have e3:f9.tmps.getD 3 undef=_:=cD hl 3 (by kernel_rfl) (by kernel_rfl) (h.holds 3 _ rfl)
        have h:=aq [(3,_)] (hs9.trans h.size) (hd9.trans h.defers) (holds_lk ⟨e3,trivial⟩)
        replace s:St w (.blk b13 (.cells (#[vb]) 24)::(.grp kb (fun w9=>cP vm M w9→cf w9 vb Lb))::.blk b11 (.cells (#[va]) 24)::(.grp ka (fun w9=>cP vm M w9→cf w9 va La))::.sl vm 42 68 M.length (aK M)::.blk b6 (.cells ((au m)) 28)::.blk b5 (.cells (#[vm]) 24)::E9) _:=s
        refine ac h (ag (h.ev rfl)) rfl ?_;intro f h
        exact ah ⟨_,a7 113 rfl (h.holds 113 _ rfl),rfl,s⟩
       ·intro f9 w2 vl17 E9 hs9 hd9 hl hF s
        have e112:f9.tmps.getD 112 undef=.agg (#[vm]):=(aW hl 112 0 (by kernel_rfl) (by kernel_rfl)).trans (hF 0 (by decide))
        have e113:f9.tmps.getD 113 undef=.int .i64 no:=(aW hl 113 1 (by kernel_rfl) (by kernel_rfl)).trans (hF 1 (by decide))
        have h:=aq [(112,.agg (#[vm])),(113,.int .i64 no)] (hs9.trans h.size) (hd9.trans h.defers) (holds_lk ⟨e112,e113,trivial⟩)
        replace s:St w (.blk b13 (.cells (#[vb]) 24)::(.grp kb (fun w9=>cP vm M w9→cf w9 vb Lb))::.blk b11 (.cells (#[va]) 24)::(.grp ka (fun w9=>cP vm M w9→cf w9 va La))::.sl vm 42 68 M.length (aK M)::.blk b6 (.cells ((au m)) 28)::.blk b5 (.cells (#[vm]) 24)::E9) _:=s
        refine aF h s l4 (gx M vm no _ (⟨bK.of_own (s.getSl 4 rfl),fun y hy=>(hMr y hy).keep s.ext⟩:cf _ vm M) hM40) rfl rfl ?_;intro f w1 v9 hT hE h s;obtain rfl:=hT
        exact ah ⟨_,a7 114 rfl (h.holds 114 _ rfl),rfl,s⟩
       ·intro f9 w2 vl17 E9 hs9 hd9 hl hF s
        have e5:f9.tmps.getD 5 undef=_:=cD hl 5 (by kernel_rfl) (by kernel_rfl) (h.holds 5 _ rfl)
        have h:=aq [(5,_)] (hs9.trans h.size) (hd9.trans h.defers) (holds_lk ⟨e5,trivial⟩)
        replace s:St w (.blk b13 (.cells (#[vb]) 24)::(.grp kb (fun w9=>cP vm M w9→cf w9 vb Lb))::.blk b11 (.cells (#[va]) 24)::(.grp ka (fun w9=>cP vm M w9→cf w9 va La))::.sl vm 42 68 M.length (aK M)::.blk b6 (.cells ((au m)) 28)::.blk b5 (.cells (#[vm]) 24)::E9) _:=s
        refine ao 6 h s aU rfl rfl (rfl) rfl ?_;intro f h
        exact ah ⟨_,a7 115 rfl (h.holds 115 _ rfl),rfl,s⟩
       ·intro f9 w2 vl17 E9 hs9 hd9 hl hF s
        have e4:f9.tmps.getD 4 undef=_:=cD hl 4 (by kernel_rfl) (by kernel_rfl) (h.holds 4 _ rfl)
        have h:=aq [(4,_)] (hs9.trans h.size) (hd9.trans h.defers) (holds_lk ⟨e4,trivial⟩)
        replace s:St w (.blk b13 (.cells (#[vb]) 24)::(.grp kb (fun w9=>cP vm M w9→cf w9 vb Lb))::.blk b11 (.cells (#[va]) 24)::(.grp ka (fun w9=>cP vm M w9→cf w9 va La))::.sl vm 42 68 M.length (aK M)::.blk b6 (.cells ((au m)) 28)::.blk b5 (.cells (#[vm]) 24)::E9) _:=s
        refine ac h (ag (h.ev rfl)) rfl ?_;intro f h
        exact ah ⟨_,a7 116 rfl (h.holds 116 _ rfl),rfl,s⟩
       ·intro f9 w2 vl17 E9 hs9 hd9 hl hF s
        have e115:f9.tmps.getD 115 undef=.agg (#[vm]):=(aW hl 115 3 (by kernel_rfl) (by kernel_rfl)).trans (hF 3 (by decide))
        have e116:f9.tmps.getD 116 undef=.int .i64 to:=(aW hl 116 4 (by kernel_rfl) (by kernel_rfl)).trans (hF 4 (by decide))
        have h:=aq [(115,.agg (#[vm])),(116,.int .i64 to)] (hs9.trans h.size) (hd9.trans h.defers) (holds_lk ⟨e115,e116,trivial⟩)
        replace s:St w (.blk b13 (.cells (#[vb]) 24)::(.grp kb (fun w9=>cP vm M w9→cf w9 vb Lb))::.blk b11 (.cells (#[va]) 24)::(.grp ka (fun w9=>cP vm M w9→cf w9 va La))::.sl vm 42 68 M.length (aK M)::.blk b6 (.cells ((au m)) 28)::.blk b5 (.cells (#[vm]) 24)::E9) _:=s
        refine aF h s l4 (gx M vm to _ (⟨bK.of_own (s.getSl 4 rfl),fun y hy=>(hMr y hy).keep s.ext⟩:cf _ vm M) hM40) rfl rfl ?_;intro f w1 v9 hT hE h s;obtain rfl:=hT
        exact ah ⟨_,a7 117 rfl (h.holds 117 _ rfl),rfl,s⟩
       ·intro f9 w2 vl17 E9 hs9 hd9 hl hF s
        have e117:f9.tmps.getD 117 undef=.agg (aD (ax M to).1.me (ax M to).1.pr (ax M to).2.1 (ax M to).2.2):=(aW hl 117 5 (by kernel_rfl) (by kernel_rfl)).trans (hF 5 (by decide))
        have h:=aq [(117,.agg (aD (ax M to).1.me (ax M to).1.pr (ax M to).2.1 (ax M to).2.2))] (hs9.trans h.size) (hd9.trans h.defers) (holds_lk ⟨e117,trivial⟩)
        replace s:St w (.blk b13 (.cells (#[vb]) 24)::(.grp kb (fun w9=>cP vm M w9→cf w9 vb Lb))::.blk b11 (.cells (#[va]) 24)::(.grp ka (fun w9=>cP vm M w9→cf w9 va La))::.sl vm 42 68 M.length (aK M)::.blk b6 (.cells ((au m)) 28)::.blk b5 (.cells (#[vm]) 24)::E9) _:=s
        refine ac h (iu lc aL (h.ev rfl) (bU _ _ _ _)) rfl ?_;intro f h
        exact ah ⟨_,a7 118 rfl (h.holds 118 _ rfl),rfl,s⟩
       ·intro f9 w2 vl17 E9 hs9 hd9 hl hF s
        have e114:f9.tmps.getD 114 undef=.agg (aD (ax M no).1.me (ax M no).1.pr (ax M no).2.1 (ax M no).2.2):=(aW hl 114 2 (by kernel_rfl) (by kernel_rfl)).trans (hF 2 (by decide))
        have e118:f9.tmps.getD 118 undef=.agg (au (ax M to).1.me):=(aW hl 118 6 (by kernel_rfl) (by kernel_rfl)).trans (hF 6 (by decide))
        have h:=aq [(114,.agg (aD (ax M no).1.me (ax M no).1.pr (ax M no).2.1 (ax M no).2.2)),(118,.agg (au (ax M to).1.me))] (hs9.trans h.size) (hd9.trans h.defers) (holds_lk ⟨e114,e118,trivial⟩)
        replace s:St w (.blk b13 (.cells (#[vb]) 24)::(.grp kb (fun w9=>cP vm M w9→cf w9 vb Lb))::.blk b11 (.cells (#[va]) 24)::(.grp ka (fun w9=>cP vm M w9→cf w9 va La))::.sl vm 42 68 M.length (aK M)::.blk b6 (.cells ((au m)) 28)::.blk b5 (.cells (#[vm]) 24)::E9) _:=s
        refine aF h s rJ (gE (ax M no).1 (ax M no).2.1 (ax M no).2.2 (ax M to).1.me _ ((kp hMr no).1.keep s.ext) ((kp hMr no).2.keep s.ext) (by omega) (by omega)) rfl rfl ?_;rintro f w1 v119 ⟨cu,cv,hv9,hS⟩ hE h sq;replace s:=s.add hS
        have h66:cu=ck 66 v119:=by rw [hv9];exact(nV (bK.of_own (hS.getSl 0 rfl))).symm
        have h67:cv=ck 67 v119:=by rw [hv9];exact(nJ (bK.of_own (hS.getSl 1 rfl))).symm
        clear hS
        subst h66;subst h67
        exact ah ⟨_,a7 119 rfl (h.holds 119 _ rfl),hv9,s⟩
       ·intro f9 w2 vl17 E9 hs9 hd9 hl hF s
        have e119:f9.tmps.getD 119 undef=.tuple #[.agg (aD (ci (ax M no).1 (ax M to).1.me).me (ci (ax M no).1 (ax M to).1.me).pr (ck 66 (vl17 7)) (ck 67 (vl17 7))),.int .i64 (de (ax M no).1 (ax M to).1.me)]:=(aW hl 119 7 (by kernel_rfl) (by kernel_rfl)).trans (hF 7 (by decide))
        have h:=aq [(119,.tuple #[.agg (aD (ci (ax M no).1 (ax M to).1.me).me (ci (ax M no).1 (ax M to).1.me).pr (ck 66 (vl17 7)) (ck 67 (vl17 7))),.int .i64 (de (ax M no).1 (ax M to).1.me)])] (hs9.trans h.size) (hd9.trans h.defers) (holds_lk ⟨e119,trivial⟩)
        replace s:St w (.blk b13 (.cells (#[vb]) 24)::(.grp kb (fun w9=>cP vm M w9→cf w9 vb Lb))::.blk b11 (.cells (#[va]) 24)::(.grp ka (fun w9=>cP vm M w9→cf w9 va La))::.sl vm 42 68 M.length (aK M)::.blk b6 (.cells ((au m)) 28)::.blk b5 (.cells (#[vm]) 24)::E9) _:=s
        refine ac h (ag (h.ev rfl)) rfl ?_;intro f h
        exact ah ⟨_,a7 111 rfl (h.holds 111 _ rfl),rfl,s⟩
       ·intro f9 w2 vl17 E9 hs9 hd9 hl hF s
        have e111:f9.tmps.getD 111 undef=.tuple #[.agg (aD (ci (ax M no).1 (ax M to).1.me).me (ci (ax M no).1 (ax M to).1.me).pr (ck 66 (vl17 7)) (ck 67 (vl17 7))),.int .i64 (de (ax M no).1 (ax M to).1.me)]:=(aW hl 111 8 (by kernel_rfl) (by kernel_rfl)).trans (hF 8 (by decide))
        have h:=aq [(111,.tuple #[.agg (aD (ci (ax M no).1 (ax M to).1.me).me (ci (ax M no).1 (ax M to).1.me).pr (ck 66 (vl17 7)) (ck 67 (vl17 7))),.int .i64 (de (ax M no).1 (ax M to).1.me)])] (hs9.trans h.size) (hd9.trans h.defers) (holds_lk ⟨e111,trivial⟩)
        replace s:St w (.blk b13 (.cells (#[vb]) 24)::(.grp kb (fun w9=>cP vm M w9→cf w9 vb Lb))::.blk b11 (.cells (#[va]) 24)::(.grp ka (fun w9=>cP vm M w9→cf w9 va La))::.sl vm 42 68 M.length (aK M)::.blk b6 (.cells ((au m)) 28)::.blk b5 (.cells (#[vm]) 24)::E9) _:=s
        refine ac h (bB (h.ev rfl) rfl) rfl ?_;intro f h
        exact ah ⟨_,a7 120 rfl (h.holds 120 _ rfl),rfl,s⟩
       ·intro f9 w2 vl17 E9 hs9 hd9 hl hF s
        have e111:f9.tmps.getD 111 undef=.tuple #[.agg (aD (ci (ax M no).1 (ax M to).1.me).me (ci (ax M no).1 (ax M to).1.me).pr (ck 66 (vl17 7)) (ck 67 (vl17 7))),.int .i64 (de (ax M no).1 (ax M to).1.me)]:=(aW hl 111 8 (by kernel_rfl) (by kernel_rfl)).trans (hF 8 (by decide))
        have h:=aq [(111,.tuple #[.agg (aD (ci (ax M no).1 (ax M to).1.me).me (ci (ax M no).1 (ax M to).1.me).pr (ck 66 (vl17 7)) (ck 67 (vl17 7))),.int .i64 (de (ax M no).1 (ax M to).1.me)])] (hs9.trans h.size) (hd9.trans h.defers) (holds_lk ⟨e111,trivial⟩)
        replace s:St w (.blk b13 (.cells (#[vb]) 24)::(.grp kb (fun w9=>cP vm M w9→cf w9 vb Lb))::.blk b11 (.cells (#[va]) 24)::(.grp ka (fun w9=>cP vm M w9→cf w9 va La))::.sl vm 42 68 M.length (aK M)::.blk b6 (.cells ((au m)) 28)::.blk b5 (.cells (#[vm]) 24)::E9) _:=s
        refine ac h (bB (h.ev rfl) rfl) rfl ?_;intro f h
        exact ah ⟨_,a7 121 rfl (h.holds 121 _ rfl),rfl,s⟩
       ·intro f9 w2 vl17 E9 hs9 hd9 hl hF s
        have h:=aq [] (hs9.trans h.size) (hd9.trans h.defers) (holds_lk trivial)
        replace s:St w (.blk b13 (.cells (#[vb]) 24)::(.grp kb (fun w9=>cP vm M w9→cf w9 vb Lb))::.blk b11 (.cells (#[va]) 24)::(.grp ka (fun w9=>cP vm M w9→cf w9 va La))::.sl vm 42 68 M.length (aK M)::.blk b6 (.cells ((au m)) 28)::.blk b5 (.cells (#[vm]) 24)::E9) _:=s
        refine ba (aD a8 a8 bo bo) h s dH rfl rfl ?_;intro f w1 b18 h s
        exact ah ⟨_,a7 18 rfl (h.holds 18 _ rfl),⟨_,rfl⟩,s⟩
       ·intro f9 w2 vl17 E9 hs9 hd9 hl hF s
        obtain ⟨b18,hb18⟩:∃ b,vl17 11=.pointer (some ⟨b,0,none⟩):=hF 11 (by decide)
        have e18:f9.tmps.getD 18 undef=.pointer (some ⟨b18,0,none⟩):=(aW hl 18 11 (by kernel_rfl) (by kernel_rfl)).trans hb18
        have e120:f9.tmps.getD 120 undef=.agg (aD (ci (ax M no).1 (ax M to).1.me).me (ci (ax M no).1 (ax M to).1.me).pr (ck 66 (vl17 7)) (ck 67 (vl17 7))):=(aW hl 120 9 (by kernel_rfl) (by kernel_rfl)).trans (hF 9 (by decide))
        have h:=aq [(18,.pointer (some ⟨b18,0,none⟩)),(120,.agg (aD (ci (ax M no).1 (ax M to).1.me).me (ci (ax M no).1 (ax M to).1.me).pr (ck 66 (vl17 7)) (ck 67 (vl17 7))))] (hs9.trans h.size) (hd9.trans h.defers) (holds_lk ⟨e18,e120,trivial⟩)
        replace s:St w (.blk (np (vl17 11)) (.cells (aD a8 a8 bo bo) 42)::.blk b13 (.cells (#[vb]) 24)::(.grp kb (fun w9=>cP vm M w9→cf w9 vb Lb))::.blk b11 (.cells (#[va]) 24)::(.grp ka (fun w9=>cP vm M w9→cf w9 va La))::.sl vm 42 68 M.length (aK M)::.blk b6 (.cells ((au m)) 28)::.blk b5 (.cells (#[vm]) 24)::E9) _:=s
        rw [hb18] at s
        replace s:St w (.blk b18 (.cells (aD a8 a8 bo bo) 42)::.blk b13 (.cells (#[vb]) 24)::(.grp kb (fun w9=>cP vm M w9→cf w9 vb Lb))::.blk b11 (.cells (#[va]) 24)::(.grp ka (fun w9=>cP vm M w9→cf w9 va La))::.sl vm 42 68 M.length (aK M)::.blk b6 (.cells ((au m)) 28)::.blk b5 (.cells (#[vm]) 24)::E9) _:=s
        refine ay 0 h s bS rfl rfl rfl (aA _ _ _ _) (aA _ _ _ _) (bW (fO _ _) (fO _ _)) ?_;intro w1 s
        refine ah ⟨undef,im rfl,trivial,?_⟩
        have z:=s
        rw [← show np (vl17 11)=b18 from by rw [hb18];rfl] at z
        exact z
       ·intro f9 w2 vl17 E9 hs9 hd9 hl hF s
        have e121:f9.tmps.getD 121 undef=.int .i64 (de (ax M no).1 (ax M to).1.me):=(aW hl 121 10 (by kernel_rfl) (by kernel_rfl)).trans (hF 10 (by decide))
        have h:=aq [(121,.int .i64 (de (ax M no).1 (ax M to).1.me))] (hs9.trans h.size) (hd9.trans h.defers) (holds_lk ⟨e121,trivial⟩)
        replace s:St w (.blk b13 (.cells (#[vb]) 24)::(.grp kb (fun w9=>cP vm M w9→cf w9 vb Lb))::.blk b11 (.cells (#[va]) 24)::(.grp ka (fun w9=>cP vm M w9→cf w9 va La))::.sl vm 42 68 M.length (aK M)::.blk b6 (.cells ((au m)) 28)::.blk b5 (.cells (#[vm]) 24)::E9) _:=s
        refine ac h (ai (h.ev rfl)) rfl ?_;intro f h
        exact ah ⟨_,a7 19 rfl (h.holds 19 _ rfl),rfl,s⟩
       intro f w1 vl17 hs9 hd9 hv hr hF s
       obtain ⟨b18,hb18⟩:∃ b,vl17 11=.pointer (some ⟨b,0,none⟩):=hF 11 (by kernel_rfl)
       replace h:=kM (ops:=_) [(112,.agg (#[vm])),(113,.int .i64 no),(114,.agg (aD (ax M no).1.me (ax M no).1.pr (ax M no).2.1 (ax M no).2.2)),(115,.agg (#[vm])),(116,.int .i64 to),(117,.agg (aD (ax M to).1.me (ax M to).1.pr (ax M to).2.1 (ax M to).2.2)),(118,.agg (au (ax M to).1.me)),(119,.tuple #[.agg (aD (ci (ax M no).1 (ax M to).1.me).me (ci (ax M no).1 (ax M to).1.me).pr (ck 66 (vl17 7)) (ck 67 (vl17 7))),.int .i64 (de (ax M no).1 (ax M to).1.me)]),(111,.tuple #[.agg (aD (ci (ax M no).1 (ax M to).1.me).me (ci (ax M no).1 (ax M to).1.me).pr (ck 66 (vl17 7)) (ck 67 (vl17 7))),.int .i64 (de (ax M no).1 (ax M to).1.me)]),(120,.agg (aD (ci (ax M no).1 (ax M to).1.me).me (ci (ax M no).1 (ax M to).1.me).pr (ck 66 (vl17 7)) (ck 67 (vl17 7)))),(121,.int .i64 (de (ax M no).1 (ax M to).1.me)),(18,.pointer (some ⟨b18,0,none⟩)),(19,.int .i64 (de (ax M no).1 (ax M to).1.me))] h hs9 hd9 hr ⟨(hv 0 112 rfl).trans (hF 0 (by kernel_rfl)),(hv 1 113 rfl).trans (hF 1 (by kernel_rfl)),(hv 2 114 rfl).trans (hF 2 (by kernel_rfl)),(hv 3 115 rfl).trans (hF 3 (by kernel_rfl)),(hv 4 116 rfl).trans (hF 4 (by kernel_rfl)),(hv 5 117 rfl).trans (hF 5 (by kernel_rfl)),(hv 6 118 rfl).trans (hF 6 (by kernel_rfl)),(hv 7 119 rfl).trans (hF 7 (by kernel_rfl)),(hv 8 111 rfl).trans (hF 8 (by kernel_rfl)),(hv 9 120 rfl).trans (hF 9 (by kernel_rfl)),(hv 10 121 rfl).trans (hF 10 (by kernel_rfl)),(hv 11 18 rfl).trans hb18,(hv 13 19 rfl).trans (hF 13 (by kernel_rfl)),trivial⟩ (by kernel_rfl)
       replace s:St w [.sl (ck 66 (vl17 7)) 28 33 (ci (ax M no).1 (ax M to).1.me).sc.length (av (ci (ax M no).1 (ax M to).1.me).sc),.sl (ck 67 (vl17 7)) 28 33 (ci (ax M no).1 (ax M to).1.me).fg.length (av (ci (ax M no).1 (ax M to).1.me).fg),.blk (np (vl17 11)) (.cells (aD (ci (ax M no).1 (ax M to).1.me).me (ci (ax M no).1 (ax M to).1.me).pr (ck 66 (vl17 7)) (ck 67 (vl17 7))) 42),.blk b13 (.cells (#[vb]) 24),(.grp kb (fun w9=>cP vm M w9→cf w9 vb Lb)),.blk b11 (.cells (#[va]) 24),(.grp ka (fun w9=>cP vm M w9→cf w9 va La)),.sl vm 42 68 M.length (aK M),.blk b6 (.cells ((au m)) 28),.blk b5 (.cells (#[vm]) 24)] _:=s
       rw [hb18] at s
       replace s:St w [.sl (ck 66 (vl17 7)) 28 33 (ci (ax M no).1 (ax M to).1.me).sc.length (av (ci (ax M no).1 (ax M to).1.me).sc),.sl (ck 67 (vl17 7)) 28 33 (ci (ax M no).1 (ax M to).1.me).fg.length (av (ci (ax M no).1 (ax M to).1.me).fg),.blk b18 (.cells (aD (ci (ax M no).1 (ax M to).1.me).me (ci (ax M no).1 (ax M to).1.me).pr (ck 66 (vl17 7)) (ck 67 (vl17 7))) 42),.blk b13 (.cells (#[vb]) 24),(.grp kb (fun w9=>cP vm M w9→cf w9 vb Lb)),.blk b11 (.cells (#[va]) 24),(.grp ka (fun w9=>cP vm M w9→cf w9 va La)),.sl vm 42 68 M.length (aK M),.blk b6 (.cells ((au m)) 28),.blk b5 (.cells (#[vm]) 24)] _:=s
       refine hK38 _ _ ?_
       refine aj fun K39 hK39=>?_
       refine aj fun K40 hK40=>?_
       cases p0:(decide ((de (ax M no).1 (ax M to).1.me)=0):Bool)
       ·skip
        refine ae ?_
        refine ac h (ag (h.ev rfl)) rfl ?_;intro f h
        refine ac h (aw (.bool true) (cO (h.ev rfl) (h.ev rfl)) (congrArg Value.bool (decide_eq_true (of_decide_eq_false p0)))) rfl ?_;intro f h
        refine ah ?_
        refine hK40 _ _ ?_
        refine wpIn_cond_true (h.ev rfl) ?_
        refine aj fun K41 hK41=>?_
        refine ae ?_
        refine ao 3 h s aU rfl rfl (rfl) rfl ?_;intro f h
        refine ac h (bM eE) rfl ?_;intro f h
        refine ac h (ag (h.ev rfl)) rfl ?_;intro f h
        refine ac h (ag (h.ev rfl)) rfl ?_;intro f h
        refine aF h s eY (aO (.bool true) (cR Lb [] vb bo (i5 M no to) (de (ax M no).1 (ax M to).1.me) _ ((s.getG 4 rfl) (⟨bK.of_own (s.getSl 7 rfl),fun y hy=>(hMr y hy).keep s.ext⟩:cf _ vm M)) hlvb (c1 _) (by decide) hbvb eg) (congrArg Value.bool (j8 (gB r0 n0 n1) (of_decide_eq_false p0) (hnvb.trans (fV (gB r0 n0 n1) (of_decide_eq_false p0)))))) rfl rfl ?_;intro f w1 v9 hT hE h s;obtain rfl:=hT
        refine ac h (ai (h.ev rfl)) rfl ?_;intro f h
        refine ah ?_
        refine hK41 _ _ ?_
        refine wpIn_ret ?_
        refine aQ ?_
        exact aX rfl h s rfl (rfl)
       ·skip
        refine ae ?_
        refine ac h (ag (h.ev rfl)) rfl ?_;intro f h
        refine ac h (aw (.bool false) (cO (h.ev rfl) (h.ev rfl)) (congrArg Value.bool (decide_eq_false (not_not_intro (of_decide_eq_true p0))))) rfl ?_;intro f h
        refine ah ?_
        refine hK40 _ _ ?_
        refine wpIn_cond_false (h.ev rfl) ?_
        refine wpIn_skip ?_
        refine hK39 _ _ ?_
        refine aj fun K42 hK42=>?_
        have hbs:=s.ext.le
        refine' eL 6 [4] [] [[],[],[],[1,2],[],[0,1,2,3,4],[0,1,2,3,4,5]] (is _::is _::is _::(ox (hU (nds M) (ci (ax M no).1 (ax M to).1.me)))::is _::is _::is undef::[]) (fun _=>True) h s (by kernel_rfl) (by kernel_rfl) (by kernel_rfl) (by kernel_rfl) rfl (fun _ _ h _=>h) (trivial) ⟨⟨_,rfl⟩,trivial⟩ ⟨az _,az _,az _,ox.mono _,az _,az _,az _,trivial⟩ (And.intro ?_ (And.intro ?_ (And.intro ?_ (And.intro ?_ (And.intro ?_ (And.intro ?_ (And.intro ?_ (trivial)))))))) ?_
        rotate_left 5
        ·refine aT 129 rfl (by decide) (by decide) ?_
         intro f9 w2 hE hs hd9 hl
         have e13:f9.tmps.getD 13 undef=_:=bX hl 13 (by kernel_rfl) (by kernel_rfl) (h.holds 13 _ rfl)
         have h:=aq [(13,_)] hs hd9 (holds_lk ⟨e13,trivial⟩)
         have s:=s.more hE
         have z:=St.start w2
         refine ao 3 h s aU rfl rfl (rfl) rfl ?_;intro f h
         refine ah ?_
         have e9:=h.holds 129 _ rfl
         refine ⟨?_,Ext.refl _,fun h9=>absurd h9 (by decide)⟩
         refine e9.trans ?_
         exact rfl
        ·refine aT 130 rfl (by decide) (by decide) ?_
         intro f9 w2 hE hs hd9 hl
         have e5:f9.tmps.getD 5 undef=_:=bX hl 5 (by kernel_rfl) (by kernel_rfl) (h.holds 5 _ rfl)
         have h:=aq [(5,_)] hs hd9 (holds_lk ⟨e5,trivial⟩)
         have s:=s.more hE
         have z:=St.start w2
         refine ao 9 h s aU rfl rfl (rfl) rfl ?_;intro f h
         refine ah ?_
         have e9:=h.holds 130 _ rfl
         refine ⟨?_,Ext.refl _,fun h9=>absurd h9 (by decide)⟩
         refine e9.trans ?_
         exact rfl
        ·refine aT 131 rfl (by decide) (by decide) ?_
         intro f9 w2 hE hs hd9 hl
         have e18:f9.tmps.getD 18 undef=_:=bX hl 18 (by kernel_rfl) (by kernel_rfl) (h.holds 18 _ rfl)
         have h:=aq [(18,_)] hs hd9 (holds_lk ⟨e18,trivial⟩)
         have s:=s.more hE
         have z:=St.start w2
         refine ao 2 h s bS rfl rfl (aA _ _ _ _) rfl ?_;intro f h
         refine ah ?_
         have e9:=h.holds 131 _ rfl
         refine ⟨?_,Ext.refl _,fun h9=>absurd h9 (by decide)⟩
         refine e9.trans ?_
         exact rfl
        ·refine aT 132 rfl (by decide) (by decide) ?_
         intro f9 w2 hE hs hd9 hl
         have e130:f9.tmps.getD 130 undef=_:=aH hl 130 1 (by kernel_rfl) (by kernel_rfl)
         have e131:f9.tmps.getD 131 undef=_:=aH hl 131 2 (by kernel_rfl) (by kernel_rfl)
         have h:=aq [(130,_),(131,_)] hs hd9 (holds_lk ⟨e130,e131,trivial⟩)
         have s:=s.more hE
         have z:=St.start w2
         refine aF h s pc (gZ M vm ((ci (ax M no).1 (ax M to).1.me),(ck 66 (vl17 7)),(ck 67 (vl17 7))) _ (⟨bK.of_own (s.getSl 7 rfl),fun y hy=>(hMr y hy).keep s.ext⟩:cf _ vm M) hM40 ⟨bK.of_own (s.getSl 0 rfl),bK.of_own (s.getSl 1 rfl)⟩) rfl rfl ?_;intro f w3 v3 hT9 hE3 h s
         refine ah ?_
         exact ⟨by rw [h.holds 132 _ rfl];exact hT9.d (jc M ((ci (ax M no).1 (ax M to).1.me),(ck 66 (vl17 7)),(ck 67 (vl17 7)))) (lF (fun y hy=>(hMr y hy).keep s.ext) ⟨bK.of_own (s.getSl 0 rfl),bK.of_own (s.getSl 1 rfl)⟩),hE3,fun h9=>absurd h9 (by decide)⟩
        ·refine cZ 133 rfl (by decide) ?_
         intro f9 w2 hE hs hl
         have e14:f9.tmps.getD 14 undef=_:=bX hl 14 (by kernel_rfl) (by kernel_rfl) (h.holds 14 _ rfl)
         have h:=aq [(14,_)] hs rfl (holds_lk ⟨e14,trivial⟩)
         refine ac h (ag (h.ev rfl)) rfl ?_;intro f h
         refine ah ?_
         have e9:=h.holds 133 _ rfl
         refine ⟨?_,rfl⟩
         refine e9.trans ?_
         exact rfl
        ·refine aT 134 rfl (by decide) (by decide) ?_
         intro f9 w2 hE hs hd9 hl
         have e129:f9.tmps.getD 129 undef=_:=aH hl 129 0 (by kernel_rfl) (by kernel_rfl)
         obtain ⟨u132,hu132⟩:∃ v,f9.tmps.getD 132 undef=v:=⟨_,rfl⟩
         have e132:(ox (hU (nds M) (ci (ax M no).1 (ax M to).1.me))) u132 w2:=by rw [← hu132];exact aH hl 132 3 (by kernel_rfl) (by kernel_rfl)
         have e133:f9.tmps.getD 133 undef=_:=aH hl 133 4 (by kernel_rfl) (by kernel_rfl)
         have h:=aq [(129,_),(132,u132),(133,_)] hs hd9 (holds_lk ⟨e129,hu132,e133,trivial⟩)
         have s:=s.more hE
         have z:=St.start w2
         obtain ⟨vq,Lq,rfl,hnq,hRq⟩:=e132
         have hlq:=((iR ((gB r0 n0 n1).trans (of_decide_eq_true p0)))▸kN M no to).l hnq
         have hbq:=((iR ((gB r0 n0 n1).trans (of_decide_eq_true p0)))▸kN M no to).r hnq
         refine aF h s eY (aO (.bool true) (cR Lb Lq vb vq (i5 M no to) 0 _ ((s.getG 4 rfl) (⟨bK.of_own (s.getSl 7 rfl),fun y hy=>(hMr y hy).keep s.ext⟩:cf _ vm M)) hlvb hRq hlq hbvb hbq) (congrArg Value.bool (zD ((gB r0 n0 n1).trans (of_decide_eq_true p0)) (hnvb.trans ((iR ((gB r0 n0 n1).trans (of_decide_eq_true p0))).trans hnq.symm))))) rfl rfl ?_;intro f w3 v3 hT9 hE3 h s
         refine ah ?_
         exact ⟨by rw [h.holds 134 _ rfl];exact hT9,hE3,fun h9=>absurd h9 (by decide)⟩
        ·exact cr (by decide) (by decide)
        ·intro f9 w2 hE hs hd9 hWp hT hR hFr hDj
         obtain ⟨u132,hu132⟩:∃ v,f9.tmps.getD 132 undef=v:=⟨_,rfl⟩
         have e132:(ox (hU (nds M) (ci (ax M no).1 (ax M to).1.me))) u132 w2:=by rw [← hu132];exact hT 3 132 (by decide) rfl
         replace h:=sl_new (ops:=_) [(129,_),(130,_),(131,_),(132,u132),(133,_),(134,_)] h hs hd9 hR ⟨hT 0 129 (by decide) rfl,hT 1 130 (by decide) rfl,hT 2 131 (by decide) rfl,hu132,hT 4 133 (by decide) rfl,hT 5 134 (by decide) rfl,trivial⟩ (by kernel_rfl)
         replace s:=s.more hE
         clear hT hR hFr hDj
         refine eD.of ?_
         refine ac h (ai (h.ev rfl)) rfl ?_;intro f h
         refine ah ?_
         refine hK42 _ _ ?_
         refine wpIn_ret ?_
         exact aX rfl h s rfl (rfl)
   ·skip
    refine ae ?_
    refine ac h (ag (h.ev rfl)) rfl ?_;intro f h
    refine ac h (aw (.bool false) (bg (h.ev rfl)) rfl) rfl ?_;intro f h
    refine ac h (ag (h.ev rfl)) rfl ?_;intro f h
    refine aB h rfl rfl rfl ?_
    refine ac h (al aP (h.ev rfl)) rfl ?_;intro f h
    refine aB h rfl rfl rfl ?_
    refine ar (am (bc.of_own s 5 rfl) 0 (aV _)) h bO rfl rfl ?_;intro f h
    refine aB h rfl rfl rfl ?_
    refine ac h (aw (.bool true) (bD (h.ev rfl) (h.ev rfl)) (congrArg Value.bool m0)) rfl ?_;intro f h
    refine ac h (aE (h.ev rfl) (h.ev rfl)) rfl ?_;intro f h
    refine ac h (ag (h.ev rfl)) rfl ?_;intro f h
    refine aC (b:=false) h rfl rfl rfl rfl ?_;intro f h
    refine aC (b:=false) h rfl rfl rfl rfl ?_;intro f h
    refine aC (b:=false) h rfl rfl rfl rfl ?_;intro f h
    refine ac h (aJ (h.ev rfl) (h.ev rfl)) rfl ?_;intro f h
    refine ah ?_
    refine hK17 _ _ ?_
    refine wpIn_cond_true (h.ev rfl) ?_
    refine aj fun K43 hK43=>?_
    refine ae ?_
    refine ao 2 h s aU rfl rfl (rfl) rfl ?_;intro f h
    refine ac h (bM eE) rfl ?_;intro f h
    refine ac h (ag (h.ev rfl)) rfl ?_;intro f h
    refine aF h s eY (aO (.bool true) (cR La [] va bo (vL M m sc9) 1 _ ((s.getG 3 rfl) (⟨bK.of_own (s.getSl 4 rfl),fun y hy=>(hMr y hy).keep s.ext⟩:cf _ vm M)) hlva (c1 _) (by decide) hbva eg) (congrArg Value.bool (j8 (fY (yc m0)).1 (by decide) (hnva.trans (fY (yc m0)).2)))) rfl rfl ?_;intro f w1 v9 hT hE h s;obtain rfl:=hT
    refine ac h (aw (.bool false) (bg (h.ev rfl)) rfl) rfl ?_;intro f h
    refine ah ?_
    refine hK43 _ _ ?_
    refine wpIn_cond_false (h.ev rfl) ?_
    refine wpIn_skip ?_
    refine hK16 _ _ ?_
    refine aj fun K44 hK44=>?_
    refine aj fun K45 hK45=>?_
    refine ae ?_
    refine ac h (ag (h.ev rfl)) rfl ?_;intro f h
    refine ac h (aw (.bool false) (bg (h.ev rfl)) rfl) rfl ?_;intro f h
    refine ah ?_
    refine hK45 _ _ ?_
    refine wpIn_cond_false (h.ev rfl) ?_
    refine wpIn_skip ?_
    refine hK44 _ _ ?_
    refine aj fun K46 hK46=>?_
    refine aj fun K47 hK47=>?_
    cases n0:(cw (aN M) no:Bool)
    ·skip
     refine ae ?_
     refine ao 6 h s aU rfl rfl (rfl) rfl ?_;intro f h
     refine ac h (ag (h.ev rfl)) rfl ?_;intro f h
     refine aF h s eT (aO (.bool false) (cS M vm no _ (⟨bK.of_own (s.getSl 4 rfl),fun y hy=>(hMr y hy).keep s.ext⟩:cf _ vm M) hM40) (congrArg Value.bool n0)) rfl rfl ?_;intro f w1 v9 hT hE h s;obtain rfl:=hT
     refine ac h (aw (.bool true) (bg (h.ev rfl)) rfl) rfl ?_;intro f h
     refine ac h (ag (h.ev rfl)) rfl ?_;intro f h
     refine aC (b:=false) h rfl rfl rfl rfl ?_;intro f h
     refine aC (b:=false) h rfl rfl rfl rfl ?_;intro f h
     refine aC (b:=false) h rfl rfl rfl rfl ?_;intro f h
     refine aC (b:=false) h rfl rfl rfl rfl ?_;intro f h
     refine ac h (aJ (h.ev rfl) (h.ev rfl)) rfl ?_;intro f h
     refine ah ?_
     refine hK47 _ _ ?_
     refine wpIn_cond_true (h.ev rfl) ?_
     refine aj fun K48 hK48=>?_
     refine ae ?_
     refine ao 0 h s aU rfl rfl (rfl) rfl ?_;intro f h
     refine ac h (bM eE) rfl ?_;intro f h
     refine ac h (ag (h.ev rfl)) rfl ?_;intro f h
     refine aF h s eY (aO (.bool true) (cR Lb [] vb bo (i5 M no to) 10 _ ((s.getG 1 rfl) (⟨bK.of_own (s.getSl 4 rfl),fun y hy=>(hMr y hy).keep s.ext⟩:cf _ vm M)) hlvb (c1 _) (by decide) hbvb eg) (congrArg Value.bool (j8 (kG r0 n0) (by decide) (hnvb.trans (fV (kG r0 n0) (by decide)))))) rfl rfl ?_;intro f w1 v9 hT hE h s;obtain rfl:=hT
     refine ac h (ai (h.ev rfl)) rfl ?_;intro f h
     refine ah ?_
     refine hK48 _ _ ?_
     refine wpIn_ret ?_
     refine aQ ?_
     exact aX rfl h s rfl (rfl)
    ·skip
     cases n1:(cw (aN M) to:Bool)
     ·skip
      refine ae ?_
      refine ao 6 h s aU rfl rfl (rfl) rfl ?_;intro f h
      refine ac h (ag (h.ev rfl)) rfl ?_;intro f h
      refine aF h s eT (aO (.bool true) (cS M vm no _ (⟨bK.of_own (s.getSl 4 rfl),fun y hy=>(hMr y hy).keep s.ext⟩:cf _ vm M) hM40) (congrArg Value.bool n0)) rfl rfl ?_;intro f w1 v9 hT hE h s;obtain rfl:=hT
      refine ac h (aw (.bool false) (bg (h.ev rfl)) rfl) rfl ?_;intro f h
      refine ac h (ag (h.ev rfl)) rfl ?_;intro f h
      refine aB h rfl rfl rfl ?_
      refine ao 6 h s aU rfl rfl (rfl) rfl ?_;intro f h
      refine aB h rfl rfl rfl ?_
      refine ac h (ag (h.ev rfl)) rfl ?_;intro f h
      refine aB h rfl rfl rfl ?_
      refine aF h s eT (aO (.bool false) (cS M vm to _ (⟨bK.of_own (s.getSl 4 rfl),fun y hy=>(hMr y hy).keep s.ext⟩:cf _ vm M) hM40) (congrArg Value.bool n1)) rfl rfl ?_;intro f w1 v9 hT hE h s;obtain rfl:=hT
      refine aB h rfl rfl rfl ?_
      refine ac h (aw (.bool true) (bg (h.ev rfl)) rfl) rfl ?_;intro f h
      refine ac h (aE (h.ev rfl) (h.ev rfl)) rfl ?_;intro f h
      refine ah ?_
      refine hK47 _ _ ?_
      refine wpIn_cond_true (h.ev rfl) ?_
      refine aj fun K49 hK49=>?_
      refine ae ?_
      refine ao 0 h s aU rfl rfl (rfl) rfl ?_;intro f h
      refine ac h (bM eE) rfl ?_;intro f h
      refine ac h (ag (h.ev rfl)) rfl ?_;intro f h
      refine aF h s eY (aO (.bool true) (cR Lb [] vb bo (i5 M no to) 10 _ ((s.getG 1 rfl) (⟨bK.of_own (s.getSl 4 rfl),fun y hy=>(hMr y hy).keep s.ext⟩:cf _ vm M)) hlvb (c1 _) (by decide) hbvb eg) (congrArg Value.bool (j8 (kr r0 n1) (by decide) (hnvb.trans (fV (kr r0 n1) (by decide)))))) rfl rfl ?_;intro f w1 v9 hT hE h s;obtain rfl:=hT
      refine ac h (ai (h.ev rfl)) rfl ?_;intro f h
      refine ah ?_
      refine hK49 _ _ ?_
      refine wpIn_ret ?_
      refine aQ ?_
      exact aX rfl h s rfl (rfl)
     ·skip
      refine ae ?_
      refine ao 6 h s aU rfl rfl (rfl) rfl ?_;intro f h
      refine ac h (ag (h.ev rfl)) rfl ?_;intro f h
      refine aF h s eT (aO (.bool true) (cS M vm no _ (⟨bK.of_own (s.getSl 4 rfl),fun y hy=>(hMr y hy).keep s.ext⟩:cf _ vm M) hM40) (congrArg Value.bool n0)) rfl rfl ?_;intro f w1 v9 hT hE h s;obtain rfl:=hT
      refine ac h (aw (.bool false) (bg (h.ev rfl)) rfl) rfl ?_;intro f h
      refine ac h (ag (h.ev rfl)) rfl ?_;intro f h
      refine aB h rfl rfl rfl ?_
      refine ao 6 h s aU rfl rfl (rfl) rfl ?_;intro f h
      refine aB h rfl rfl rfl ?_
      refine ac h (ag (h.ev rfl)) rfl ?_;intro f h
      refine aB h rfl rfl rfl ?_
      refine aF h s eT (aO (.bool true) (cS M vm to _ (⟨bK.of_own (s.getSl 4 rfl),fun y hy=>(hMr y hy).keep s.ext⟩:cf _ vm M) hM40) (congrArg Value.bool n1)) rfl rfl ?_;intro f w1 v9 hT hE h s;obtain rfl:=hT
      refine aB h rfl rfl rfl ?_
      refine ac h (aw (.bool false) (bg (h.ev rfl)) rfl) rfl ?_;intro f h
      refine ac h (aE (h.ev rfl) (h.ev rfl)) rfl ?_;intro f h
      refine ah ?_
      refine hK47 _ _ ?_
      refine wpIn_cond_false (h.ev rfl) ?_
      refine wpIn_skip ?_
      refine hK46 _ _ ?_
      refine aj fun K50 hK50=>?_
      have hrs:=(ex r0).rs
      have hgb:=hMb.each _ (hrs.get n0).1
      refine i9 0 [[],[],[0,1],[],[],[0,1,2,3,4],[0,1,2,3,4,5],[0,1,2,3,4,5,6],[0,1,2,3,4,5,6,7],[0,1,2,3,4,5,6,7,8],[0,1,2,3,4,5,6,7,8],[],[0,1,2,3,4,5,6,7,8,9,11],[0,1,2,3,4,5,6,7,8,9,10,11,12]] [[],[],[],[],[],[],[],[],[],[],[],[],[11],[]] [fun _=>[],fun _=>[],fun _=>[],fun _=>[],fun _=>[],fun _=>[],fun _=>[],fun v=>[.sl (ck 66 (v 7)) 28 33 (ci (ax M no).1 (ax M to).1.me).sc.length (av (ci (ax M no).1 (ax M to).1.me).sc),.sl (ck 67 (v 7)) 28 33 (ci (ax M no).1 (ax M to).1.me).fg.length (av (ci (ax M no).1 (ax M to).1.me).fg)],fun _=>[],fun _=>[],fun _=>[],fun v=>[.blk (np (v 11)) (.cells (aD a8 a8 bo bo) 42)],fun v=>[.blk (np (v 11)) (.cells (aD (ci (ax M no).1 (ax M to).1.me).me (ci (ax M no).1 (ax M to).1.me).pr (ck 66 (v 7)) (ck 67 (v 7))) 42)],fun _=>[]] [] [fun v=>v 0=.agg (#[vm]),fun v=>v 1=.int .i64 no,fun v=>v 2=.agg (aD (ax M no).1.me (ax M no).1.pr (ax M no).2.1 (ax M no).2.2),fun v=>v 3=.agg (#[vm]),fun v=>v 4=.int .i64 to,fun v=>v 5=.agg (aD (ax M to).1.me (ax M to).1.pr (ax M to).2.1 (ax M to).2.2),fun v=>v 6=.agg (au (ax M to).1.me),fun v=>v 7=.tuple #[.agg (aD (ci (ax M no).1 (ax M to).1.me).me (ci (ax M no).1 (ax M to).1.me).pr (ck 66 (v 7)) (ck 67 (v 7))),.int .i64 (de (ax M no).1 (ax M to).1.me)],fun v=>v 8=.tuple #[.agg (aD (ci (ax M no).1 (ax M to).1.me).me (ci (ax M no).1 (ax M to).1.me).pr (ck 66 (v 7)) (ck 67 (v 7))),.int .i64 (de (ax M no).1 (ax M to).1.me)],fun v=>v 9=.agg (aD (ci (ax M no).1 (ax M to).1.me).me (ci (ax M no).1 (ax M to).1.me).pr (ck 66 (v 7)) (ck 67 (v 7))),fun v=>v 10=.int .i64 (de (ax M no).1 (ax M to).1.me),fun v=>∃ b,v 11=.pointer (some ⟨b,0,none⟩),fun _=>True,fun v=>v 13=.int .i64 (de (ax M no).1 (ax M to).1.me)] [.blk b13 (.cells (#[vb]) 24),(.grp kb (fun w9=>cP vm M w9→cf w9 vb Lb)),.blk b11 (.cells (#[va]) 24),(.grp ka (fun w9=>cP vm M w9→cf w9 va La)),.sl vm 42 68 M.length (aK M),.blk b6 (.cells ((au m)) 28),.blk b5 (.cells (#[vm]) 24)] h s rfl (by kernel_rfl) (by kernel_rfl) (by kernel_rfl) (And.intro ?_ (And.intro ?_ (And.intro ?_ (And.intro ?_ (And.intro ?_ (And.intro ?_ (And.intro ?_ (And.intro ?_ (And.intro ?_ (And.intro ?_ (And.intro ?_ (And.intro ?_ (And.intro ?_ (And.intro ?_ (trivial))))))))))))))) [0,1,2,3,4,5,6,7,8,9,10,12,13] (by kernel_rfl) ?_
      ·intro f9 w2 vl17 E9 hs9 hd9 hl hF s
       have e5:f9.tmps.getD 5 undef=_:=cD hl 5 (by kernel_rfl) (by kernel_rfl) (h.holds 5 _ rfl)
       have h:=aq [(5,_)] (hs9.trans h.size) (hd9.trans h.defers) (holds_lk ⟨e5,trivial⟩)
       replace s:St w (.blk b13 (.cells (#[vb]) 24)::(.grp kb (fun w9=>cP vm M w9→cf w9 vb Lb))::.blk b11 (.cells (#[va]) 24)::(.grp ka (fun w9=>cP vm M w9→cf w9 va La))::.sl vm 42 68 M.length (aK M)::.blk b6 (.cells ((au m)) 28)::.blk b5 (.cells (#[vm]) 24)::E9) _:=s
       refine ao 6 h s aU rfl rfl (rfl) rfl ?_;intro f h
       exact ah ⟨_,a7 112 rfl (h.holds 112 _ rfl),rfl,s⟩
      ·intro f9 w2 vl17 E9 hs9 hd9 hl hF s
       have e3:f9.tmps.getD 3 undef=_:=cD hl 3 (by kernel_rfl) (by kernel_rfl) (h.holds 3 _ rfl)
       have h:=aq [(3,_)] (hs9.trans h.size) (hd9.trans h.defers) (holds_lk ⟨e3,trivial⟩)
       replace s:St w (.blk b13 (.cells (#[vb]) 24)::(.grp kb (fun w9=>cP vm M w9→cf w9 vb Lb))::.blk b11 (.cells (#[va]) 24)::(.grp ka (fun w9=>cP vm M w9→cf w9 va La))::.sl vm 42 68 M.length (aK M)::.blk b6 (.cells ((au m)) 28)::.blk b5 (.cells (#[vm]) 24)::E9) _:=s
       refine ac h (ag (h.ev rfl)) rfl ?_;intro f h
       exact ah ⟨_,a7 113 rfl (h.holds 113 _ rfl),rfl,s⟩
      ·intro f9 w2 vl17 E9 hs9 hd9 hl hF s
       have e112:f9.tmps.getD 112 undef=.agg (#[vm]):=(aW hl 112 0 (by kernel_rfl) (by kernel_rfl)).trans (hF 0 (by decide))
       have e113:f9.tmps.getD 113 undef=.int .i64 no:=(aW hl 113 1 (by kernel_rfl) (by kernel_rfl)).trans (hF 1 (by decide))
       have h:=aq [(112,.agg (#[vm])),(113,.int .i64 no)] (hs9.trans h.size) (hd9.trans h.defers) (holds_lk ⟨e112,e113,trivial⟩)
       replace s:St w (.blk b13 (.cells (#[vb]) 24)::(.grp kb (fun w9=>cP vm M w9→cf w9 vb Lb))::.blk b11 (.cells (#[va]) 24)::(.grp ka (fun w9=>cP vm M w9→cf w9 va La))::.sl vm 42 68 M.length (aK M)::.blk b6 (.cells ((au m)) 28)::.blk b5 (.cells (#[vm]) 24)::E9) _:=s
       refine aF h s l4 (gx M vm no _ (⟨bK.of_own (s.getSl 4 rfl),fun y hy=>(hMr y hy).keep s.ext⟩:cf _ vm M) hM40) rfl rfl ?_;intro f w1 v9 hT hE h s;obtain rfl:=hT
       exact ah ⟨_,a7 114 rfl (h.holds 114 _ rfl),rfl,s⟩
      ·intro f9 w2 vl17 E9 hs9 hd9 hl hF s
       have e5:f9.tmps.getD 5 undef=_:=cD hl 5 (by kernel_rfl) (by kernel_rfl) (h.holds 5 _ rfl)
       have h:=aq [(5,_)] (hs9.trans h.size) (hd9.trans h.defers) (holds_lk ⟨e5,trivial⟩)
       replace s:St w (.blk b13 (.cells (#[vb]) 24)::(.grp kb (fun w9=>cP vm M w9→cf w9 vb Lb))::.blk b11 (.cells (#[va]) 24)::(.grp ka (fun w9=>cP vm M w9→cf w9 va La))::.sl vm 42 68 M.length (aK M)::.blk b6 (.cells ((au m)) 28)::.blk b5 (.cells (#[vm]) 24)::E9) _:=s
       refine ao 6 h s aU rfl rfl (rfl) rfl ?_;intro f h
       exact ah ⟨_,a7 115 rfl (h.holds 115 _ rfl),rfl,s⟩
      ·intro f9 w2 vl17 E9 hs9 hd9 hl hF s
       have e4:f9.tmps.getD 4 undef=_:=cD hl 4 (by kernel_rfl) (by kernel_rfl) (h.holds 4 _ rfl)
       have h:=aq [(4,_)] (hs9.trans h.size) (hd9.trans h.defers) (holds_lk ⟨e4,trivial⟩)
       replace s:St w (.blk b13 (.cells (#[vb]) 24)::(.grp kb (fun w9=>cP vm M w9→cf w9 vb Lb))::.blk b11 (.cells (#[va]) 24)::(.grp ka (fun w9=>cP vm M w9→cf w9 va La))::.sl vm 42 68 M.length (aK M)::.blk b6 (.cells ((au m)) 28)::.blk b5 (.cells (#[vm]) 24)::E9) _:=s
       refine ac h (ag (h.ev rfl)) rfl ?_;intro f h
       exact ah ⟨_,a7 116 rfl (h.holds 116 _ rfl),rfl,s⟩
      ·intro f9 w2 vl17 E9 hs9 hd9 hl hF s
       have e115:f9.tmps.getD 115 undef=.agg (#[vm]):=(aW hl 115 3 (by kernel_rfl) (by kernel_rfl)).trans (hF 3 (by decide))
       have e116:f9.tmps.getD 116 undef=.int .i64 to:=(aW hl 116 4 (by kernel_rfl) (by kernel_rfl)).trans (hF 4 (by decide))
       have h:=aq [(115,.agg (#[vm])),(116,.int .i64 to)] (hs9.trans h.size) (hd9.trans h.defers) (holds_lk ⟨e115,e116,trivial⟩)
       replace s:St w (.blk b13 (.cells (#[vb]) 24)::(.grp kb (fun w9=>cP vm M w9→cf w9 vb Lb))::.blk b11 (.cells (#[va]) 24)::(.grp ka (fun w9=>cP vm M w9→cf w9 va La))::.sl vm 42 68 M.length (aK M)::.blk b6 (.cells ((au m)) 28)::.blk b5 (.cells (#[vm]) 24)::E9) _:=s
       refine aF h s l4 (gx M vm to _ (⟨bK.of_own (s.getSl 4 rfl),fun y hy=>(hMr y hy).keep s.ext⟩:cf _ vm M) hM40) rfl rfl ?_;intro f w1 v9 hT hE h s;obtain rfl:=hT
       exact ah ⟨_,a7 117 rfl (h.holds 117 _ rfl),rfl,s⟩
      ·intro f9 w2 vl17 E9 hs9 hd9 hl hF s
       have e117:f9.tmps.getD 117 undef=.agg (aD (ax M to).1.me (ax M to).1.pr (ax M to).2.1 (ax M to).2.2):=(aW hl 117 5 (by kernel_rfl) (by kernel_rfl)).trans (hF 5 (by decide))
       have h:=aq [(117,.agg (aD (ax M to).1.me (ax M to).1.pr (ax M to).2.1 (ax M to).2.2))] (hs9.trans h.size) (hd9.trans h.defers) (holds_lk ⟨e117,trivial⟩)
       replace s:St w (.blk b13 (.cells (#[vb]) 24)::(.grp kb (fun w9=>cP vm M w9→cf w9 vb Lb))::.blk b11 (.cells (#[va]) 24)::(.grp ka (fun w9=>cP vm M w9→cf w9 va La))::.sl vm 42 68 M.length (aK M)::.blk b6 (.cells ((au m)) 28)::.blk b5 (.cells (#[vm]) 24)::E9) _:=s
       refine ac h (iu lc aL (h.ev rfl) (bU _ _ _ _)) rfl ?_;intro f h
       exact ah ⟨_,a7 118 rfl (h.holds 118 _ rfl),rfl,s⟩
      ·intro f9 w2 vl17 E9 hs9 hd9 hl hF s
       have e114:f9.tmps.getD 114 undef=.agg (aD (ax M no).1.me (ax M no).1.pr (ax M no).2.1 (ax M no).2.2):=(aW hl 114 2 (by kernel_rfl) (by kernel_rfl)).trans (hF 2 (by decide))
       have e118:f9.tmps.getD 118 undef=.agg (au (ax M to).1.me):=(aW hl 118 6 (by kernel_rfl) (by kernel_rfl)).trans (hF 6 (by decide))
       have h:=aq [(114,.agg (aD (ax M no).1.me (ax M no).1.pr (ax M no).2.1 (ax M no).2.2)),(118,.agg (au (ax M to).1.me))] (hs9.trans h.size) (hd9.trans h.defers) (holds_lk ⟨e114,e118,trivial⟩)
       replace s:St w (.blk b13 (.cells (#[vb]) 24)::(.grp kb (fun w9=>cP vm M w9→cf w9 vb Lb))::.blk b11 (.cells (#[va]) 24)::(.grp ka (fun w9=>cP vm M w9→cf w9 va La))::.sl vm 42 68 M.length (aK M)::.blk b6 (.cells ((au m)) 28)::.blk b5 (.cells (#[vm]) 24)::E9) _:=s
       refine aF h s rJ (gE (ax M no).1 (ax M no).2.1 (ax M no).2.2 (ax M to).1.me _ ((kp hMr no).1.keep s.ext) ((kp hMr no).2.keep s.ext) (by omega) (by omega)) rfl rfl ?_;rintro f w1 v119 ⟨cu,cv,hv9,hS⟩ hE h sq;replace s:=s.add hS
       have h66:cu=ck 66 v119:=by rw [hv9];exact(nV (bK.of_own (hS.getSl 0 rfl))).symm
       have h67:cv=ck 67 v119:=by rw [hv9];exact(nJ (bK.of_own (hS.getSl 1 rfl))).symm
       clear hS
       subst h66;subst h67
       exact ah ⟨_,a7 119 rfl (h.holds 119 _ rfl),hv9,s⟩
      ·intro f9 w2 vl17 E9 hs9 hd9 hl hF s
       have e119:f9.tmps.getD 119 undef=.tuple #[.agg (aD (ci (ax M no).1 (ax M to).1.me).me (ci (ax M no).1 (ax M to).1.me).pr (ck 66 (vl17 7)) (ck 67 (vl17 7))),.int .i64 (de (ax M no).1 (ax M to).1.me)]:=(aW hl 119 7 (by kernel_rfl) (by kernel_rfl)).trans (hF 7 (by decide))
       have h:=aq [(119,.tuple #[.agg (aD (ci (ax M no).1 (ax M to).1.me).me (ci (ax M no).1 (ax M to).1.me).pr (ck 66 (vl17 7)) (ck 67 (vl17 7))),.int .i64 (de (ax M no).1 (ax M to).1.me)])] (hs9.trans h.size) (hd9.trans h.defers) (holds_lk ⟨e119,trivial⟩)
       replace s:St w (.blk b13 (.cells (#[vb]) 24)::(.grp kb (fun w9=>cP vm M w9→cf w9 vb Lb))::.blk b11 (.cells (#[va]) 24)::(.grp ka (fun w9=>cP vm M w9→cf w9 va La))::.sl vm 42 68 M.length (aK M)::.blk b6 (.cells ((au m)) 28)::.blk b5 (.cells (#[vm]) 24)::E9) _:=s
       refine ac h (ag (h.ev rfl)) rfl ?_;intro f h
       exact ah ⟨_,a7 111 rfl (h.holds 111 _ rfl),rfl,s⟩
      ·intro f9 w2 vl17 E9 hs9 hd9 hl hF s
       have e111:f9.tmps.getD 111 undef=.tuple #[.agg (aD (ci (ax M no).1 (ax M to).1.me).me (ci (ax M no).1 (ax M to).1.me).pr (ck 66 (vl17 7)) (ck 67 (vl17 7))),.int .i64 (de (ax M no).1 (ax M to).1.me)]:=(aW hl 111 8 (by kernel_rfl) (by kernel_rfl)).trans (hF 8 (by decide))
       have h:=aq [(111,.tuple #[.agg (aD (ci (ax M no).1 (ax M to).1.me).me (ci (ax M no).1 (ax M to).1.me).pr (ck 66 (vl17 7)) (ck 67 (vl17 7))),.int .i64 (de (ax M no).1 (ax M to).1.me)])] (hs9.trans h.size) (hd9.trans h.defers) (holds_lk ⟨e111,trivial⟩)
       replace s:St w (.blk b13 (.cells (#[vb]) 24)::(.grp kb (fun w9=>cP vm M w9→cf w9 vb Lb))::.blk b11 (.cells (#[va]) 24)::(.grp ka (fun w9=>cP vm M w9→cf w9 va La))::.sl vm 42 68 M.length (aK M)::.blk b6 (.cells ((au m)) 28)::.blk b5 (.cells (#[vm]) 24)::E9) _:=s
       refine ac h (bB (h.ev rfl) rfl) rfl ?_;intro f h
       exact ah ⟨_,a7 120 rfl (h.holds 120 _ rfl),rfl,s⟩
      ·intro f9 w2 vl17 E9 hs9 hd9 hl hF s
       have e111:f9.tmps.getD 111 undef=.tuple #[.agg (aD (ci (ax M no).1 (ax M to).1.me).me (ci (ax M no).1 (ax M to).1.me).pr (ck 66 (vl17 7)) (ck 67 (vl17 7))),.int .i64 (de (ax M no).1 (ax M to).1.me)]:=(aW hl 111 8 (by kernel_rfl) (by kernel_rfl)).trans (hF 8 (by decide))
       have h:=aq [(111,.tuple #[.agg (aD (ci (ax M no).1 (ax M to).1.me).me (ci (ax M no).1 (ax M to).1.me).pr (ck 66 (vl17 7)) (ck 67 (vl17 7))),.int .i64 (de (ax M no).1 (ax M to).1.me)])] (hs9.trans h.size) (hd9.trans h.defers) (holds_lk ⟨e111,trivial⟩)
       replace s:St w (.blk b13 (.cells (#[vb]) 24)::(.grp kb (fun w9=>cP vm M w9→cf w9 vb Lb))::.blk b11 (.cells (#[va]) 24)::(.grp ka (fun w9=>cP vm M w9→cf w9 va La))::.sl vm 42 68 M.length (aK M)::.blk b6 (.cells ((au m)) 28)::.blk b5 (.cells (#[vm]) 24)::E9) _:=s
       refine ac h (bB (h.ev rfl) rfl) rfl ?_;intro f h
       exact ah ⟨_,a7 121 rfl (h.holds 121 _ rfl),rfl,s⟩
      ·intro f9 w2 vl17 E9 hs9 hd9 hl hF s
       have h:=aq [] (hs9.trans h.size) (hd9.trans h.defers) (holds_lk trivial)
       replace s:St w (.blk b13 (.cells (#[vb]) 24)::(.grp kb (fun w9=>cP vm M w9→cf w9 vb Lb))::.blk b11 (.cells (#[va]) 24)::(.grp ka (fun w9=>cP vm M w9→cf w9 va La))::.sl vm 42 68 M.length (aK M)::.blk b6 (.cells ((au m)) 28)::.blk b5 (.cells (#[vm]) 24)::E9) _:=s
       refine ba (aD a8 a8 bo bo) h s dH rfl rfl ?_;intro f w1 b18 h s
       exact ah ⟨_,a7 18 rfl (h.holds 18 _ rfl),⟨_,rfl⟩,s⟩
      ·intro f9 w2 vl17 E9 hs9 hd9 hl hF s
       obtain ⟨b18,hb18⟩:∃ b,vl17 11=.pointer (some ⟨b,0,none⟩):=hF 11 (by decide)
       have e18:f9.tmps.getD 18 undef=.pointer (some ⟨b18,0,none⟩):=(aW hl 18 11 (by kernel_rfl) (by kernel_rfl)).trans hb18
       have e120:f9.tmps.getD 120 undef=.agg (aD (ci (ax M no).1 (ax M to).1.me).me (ci (ax M no).1 (ax M to).1.me).pr (ck 66 (vl17 7)) (ck 67 (vl17 7))):=(aW hl 120 9 (by kernel_rfl) (by kernel_rfl)).trans (hF 9 (by decide))
       have h:=aq [(18,.pointer (some ⟨b18,0,none⟩)),(120,.agg (aD (ci (ax M no).1 (ax M to).1.me).me (ci (ax M no).1 (ax M to).1.me).pr (ck 66 (vl17 7)) (ck 67 (vl17 7))))] (hs9.trans h.size) (hd9.trans h.defers) (holds_lk ⟨e18,e120,trivial⟩)
       replace s:St w (.blk (np (vl17 11)) (.cells (aD a8 a8 bo bo) 42)::.blk b13 (.cells (#[vb]) 24)::(.grp kb (fun w9=>cP vm M w9→cf w9 vb Lb))::.blk b11 (.cells (#[va]) 24)::(.grp ka (fun w9=>cP vm M w9→cf w9 va La))::.sl vm 42 68 M.length (aK M)::.blk b6 (.cells ((au m)) 28)::.blk b5 (.cells (#[vm]) 24)::E9) _:=s
       rw [hb18] at s
       replace s:St w (.blk b18 (.cells (aD a8 a8 bo bo) 42)::.blk b13 (.cells (#[vb]) 24)::(.grp kb (fun w9=>cP vm M w9→cf w9 vb Lb))::.blk b11 (.cells (#[va]) 24)::(.grp ka (fun w9=>cP vm M w9→cf w9 va La))::.sl vm 42 68 M.length (aK M)::.blk b6 (.cells ((au m)) 28)::.blk b5 (.cells (#[vm]) 24)::E9) _:=s
       refine ay 0 h s bS rfl rfl rfl (aA _ _ _ _) (aA _ _ _ _) (bW (fO _ _) (fO _ _)) ?_;intro w1 s
       refine ah ⟨undef,im rfl,trivial,?_⟩
       have z:=s
       rw [← show np (vl17 11)=b18 from by rw [hb18];rfl] at z
       exact z
      ·intro f9 w2 vl17 E9 hs9 hd9 hl hF s
       have e121:f9.tmps.getD 121 undef=.int .i64 (de (ax M no).1 (ax M to).1.me):=(aW hl 121 10 (by kernel_rfl) (by kernel_rfl)).trans (hF 10 (by decide))
       have h:=aq [(121,.int .i64 (de (ax M no).1 (ax M to).1.me))] (hs9.trans h.size) (hd9.trans h.defers) (holds_lk ⟨e121,trivial⟩)
       replace s:St w (.blk b13 (.cells (#[vb]) 24)::(.grp kb (fun w9=>cP vm M w9→cf w9 vb Lb))::.blk b11 (.cells (#[va]) 24)::(.grp ka (fun w9=>cP vm M w9→cf w9 va La))::.sl vm 42 68 M.length (aK M)::.blk b6 (.cells ((au m)) 28)::.blk b5 (.cells (#[vm]) 24)::E9) _:=s
       refine ac h (ai (h.ev rfl)) rfl ?_;intro f h
       exact ah ⟨_,a7 19 rfl (h.holds 19 _ rfl),rfl,s⟩
      intro f w1 vl17 hs9 hd9 hv hr hF s
      obtain ⟨b18,hb18⟩:∃ b,vl17 11=.pointer (some ⟨b,0,none⟩):=hF 11 (by kernel_rfl)
      replace h:=kM (ops:=_) [(112,.agg (#[vm])),(113,.int .i64 no),(114,.agg (aD (ax M no).1.me (ax M no).1.pr (ax M no).2.1 (ax M no).2.2)),(115,.agg (#[vm])),(116,.int .i64 to),(117,.agg (aD (ax M to).1.me (ax M to).1.pr (ax M to).2.1 (ax M to).2.2)),(118,.agg (au (ax M to).1.me)),(119,.tuple #[.agg (aD (ci (ax M no).1 (ax M to).1.me).me (ci (ax M no).1 (ax M to).1.me).pr (ck 66 (vl17 7)) (ck 67 (vl17 7))),.int .i64 (de (ax M no).1 (ax M to).1.me)]),(111,.tuple #[.agg (aD (ci (ax M no).1 (ax M to).1.me).me (ci (ax M no).1 (ax M to).1.me).pr (ck 66 (vl17 7)) (ck 67 (vl17 7))),.int .i64 (de (ax M no).1 (ax M to).1.me)]),(120,.agg (aD (ci (ax M no).1 (ax M to).1.me).me (ci (ax M no).1 (ax M to).1.me).pr (ck 66 (vl17 7)) (ck 67 (vl17 7)))),(121,.int .i64 (de (ax M no).1 (ax M to).1.me)),(18,.pointer (some ⟨b18,0,none⟩)),(19,.int .i64 (de (ax M no).1 (ax M to).1.me))] h hs9 hd9 hr ⟨(hv 0 112 rfl).trans (hF 0 (by kernel_rfl)),(hv 1 113 rfl).trans (hF 1 (by kernel_rfl)),(hv 2 114 rfl).trans (hF 2 (by kernel_rfl)),(hv 3 115 rfl).trans (hF 3 (by kernel_rfl)),(hv 4 116 rfl).trans (hF 4 (by kernel_rfl)),(hv 5 117 rfl).trans (hF 5 (by kernel_rfl)),(hv 6 118 rfl).trans (hF 6 (by kernel_rfl)),(hv 7 119 rfl).trans (hF 7 (by kernel_rfl)),(hv 8 111 rfl).trans (hF 8 (by kernel_rfl)),(hv 9 120 rfl).trans (hF 9 (by kernel_rfl)),(hv 10 121 rfl).trans (hF 10 (by kernel_rfl)),(hv 11 18 rfl).trans hb18,(hv 13 19 rfl).trans (hF 13 (by kernel_rfl)),trivial⟩ (by kernel_rfl)
      replace s:St w [.sl (ck 66 (vl17 7)) 28 33 (ci (ax M no).1 (ax M to).1.me).sc.length (av (ci (ax M no).1 (ax M to).1.me).sc),.sl (ck 67 (vl17 7)) 28 33 (ci (ax M no).1 (ax M to).1.me).fg.length (av (ci (ax M no).1 (ax M to).1.me).fg),.blk (np (vl17 11)) (.cells (aD (ci (ax M no).1 (ax M to).1.me).me (ci (ax M no).1 (ax M to).1.me).pr (ck 66 (vl17 7)) (ck 67 (vl17 7))) 42),.blk b13 (.cells (#[vb]) 24),(.grp kb (fun w9=>cP vm M w9→cf w9 vb Lb)),.blk b11 (.cells (#[va]) 24),(.grp ka (fun w9=>cP vm M w9→cf w9 va La)),.sl vm 42 68 M.length (aK M),.blk b6 (.cells ((au m)) 28),.blk b5 (.cells (#[vm]) 24)] _:=s
      rw [hb18] at s
      replace s:St w [.sl (ck 66 (vl17 7)) 28 33 (ci (ax M no).1 (ax M to).1.me).sc.length (av (ci (ax M no).1 (ax M to).1.me).sc),.sl (ck 67 (vl17 7)) 28 33 (ci (ax M no).1 (ax M to).1.me).fg.length (av (ci (ax M no).1 (ax M to).1.me).fg),.blk b18 (.cells (aD (ci (ax M no).1 (ax M to).1.me).me (ci (ax M no).1 (ax M to).1.me).pr (ck 66 (vl17 7)) (ck 67 (vl17 7))) 42),.blk b13 (.cells (#[vb]) 24),(.grp kb (fun w9=>cP vm M w9→cf w9 vb Lb)),.blk b11 (.cells (#[va]) 24),(.grp ka (fun w9=>cP vm M w9→cf w9 va La)),.sl vm 42 68 M.length (aK M),.blk b6 (.cells ((au m)) 28),.blk b5 (.cells (#[vm]) 24)] _:=s
      refine hK50 _ _ ?_
      refine aj fun K51 hK51=>?_
      refine aj fun K52 hK52=>?_
      cases p0:(decide ((de (ax M no).1 (ax M to).1.me)=0):Bool)
      ·skip
       refine ae ?_
       refine ac h (ag (h.ev rfl)) rfl ?_;intro f h
       refine ac h (aw (.bool true) (cO (h.ev rfl) (h.ev rfl)) (congrArg Value.bool (decide_eq_true (of_decide_eq_false p0)))) rfl ?_;intro f h
       refine ah ?_
       refine hK52 _ _ ?_
       refine wpIn_cond_true (h.ev rfl) ?_
       refine aj fun K53 hK53=>?_
       refine ae ?_
       refine ao 3 h s aU rfl rfl (rfl) rfl ?_;intro f h
       refine ac h (bM eE) rfl ?_;intro f h
       refine ac h (ag (h.ev rfl)) rfl ?_;intro f h
       refine ac h (ag (h.ev rfl)) rfl ?_;intro f h
       refine aF h s eY (aO (.bool true) (cR Lb [] vb bo (i5 M no to) (de (ax M no).1 (ax M to).1.me) _ ((s.getG 4 rfl) (⟨bK.of_own (s.getSl 7 rfl),fun y hy=>(hMr y hy).keep s.ext⟩:cf _ vm M)) hlvb (c1 _) (by decide) hbvb eg) (congrArg Value.bool (j8 (gB r0 n0 n1) (of_decide_eq_false p0) (hnvb.trans (fV (gB r0 n0 n1) (of_decide_eq_false p0)))))) rfl rfl ?_;intro f w1 v9 hT hE h s;obtain rfl:=hT
       refine ac h (ai (h.ev rfl)) rfl ?_;intro f h
       refine ah ?_
       refine hK53 _ _ ?_
       refine wpIn_ret ?_
       refine aQ ?_
       exact aX rfl h s rfl (rfl)
      ·skip
       refine ae ?_
       refine ac h (ag (h.ev rfl)) rfl ?_;intro f h
       refine ac h (aw (.bool false) (cO (h.ev rfl) (h.ev rfl)) (congrArg Value.bool (decide_eq_false (not_not_intro (of_decide_eq_true p0))))) rfl ?_;intro f h
       refine ah ?_
       refine hK52 _ _ ?_
       refine wpIn_cond_false (h.ev rfl) ?_
       refine wpIn_skip ?_
       refine hK51 _ _ ?_
       refine aj fun K54 hK54=>?_
       have hbs:=s.ext.le
       refine' eL 6 [4] [] [[],[],[],[1,2],[],[0,1,2,3,4],[0,1,2,3,4,5]] (is _::is _::is _::(ox (hU (nds M) (ci (ax M no).1 (ax M to).1.me)))::is _::is _::is undef::[]) (fun _=>True) h s (by kernel_rfl) (by kernel_rfl) (by kernel_rfl) (by kernel_rfl) rfl (fun _ _ h _=>h) (trivial) ⟨⟨_,rfl⟩,trivial⟩ ⟨az _,az _,az _,ox.mono _,az _,az _,az _,trivial⟩ (And.intro ?_ (And.intro ?_ (And.intro ?_ (And.intro ?_ (And.intro ?_ (And.intro ?_ (And.intro ?_ (trivial)))))))) ?_
       rotate_left 5
       ·refine aT 129 rfl (by decide) (by decide) ?_
        intro f9 w2 hE hs hd9 hl
        have e13:f9.tmps.getD 13 undef=_:=bX hl 13 (by kernel_rfl) (by kernel_rfl) (h.holds 13 _ rfl)
        have h:=aq [(13,_)] hs hd9 (holds_lk ⟨e13,trivial⟩)
        have s:=s.more hE
        have z:=St.start w2
        refine ao 3 h s aU rfl rfl (rfl) rfl ?_;intro f h
        refine ah ?_
        have e9:=h.holds 129 _ rfl
        refine ⟨?_,Ext.refl _,fun h9=>absurd h9 (by decide)⟩
        refine e9.trans ?_
        exact rfl
       ·refine aT 130 rfl (by decide) (by decide) ?_
        intro f9 w2 hE hs hd9 hl
        have e5:f9.tmps.getD 5 undef=_:=bX hl 5 (by kernel_rfl) (by kernel_rfl) (h.holds 5 _ rfl)
        have h:=aq [(5,_)] hs hd9 (holds_lk ⟨e5,trivial⟩)
        have s:=s.more hE
        have z:=St.start w2
        refine ao 9 h s aU rfl rfl (rfl) rfl ?_;intro f h
        refine ah ?_
        have e9:=h.holds 130 _ rfl
        refine ⟨?_,Ext.refl _,fun h9=>absurd h9 (by decide)⟩
        refine e9.trans ?_
        exact rfl
       ·refine aT 131 rfl (by decide) (by decide) ?_
        intro f9 w2 hE hs hd9 hl
        have e18:f9.tmps.getD 18 undef=_:=bX hl 18 (by kernel_rfl) (by kernel_rfl) (h.holds 18 _ rfl)
        have h:=aq [(18,_)] hs hd9 (holds_lk ⟨e18,trivial⟩)
        have s:=s.more hE
        have z:=St.start w2
        refine ao 2 h s bS rfl rfl (aA _ _ _ _) rfl ?_;intro f h
        refine ah ?_
        have e9:=h.holds 131 _ rfl
        refine ⟨?_,Ext.refl _,fun h9=>absurd h9 (by decide)⟩
        refine e9.trans ?_
        exact rfl
       ·refine aT 132 rfl (by decide) (by decide) ?_
        intro f9 w2 hE hs hd9 hl
        have e130:f9.tmps.getD 130 undef=_:=aH hl 130 1 (by kernel_rfl) (by kernel_rfl)
        have e131:f9.tmps.getD 131 undef=_:=aH hl 131 2 (by kernel_rfl) (by kernel_rfl)
        have h:=aq [(130,_),(131,_)] hs hd9 (holds_lk ⟨e130,e131,trivial⟩)
        have s:=s.more hE
        have z:=St.start w2
        refine aF h s pc (gZ M vm ((ci (ax M no).1 (ax M to).1.me),(ck 66 (vl17 7)),(ck 67 (vl17 7))) _ (⟨bK.of_own (s.getSl 7 rfl),fun y hy=>(hMr y hy).keep s.ext⟩:cf _ vm M) hM40 ⟨bK.of_own (s.getSl 0 rfl),bK.of_own (s.getSl 1 rfl)⟩) rfl rfl ?_;intro f w3 v3 hT9 hE3 h s
        refine ah ?_
        exact ⟨by rw [h.holds 132 _ rfl];exact hT9.d (jc M ((ci (ax M no).1 (ax M to).1.me),(ck 66 (vl17 7)),(ck 67 (vl17 7)))) (lF (fun y hy=>(hMr y hy).keep s.ext) ⟨bK.of_own (s.getSl 0 rfl),bK.of_own (s.getSl 1 rfl)⟩),hE3,fun h9=>absurd h9 (by decide)⟩
       ·refine cZ 133 rfl (by decide) ?_
        intro f9 w2 hE hs hl
        have e14:f9.tmps.getD 14 undef=_:=bX hl 14 (by kernel_rfl) (by kernel_rfl) (h.holds 14 _ rfl)
        have h:=aq [(14,_)] hs rfl (holds_lk ⟨e14,trivial⟩)
        refine ac h (ag (h.ev rfl)) rfl ?_;intro f h
        refine ah ?_
        have e9:=h.holds 133 _ rfl
        refine ⟨?_,rfl⟩
        refine e9.trans ?_
        exact rfl
       ·refine aT 134 rfl (by decide) (by decide) ?_
        intro f9 w2 hE hs hd9 hl
        have e129:f9.tmps.getD 129 undef=_:=aH hl 129 0 (by kernel_rfl) (by kernel_rfl)
        obtain ⟨u132,hu132⟩:∃ v,f9.tmps.getD 132 undef=v:=⟨_,rfl⟩
        have e132:(ox (hU (nds M) (ci (ax M no).1 (ax M to).1.me))) u132 w2:=by rw [← hu132];exact aH hl 132 3 (by kernel_rfl) (by kernel_rfl)
        have e133:f9.tmps.getD 133 undef=_:=aH hl 133 4 (by kernel_rfl) (by kernel_rfl)
        have h:=aq [(129,_),(132,u132),(133,_)] hs hd9 (holds_lk ⟨e129,hu132,e133,trivial⟩)
        have s:=s.more hE
        have z:=St.start w2
        obtain ⟨vq,Lq,rfl,hnq,hRq⟩:=e132
        have hlq:=((iR ((gB r0 n0 n1).trans (of_decide_eq_true p0)))▸kN M no to).l hnq
        have hbq:=((iR ((gB r0 n0 n1).trans (of_decide_eq_true p0)))▸kN M no to).r hnq
        refine aF h s eY (aO (.bool true) (cR Lb Lq vb vq (i5 M no to) 0 _ ((s.getG 4 rfl) (⟨bK.of_own (s.getSl 7 rfl),fun y hy=>(hMr y hy).keep s.ext⟩:cf _ vm M)) hlvb hRq hlq hbvb hbq) (congrArg Value.bool (zD ((gB r0 n0 n1).trans (of_decide_eq_true p0)) (hnvb.trans ((iR ((gB r0 n0 n1).trans (of_decide_eq_true p0))).trans hnq.symm))))) rfl rfl ?_;intro f w3 v3 hT9 hE3 h s
        refine ah ?_
        exact ⟨by rw [h.holds 134 _ rfl];exact hT9,hE3,fun h9=>absurd h9 (by decide)⟩
       ·exact cr (by decide) (by decide)
       ·intro f9 w2 hE hs hd9 hWp hT hR hFr hDj
        obtain ⟨u132,hu132⟩:∃ v,f9.tmps.getD 132 undef=v:=⟨_,rfl⟩
        have e132:(ox (hU (nds M) (ci (ax M no).1 (ax M to).1.me))) u132 w2:=by rw [← hu132];exact hT 3 132 (by decide) rfl
        replace h:=sl_new (ops:=_) [(129,_),(130,_),(131,_),(132,u132),(133,_),(134,_)] h hs hd9 hR ⟨hT 0 129 (by decide) rfl,hT 1 130 (by decide) rfl,hT 2 131 (by decide) rfl,hu132,hT 4 133 (by decide) rfl,hT 5 134 (by decide) rfl,trivial⟩ (by kernel_rfl)
        replace s:=s.more hE
        clear hT hR hFr hDj
        refine eD.of ?_
        refine ac h (ai (h.ev rfl)) rfl ?_;intro f h
        refine ah ?_
        refine hK54 _ _ ?_
        refine wpIn_ret ?_
        exact aX rfl h s rfl (rfl)
end Go.Proofs.YthggibfkgofncaaGreat
