/- What Point of package chord answers. -/
import Derived.Test.YthggibfkgofncaaGreatVp
import Derived.Test.YthggibfkgofncaaGreatWc
set_option linter.unusedVariables false
set_option linter.unusedSimpArgs false
set_option linter.unusedSectionVars false
namespace Go.Proofs.YthggibfkgofncaaGreat
open Go.RowKit
set_option maxHeartbeats 1000000 in
theorem qq (L:List N3) (vo:Value) (no to:Int) (w:World) (hO:cf w vo L) (hL:L.length≤40) (hb:RwB L):Calls Tryz.prog 9 [.agg #[vo],.int .i64 no,.int .i64 to].toArray w (cT w (yg w (cP vo L) (x7 L no to) (i5 L no to))):=by
 refine bj Tryz.func9 rfl Tryz.ntmps9 rfl [(0,.agg #[vo]),(1,.int .i64 no),(2,.int .i64 to)] (by simp) fun f h=>?_
 have s:=St.start w
 refine aj fun K1 hK1=>?_
 refine ae ?_
 refine bT (#[vo]) h s rfl rfl rfl ?_;intro f w1 b3 h s
 refine ba (#[bo]) h s dY rfl rfl ?_;intro f w1 b6 h s
 refine ac h (ai (h.ev rfl)) rfl ?_;intro f h
 refine ah ?_
 refine hK1 _ _ ?_
 refine aj fun K2 hK2=>?_
 cases r0:(fQ L:Bool)
 ·skip
  refine ae ?_
  refine ao 1 h s aU rfl rfl (rfl) rfl ?_;intro f h
  refine ac h (ag (h.ev rfl)) rfl ?_;intro f h
  refine aF h s tF (jm L vo no _ (hO.keep s.ext) hL hb) rfl rfl ?_;intro f w1 v14 hop hE h sq
  obtain rfl:=hop.n (vw r0) (by decide)
  replace s:=sq
  refine ac h (ag (h.ev rfl)) rfl ?_;intro f h
  refine ac h (bB (h.ev rfl) rfl) rfl ?_;intro f h
  refine ac h (bB (h.ev rfl) rfl) rfl ?_;intro f h
  refine ac h (bB (h.ev rfl) rfl) rfl ?_;intro f h
  refine ay 1 h s aU rfl rfl rfl (rfl) (rfl) (cj (rfl)) ?_;intro w1 s
  refine ac h (ai (h.ev rfl)) rfl ?_;intro f h
  refine ac h (ai (h.ev rfl)) rfl ?_;intro f h
  refine ah ?_
  refine hK2 _ _ ?_
  refine aj fun K3 hK3=>?_
  refine aj fun K4 hK4=>?_
  refine ae ?_
  refine ac h (ag (h.ev rfl)) rfl ?_;intro f h
  refine ac h (aw (.bool true) (cO (h.ev rfl) (h.ev rfl)) (by rfl)) rfl ?_;intro f h
  refine ah ?_
  refine hK4 _ _ ?_
  refine wpIn_cond_true (h.ev rfl) ?_
  refine aj fun K5 hK5=>?_
  refine ae ?_
  refine ac h (bM eE) rfl ?_;intro f h
  refine ac h (ag (h.ev rfl)) rfl ?_;intro f h
  refine ay 0 h s aU rfl rfl rfl (rfl) (rfl) (cj (rfl)) ?_;intro w1 s
  refine ac h (ai (h.ev rfl)) rfl ?_;intro f h
  refine ah ?_
  refine hK5 _ _ ?_
  refine wpIn_ret ?_
  refine aQ ?_
  exact cd 0 rfl h s aU rfl rfl (rfl) rfl (eH s (fV (nC r0) (by decide)) (nC r0))
 ·skip
  cases l0:(cw (aN L) no:Bool)
  ·skip
   refine ae ?_
   refine ao 1 h s aU rfl rfl (rfl) rfl ?_;intro f h
   refine ac h (ag (h.ev rfl)) rfl ?_;intro f h
   refine aF h s tF (jm L vo no _ (hO.keep s.ext) hL hb) rfl rfl ?_;intro f w1 v14 hop hE h sq
   obtain rfl:=hop.n (re r0 l0) (by decide)
   replace s:=sq
   refine ac h (ag (h.ev rfl)) rfl ?_;intro f h
   refine ac h (bB (h.ev rfl) rfl) rfl ?_;intro f h
   refine ac h (bB (h.ev rfl) rfl) rfl ?_;intro f h
   refine ac h (bB (h.ev rfl) rfl) rfl ?_;intro f h
   refine ay 1 h s aU rfl rfl rfl (rfl) (rfl) (cj (rfl)) ?_;intro w1 s
   refine ac h (ai (h.ev rfl)) rfl ?_;intro f h
   refine ac h (ai (h.ev rfl)) rfl ?_;intro f h
   refine ah ?_
   refine hK2 _ _ ?_
   refine aj fun K6 hK6=>?_
   refine aj fun K7 hK7=>?_
   refine ae ?_
   refine ac h (ag (h.ev rfl)) rfl ?_;intro f h
   refine ac h (aw (.bool true) (cO (h.ev rfl) (h.ev rfl)) (by rfl)) rfl ?_;intro f h
   refine ah ?_
   refine hK7 _ _ ?_
   refine wpIn_cond_true (h.ev rfl) ?_
   refine aj fun K8 hK8=>?_
   refine ae ?_
   refine ac h (bM eE) rfl ?_;intro f h
   refine ac h (ag (h.ev rfl)) rfl ?_;intro f h
   refine ay 0 h s aU rfl rfl rfl (rfl) (rfl) (cj (rfl)) ?_;intro w1 s
   refine ac h (ai (h.ev rfl)) rfl ?_;intro f h
   refine ah ?_
   refine hK8 _ _ ?_
   refine wpIn_ret ?_
   refine aQ ?_
   exact cd 0 rfl h s aU rfl rfl (rfl) rfl (eH s (fV (kG r0 l0) (by decide)) (kG r0 l0))
  ·skip
   refine ae ?_
   refine ao 1 h s aU rfl rfl (rfl) rfl ?_;intro f h
   refine ac h (ag (h.ev rfl)) rfl ?_;intro f h
   refine aF h s tF (jm L vo no _ (hO.keep s.ext) hL hb) rfl rfl ?_;intro f w1 v14 hop hE h sq
   obtain ⟨vq,K,ks,rfl,hnk,hS⟩:=hop.y (yD r0 l0)
   replace s:=s.add hS
   clear hS hop
   have hlk:=nD hnk
   have hrs:=(ex r0).rs
   have hio:bG L no<L.length:=of_decide_eq_true ((d6 hrs.nos).trans l0)
   have hRSK:=hrs.nds hnk
   refine ac h (ag (h.ev rfl)) rfl ?_;intro f h
   refine ac h (bB (h.ev rfl) rfl) rfl ?_;intro f h
   refine ac h (bB (h.ev rfl) rfl) rfl ?_;intro f h
   refine ac h (bB (h.ev rfl) rfl) rfl ?_;intro f h
   refine ay 3 h s aU rfl rfl rfl (rfl) (rfl) (cj (bP (s.getSl 0 rfl))) ?_;intro w1 s
   refine ac h (ai (h.ev rfl)) rfl ?_;intro f h
   refine ac h (ai (h.ev rfl)) rfl ?_;intro f h
   refine ah ?_
   refine hK2 _ _ ?_
   refine aj fun K9 hK9=>?_
   refine aj fun K10 hK10=>?_
   refine ae ?_
   refine ac h (ag (h.ev rfl)) rfl ?_;intro f h
   refine ac h (aw (.bool false) (cO (h.ev rfl) (h.ev rfl)) (by rfl)) rfl ?_;intro f h
   refine ah ?_
   refine hK10 _ _ ?_
   refine wpIn_cond_false (h.ev rfl) ?_
   refine wpIn_skip ?_
   refine hK9 _ _ ?_
   refine aj fun K11 hK11=>?_
   cases n1:(cw (aN L) to:Bool)
   ·skip
    refine ae ?_
    have hnos:=hrs.nos
    have hixe:=nH hnk to
    refine ao 3 h s aU rfl rfl (rfl) rfl ?_;intro f h
    refine ac h (ag (h.ev rfl)) rfl ?_;intro f h
    refine aF h s kP (aO (.pointer none) (ej K vq to _ ⟨(bK.of_own (s.getSl 0 rfl)),fun y hy=>(s.getG 1 rfl y hy)⟩ (by omega)) (oX (by rw [hixe,hlk];exact of_decide_eq_false ((d6 hnos).trans n1)))) rfl rfl ?_;intro f w1 v9 hT hE h s;obtain rfl:=hT
    refine ac h (ai (h.ev rfl)) rfl ?_;intro f h
    refine ah ?_
    refine hK11 _ _ ?_
    refine aj fun K12 hK12=>?_
    refine aj fun K13 hK13=>?_
    refine ae ?_
    refine ac h (ag (h.ev rfl)) rfl ?_;intro f h
    refine ac h (aw (.bool true) (en Tryz.underlying54 (h.ev rfl) (h.ev rfl)) (rfl)) rfl ?_;intro f h
    refine ah ?_
    refine hK13 _ _ ?_
    refine wpIn_cond_true (h.ev rfl) ?_
    refine aj fun K14 hK14=>?_
    refine ae ?_
    refine ac h (bM eE) rfl ?_;intro f h
    refine ay 2 h s aU rfl rfl rfl (rfl) (rfl) (cj (rfl)) ?_;intro w1 s
    refine ac h (ai (h.ev rfl)) rfl ?_;intro f h
    refine ah ?_
    refine hK14 _ _ ?_
    refine wpIn_ret ?_
    refine aQ ?_
    exact cd 2 rfl h s aU rfl rfl (rfl) rfl (eH s (fV (kr r0 n1) (by decide)) (kr r0 n1))
   ·skip
    refine ae ?_
    have hnos:=hrs.nos
    have hixe:=nH hnk to
    refine ao 3 h s aU rfl rfl (rfl) rfl ?_;intro f h
    refine ac h (ag (h.ev rfl)) rfl ?_;intro f h
    refine aF h s kP (aO (.pointer (some (bs vq ((bG L to)*68)))) (ej K vq to _ ⟨(bK.of_own (s.getSl 0 rfl)),fun y hy=>(s.getG 1 rfl y hy)⟩ (by omega)) (by rw [← hixe];exact oU (by rw [hixe,hlk];exact of_decide_eq_true ((d6 hnos).trans n1)))) rfl rfl ?_;intro f w1 v9 hT hE h s;obtain rfl:=hT
    refine ac h (ai (h.ev rfl)) rfl ?_;intro f h
    refine ah ?_
    refine hK11 _ _ ?_
    refine aj fun K15 hK15=>?_
    refine aj fun K16 hK16=>?_
    refine ae ?_
    have hk0:bG L no<K.length:=by omega
    have hi1:bG L to<K.length:=by rw [hlk];exact of_decide_eq_true ((d6 hnos).trans n1)
    have hr0:RN (K.getD (bG L no) z3).1:=hRSK.rn _ (bh hk0)
    have hr0l:=hr0.len
    have hr0f:=hr0.fg.1
    refine ac h (ag (h.ev rfl)) rfl ?_;intro f h
    refine ac h (aw (.bool false) (en Tryz.underlying54 (h.ev rfl) (h.ev rfl)) (rfl)) rfl ?_;intro f h
    refine ah ?_
    refine hK16 _ _ ?_
    refine wpIn_cond_false (h.ev rfl) ?_
    refine wpIn_skip ?_
    refine hK15 _ _ ?_
    refine aj fun K17 hK17=>?_
    refine aj fun K18 hK18=>?_
    replace s:St w [.sl vq 42 68 K.length (aK K),(.grp ks (fN K)),.blk b6 (.cells (#[bo]) 24),.blk b3 (.cells (#[vq]) 24)] _:=s
    refine y9 1 [[],[],[1],[1,2],[],[4],[4,5],[4,5,6],[1,2,3,4,5,6,7],[1,2,3,4,5,6,7,8],[1,2,3,4,5,6,7,8,9],[1,2,3,4,5,6,7,8,9],[0,1,2,3,4,5,6,7,8,9,10],[0,1,2,3,4,5,6,7,8,9,10,12],[0,1,2,3,4,5,6,7,8,9,10,11,12,13]] [[],[],[],[],[],[],[],[],[],[],[],[],[],[15],[]] [[],[],[],[0],[],[],[0],[0],[],[],[],[],[],[],[]] [fun _=>[],fun _=>[],fun _=>[],fun _=>[],fun _=>[],fun _=>[],fun _=>[],fun _=>[],fun v=>[.sl (ck 66 (v 8)) 28 33 (ci (K.getD (bG L no) z3).1 (K.getD (bG L to) z3).1.me).sc.length (av (ci (K.getD (bG L no) z3).1 (K.getD (bG L to) z3).1.me).sc),.sl (ck 67 (v 8)) 28 33 (ci (K.getD (bG L no) z3).1 (K.getD (bG L to) z3).1.me).fg.length (av (ci (K.getD (bG L no) z3).1 (K.getD (bG L to) z3).1.me).fg)],fun _=>[],fun _=>[],fun _=>[],fun _=>[],fun v=>[.sl vq 42 68 (K.set (bG L no) (((ci (K.getD (bG L no) z3).1 (K.getD (bG L to) z3).1.me),(ck 66 (v 8)),(ck 67 (v 8))):N3)).length (aK (K.set (bG L no) (((ci (K.getD (bG L no) z3).1 (K.getD (bG L to) z3).1.me),(ck 66 (v 8)),(ck 67 (v 8))):N3)))],fun _=>[]] [[.sl vq 42 68 K.length (aK K)]] [fun v=>v 0=.pointer (some (bs vq ((bG L no)*68))),fun v=>v 1=.pointer (some (bs vq ((bG L no)*68))),fun v=>v 2=.pointer (some (bs vq ((bG L no)*68))),fun v=>v 3=.agg (aD (K.getD (bG L no) z3).1.me (K.getD (bG L no) z3).1.pr (K.getD (bG L no) z3).2.1 (K.getD (bG L no) z3).2.2),fun v=>v 4=.pointer (some (bs vq ((bG L to)*68))),fun v=>v 5=.pointer (some (bs vq ((bG L to)*68))),fun v=>v 6=.pointer (some (bs vq ((bG L to)*68+0))),fun v=>v 7=.agg (au (K.getD (bG L to) z3).1.me),fun v=>v 8=.tuple #[.agg (aD (ci (K.getD (bG L no) z3).1 (K.getD (bG L to) z3).1.me).me (ci (K.getD (bG L no) z3).1 (K.getD (bG L to) z3).1.me).pr (ck 66 (v 8)) (ck 67 (v 8))),.int .i64 (de (K.getD (bG L no) z3).1 (K.getD (bG L to) z3).1.me)],fun v=>v 9=.tuple #[.agg (aD (ci (K.getD (bG L no) z3).1 (K.getD (bG L to) z3).1.me).me (ci (K.getD (bG L no) z3).1 (K.getD (bG L to) z3).1.me).pr (ck 66 (v 8)) (ck 67 (v 8))),.int .i64 (de (K.getD (bG L no) z3).1 (K.getD (bG L to) z3).1.me)],fun v=>v 10=.agg (aD (ci (K.getD (bG L no) z3).1 (K.getD (bG L to) z3).1.me).me (ci (K.getD (bG L no) z3).1 (K.getD (bG L to) z3).1.me).pr (ck 66 (v 8)) (ck 67 (v 8))),fun v=>v 11=.int .i64 (de (K.getD (bG L no) z3).1 (K.getD (bG L to) z3).1.me),fun v=>v 12=.pointer (some (bs vq ((bG L no)*68))),fun _=>True,fun v=>v 14=.int .i64 (de (K.getD (bG L no) z3).1 (K.getD (bG L to) z3).1.me)] [(.grp ks (fN K)),.blk b6 (.cells (#[bo]) 24),.blk b3 (.cells (#[vq]) 24)] h s rfl (by kernel_rfl) (by kernel_rfl) (by kernel_rfl) (by kernel_rfl) (And.intro ?_ (And.intro ?_ (And.intro ?_ (And.intro ?_ (And.intro ?_ (And.intro ?_ (And.intro ?_ (And.intro ?_ (And.intro ?_ (And.intro ?_ (And.intro ?_ (And.intro ?_ (And.intro ?_ (And.intro ?_ (And.intro ?_ (trivial)))))))))))))))) [0,1,2,3,4,5,6,7,8,9,10,11,12,13,14] (by kernel_rfl) ?_
    ·intro f9 w2 vl7 E9 hs9 hd9 hl hF hR9 s
     have e8:f9.tmps.getD 8 undef=_:=cD hl 8 (by kernel_rfl) (by kernel_rfl) (h.holds 8 _ rfl)
     have h:=aq [(8,_)] (hs9.trans h.size) (hd9.trans h.defers) (holds_lk ⟨e8,trivial⟩)
     replace s:St w ((.grp ks (fN K))::.blk b6 (.cells (#[bo]) 24)::.blk b3 (.cells (#[vq]) 24)::E9) _:=s
     refine ac h (ag (h.ev rfl)) rfl ?_;intro f h
     exact ah ⟨_,a7 29 rfl (h.holds 29 _ rfl),rfl,s⟩
    ·intro f9 w2 vl7 E9 hs9 hd9 hl hF hR9 s
     have e8:f9.tmps.getD 8 undef=_:=cD hl 8 (by kernel_rfl) (by kernel_rfl) (h.holds 8 _ rfl)
     have h:=aq [(8,_)] (hs9.trans h.size) (hd9.trans h.defers) (holds_lk ⟨e8,trivial⟩)
     replace s:St w ((.grp ks (fN K))::.blk b6 (.cells (#[bo]) 24)::.blk b3 (.cells (#[vq]) 24)::E9) _:=s
     refine ac h (ag (h.ev rfl)) rfl ?_;intro f h
     exact ah ⟨_,a7 30 rfl (h.holds 30 _ rfl),rfl,s⟩
    ·intro f9 w2 vl7 E9 hs9 hd9 hl hF hR9 s
     have e30:f9.tmps.getD 30 undef=.pointer (some (bs vq ((bG L no)*68))):=(aW hl 30 1 (by kernel_rfl) (by kernel_rfl)).trans (hF 1 (by decide))
     have h:=aq [(30,.pointer (some (bs vq ((bG L no)*68))))] (hs9.trans h.size) (hd9.trans h.defers) (holds_lk ⟨e30,trivial⟩)
     replace s:St w ((.grp ks (fN K))::.blk b6 (.cells (#[bo]) 24)::.blk b3 (.cells (#[vq]) 24)::E9) _:=s
     refine ac h (bN (h.ev rfl)) rfl ?_;intro f h
     exact ah ⟨_,a7 31 rfl (h.holds 31 _ rfl),rfl,s⟩
    ·intro f9 w2 vl7 E9 hs9 hd9 hl hF hR9 s
     have hq9:Own.sl vq 42 68 K.length (aK K)∈E9:=hR9 0 (by decide) _ List.mem_cons_self
     have e31:f9.tmps.getD 31 undef=.pointer (some (bs vq ((bG L no)*68))):=(aW hl 31 2 (by kernel_rfl) (by kernel_rfl)).trans (hF 2 (by decide))
     have h:=aq [(31,.pointer (some (bs vq ((bG L no)*68))))] (hs9.trans h.size) (hd9.trans h.defers) (holds_lk ⟨e31,trivial⟩)
     replace s:St w ((.grp ks (fN K))::.blk b6 (.cells (#[bo]) 24)::.blk b3 (.cells (#[vq]) 24)::E9) _:=s
     have hq8:Own.sl vq 42 68 K.length (aK K)∈((.grp ks (fN K))::.blk b6 (.cells (#[bo]) 24)::.blk b3 (.cells (#[vq]) 24)::E9):=by simp only [List.mem_cons,List.mem_append,hq9,or_true]
     refine aM ((bK.of_own (s.memSl hq8)).el ((bG L no)) (by omega) (by decide) (D:=aD (K.getD (bG L no) z3).1.me (K.getD (bG L no) z3).1.pr (K.getD (bG L no) z3).2.1 (K.getD (bG L no) z3).2.2) (c6 K _ hk0)) h bS rfl (aA _ _ _ _) rfl ?_;intro f h
     exact ah ⟨_,a7 32 rfl (h.holds 32 _ rfl),rfl,s⟩
    ·intro f9 w2 vl7 E9 hs9 hd9 hl hF hR9 s
     have e10:f9.tmps.getD 10 undef=_:=cD hl 10 (by kernel_rfl) (by kernel_rfl) (h.holds 10 _ rfl)
     have h:=aq [(10,_)] (hs9.trans h.size) (hd9.trans h.defers) (holds_lk ⟨e10,trivial⟩)
     replace s:St w ((.grp ks (fN K))::.blk b6 (.cells (#[bo]) 24)::.blk b3 (.cells (#[vq]) 24)::E9) _:=s
     refine ac h (ag (h.ev rfl)) rfl ?_;intro f h
     exact ah ⟨_,a7 33 rfl (h.holds 33 _ rfl),rfl,s⟩
    ·intro f9 w2 vl7 E9 hs9 hd9 hl hF hR9 s
     have e33:f9.tmps.getD 33 undef=.pointer (some (bs vq ((bG L to)*68))):=(aW hl 33 4 (by kernel_rfl) (by kernel_rfl)).trans (hF 4 (by decide))
     have h:=aq [(33,.pointer (some (bs vq ((bG L to)*68))))] (hs9.trans h.size) (hd9.trans h.defers) (holds_lk ⟨e33,trivial⟩)
     replace s:St w ((.grp ks (fN K))::.blk b6 (.cells (#[bo]) 24)::.blk b3 (.cells (#[vq]) 24)::E9) _:=s
     refine ac h (bN (h.ev rfl)) rfl ?_;intro f h
     exact ah ⟨_,a7 34 rfl (h.holds 34 _ rfl),rfl,s⟩
    ·intro f9 w2 vl7 E9 hs9 hd9 hl hF hR9 s
     have hq9:Own.sl vq 42 68 K.length (aK K)∈E9:=hR9 0 (by decide) _ List.mem_cons_self
     have e34:f9.tmps.getD 34 undef=.pointer (some (bs vq ((bG L to)*68))):=(aW hl 34 5 (by kernel_rfl) (by kernel_rfl)).trans (hF 5 (by decide))
     have h:=aq [(34,.pointer (some (bs vq ((bG L to)*68))))] (hs9.trans h.size) (hd9.trans h.defers) (holds_lk ⟨e34,trivial⟩)
     replace s:St w ((.grp ks (fN K))::.blk b6 (.cells (#[bo]) 24)::.blk b3 (.cells (#[vq]) 24)::E9) _:=s
     have hq8:Own.sl vq 42 68 K.length (aK K)∈((.grp ks (fN K))::.blk b6 (.cells (#[bo]) 24)::.blk b3 (.cells (#[vq]) 24)::E9):=by simp only [List.mem_cons,List.mem_append,hq9,or_true]
     refine ac h (ca a6 (h.ev rfl) ((bK.of_own (s.memSl hq8)).some (by omega))) rfl ?_;intro f h
     exact ah ⟨_,a7 35 rfl (h.holds 35 _ rfl),rfl,s⟩
    ·intro f9 w2 vl7 E9 hs9 hd9 hl hF hR9 s
     have hq9:Own.sl vq 42 68 K.length (aK K)∈E9:=hR9 0 (by decide) _ List.mem_cons_self
     have e35:f9.tmps.getD 35 undef=.pointer (some (bs vq ((bG L to)*68+0))):=(aW hl 35 6 (by kernel_rfl) (by kernel_rfl)).trans (hF 6 (by decide))
     have h:=aq [(35,.pointer (some (bs vq ((bG L to)*68+0))))] (hs9.trans h.size) (hd9.trans h.defers) (holds_lk ⟨e35,trivial⟩)
     replace s:St w ((.grp ks (fN K))::.blk b6 (.cells (#[bo]) 24)::.blk b3 (.cells (#[vq]) 24)::E9) _:=s
     have hq8:Own.sl vq 42 68 K.length (aK K)∈((.grp ks (fN K))::.blk b6 (.cells (#[bo]) 24)::.blk b3 (.cells (#[vq]) 24)::E9):=by simp only [List.mem_cons,List.mem_append,hq9,or_true]
     refine aM (bK.elF (bK.of_own (s.memSl hq8)) ((bG L to)) 0 33 (by omega) (by decide) (C:=aD (K.getD (bG L to) z3).1.me (K.getD (bG L to) z3).1.pr (K.getD (bG L to) z3).2.1 (K.getD (bG L to) z3).2.2) (c6 K _ hi1) (D:=au (K.getD (bG L to) z3).1.me) (bU _ _ _ _)) h aL rfl (ak _) rfl ?_;intro f h
     exact ah ⟨_,a7 36 rfl (h.holds 36 _ rfl),rfl,s⟩
    ·intro f9 w2 vl7 E9 hs9 hd9 hl hF hR9 s
     have e32:f9.tmps.getD 32 undef=.agg (aD (K.getD (bG L no) z3).1.me (K.getD (bG L no) z3).1.pr (K.getD (bG L no) z3).2.1 (K.getD (bG L no) z3).2.2):=(aW hl 32 3 (by kernel_rfl) (by kernel_rfl)).trans (hF 3 (by decide))
     have e36:f9.tmps.getD 36 undef=.agg (au (K.getD (bG L to) z3).1.me):=(aW hl 36 7 (by kernel_rfl) (by kernel_rfl)).trans (hF 7 (by decide))
     have h:=aq [(32,.agg (aD (K.getD (bG L no) z3).1.me (K.getD (bG L no) z3).1.pr (K.getD (bG L no) z3).2.1 (K.getD (bG L no) z3).2.2)),(36,.agg (au (K.getD (bG L to) z3).1.me))] (hs9.trans h.size) (hd9.trans h.defers) (holds_lk ⟨e32,e36,trivial⟩)
     replace s:St w ((.grp ks (fN K))::.blk b6 (.cells (#[bo]) 24)::.blk b3 (.cells (#[vq]) 24)::E9) _:=s
     refine aF h s rJ (gE (K.getD (bG L no) z3).1 (K.getD (bG L no) z3).2.1 (K.getD (bG L no) z3).2.2 (K.getD (bG L to) z3).1.me _ (s.getG 0 rfl _ (bh hk0)).1 (s.getG 0 rfl _ (bh hk0)).2 (by omega) (by omega)) rfl rfl ?_;rintro f w1 v37 ⟨cu,cv,hv9,hS⟩ hE h sq;replace s:=s.add hS
     have h66:cu=ck 66 v37:=by rw [hv9];exact(nV (bK.of_own (hS.getSl 0 rfl))).symm
     have h67:cv=ck 67 v37:=by rw [hv9];exact(nJ (bK.of_own (hS.getSl 1 rfl))).symm
     clear hS
     subst h66;subst h67
     exact ah ⟨_,a7 37 rfl (h.holds 37 _ rfl),hv9,s⟩
    ·intro f9 w2 vl7 E9 hs9 hd9 hl hF hR9 s
     have e37:f9.tmps.getD 37 undef=.tuple #[.agg (aD (ci (K.getD (bG L no) z3).1 (K.getD (bG L to) z3).1.me).me (ci (K.getD (bG L no) z3).1 (K.getD (bG L to) z3).1.me).pr (ck 66 (vl7 8)) (ck 67 (vl7 8))),.int .i64 (de (K.getD (bG L no) z3).1 (K.getD (bG L to) z3).1.me)]:=(aW hl 37 8 (by kernel_rfl) (by kernel_rfl)).trans (hF 8 (by decide))
     have h:=aq [(37,.tuple #[.agg (aD (ci (K.getD (bG L no) z3).1 (K.getD (bG L to) z3).1.me).me (ci (K.getD (bG L no) z3).1 (K.getD (bG L to) z3).1.me).pr (ck 66 (vl7 8)) (ck 67 (vl7 8))),.int .i64 (de (K.getD (bG L no) z3).1 (K.getD (bG L to) z3).1.me)])] (hs9.trans h.size) (hd9.trans h.defers) (holds_lk ⟨e37,trivial⟩)
     replace s:St w ((.grp ks (fN K))::.blk b6 (.cells (#[bo]) 24)::.blk b3 (.cells (#[vq]) 24)::E9) _:=s
     refine ac h (ag (h.ev rfl)) rfl ?_;intro f h
     exact ah ⟨_,a7 28 rfl (h.holds 28 _ rfl),rfl,s⟩
    ·intro f9 w2 vl7 E9 hs9 hd9 hl hF hR9 s
     have e28:f9.tmps.getD 28 undef=.tuple #[.agg (aD (ci (K.getD (bG L no) z3).1 (K.getD (bG L to) z3).1.me).me (ci (K.getD (bG L no) z3).1 (K.getD (bG L to) z3).1.me).pr (ck 66 (vl7 8)) (ck 67 (vl7 8))),.int .i64 (de (K.getD (bG L no) z3).1 (K.getD (bG L to) z3).1.me)]:=(aW hl 28 9 (by kernel_rfl) (by kernel_rfl)).trans (hF 9 (by decide))
     have h:=aq [(28,.tuple #[.agg (aD (ci (K.getD (bG L no) z3).1 (K.getD (bG L to) z3).1.me).me (ci (K.getD (bG L no) z3).1 (K.getD (bG L to) z3).1.me).pr (ck 66 (vl7 8)) (ck 67 (vl7 8))),.int .i64 (de (K.getD (bG L no) z3).1 (K.getD (bG L to) z3).1.me)])] (hs9.trans h.size) (hd9.trans h.defers) (holds_lk ⟨e28,trivial⟩)
     replace s:St w ((.grp ks (fN K))::.blk b6 (.cells (#[bo]) 24)::.blk b3 (.cells (#[vq]) 24)::E9) _:=s
     refine ac h (bB (h.ev rfl) rfl) rfl ?_;intro f h
     exact ah ⟨_,a7 38 rfl (h.holds 38 _ rfl),rfl,s⟩
    ·intro f9 w2 vl7 E9 hs9 hd9 hl hF hR9 s
     have e28:f9.tmps.getD 28 undef=.tuple #[.agg (aD (ci (K.getD (bG L no) z3).1 (K.getD (bG L to) z3).1.me).me (ci (K.getD (bG L no) z3).1 (K.getD (bG L to) z3).1.me).pr (ck 66 (vl7 8)) (ck 67 (vl7 8))),.int .i64 (de (K.getD (bG L no) z3).1 (K.getD (bG L to) z3).1.me)]:=(aW hl 28 9 (by kernel_rfl) (by kernel_rfl)).trans (hF 9 (by decide))
     have h:=aq [(28,.tuple #[.agg (aD (ci (K.getD (bG L no) z3).1 (K.getD (bG L to) z3).1.me).me (ci (K.getD (bG L no) z3).1 (K.getD (bG L to) z3).1.me).pr (ck 66 (vl7 8)) (ck 67 (vl7 8))),.int .i64 (de (K.getD (bG L no) z3).1 (K.getD (bG L to) z3).1.me)])] (hs9.trans h.size) (hd9.trans h.defers) (holds_lk ⟨e28,trivial⟩)
     replace s:St w ((.grp ks (fN K))::.blk b6 (.cells (#[bo]) 24)::.blk b3 (.cells (#[vq]) 24)::E9) _:=s
     refine ac h (bB (h.ev rfl) rfl) rfl ?_;intro f h
     exact ah ⟨_,a7 39 rfl (h.holds 39 _ rfl),rfl,s⟩
    ·intro f9 w2 vl7 E9 hs9 hd9 hl hF hR9 s
     have e29:f9.tmps.getD 29 undef=.pointer (some (bs vq ((bG L no)*68))):=(aW hl 29 0 (by kernel_rfl) (by kernel_rfl)).trans (hF 0 (by decide))
     have h:=aq [(29,.pointer (some (bs vq ((bG L no)*68))))] (hs9.trans h.size) (hd9.trans h.defers) (holds_lk ⟨e29,trivial⟩)
     replace s:St w ((.grp ks (fN K))::.blk b6 (.cells (#[bo]) 24)::.blk b3 (.cells (#[vq]) 24)::E9) _:=s
     refine ac h (bN (h.ev rfl)) rfl ?_;intro f h
     exact ah ⟨_,a7 40 rfl (h.holds 40 _ rfl),rfl,s⟩
    ·intro f9 w2 vl7 E9 hs9 hd9 hl hF hR9 s
     have e40:f9.tmps.getD 40 undef=.pointer (some (bs vq ((bG L no)*68))):=(aW hl 40 12 (by kernel_rfl) (by kernel_rfl)).trans (hF 12 (by decide))
     have e38:f9.tmps.getD 38 undef=.agg (aD (ci (K.getD (bG L no) z3).1 (K.getD (bG L to) z3).1.me).me (ci (K.getD (bG L no) z3).1 (K.getD (bG L to) z3).1.me).pr (ck 66 (vl7 8)) (ck 67 (vl7 8))):=(aW hl 38 10 (by kernel_rfl) (by kernel_rfl)).trans (hF 10 (by decide))
     have h:=aq [(40,.pointer (some (bs vq ((bG L no)*68)))),(38,.agg (aD (ci (K.getD (bG L no) z3).1 (K.getD (bG L to) z3).1.me).me (ci (K.getD (bG L no) z3).1 (K.getD (bG L to) z3).1.me).pr (ck 66 (vl7 8)) (ck 67 (vl7 8))))] (hs9.trans h.size) (hd9.trans h.defers) (holds_lk ⟨e40,e38,trivial⟩)
     replace s:St w (.sl vq 42 68 K.length (aK K)::(.grp ks (fN K))::.blk b6 (.cells (#[bo]) 24)::.blk b3 (.cells (#[vq]) 24)::E9) _:=s
     refine jo 0 ((bG L no)) h s bS rfl rfl rfl (aA _ _ _ _) (by omega) (bW (fO _ _) (fO _ _)) (show _=aK (K.set (bG L no) (((ci (K.getD (bG L no) z3).1 (K.getD (bG L to) z3).1.me),(ck 66 (vl7 8)),(ck 67 (vl7 8))):N3)) from zk hk0 (((ci (K.getD (bG L no) z3).1 (K.getD (bG L to) z3).1.me),(ck 66 (vl7 8)),(ck 67 (vl7 8))):N3)) ?_;intro w1 s
     replace s:=s.resl (m:=(K.set (bG L no) (((ci (K.getD (bG L no) z3).1 (K.getD (bG L to) z3).1.me),(ck 66 (vl7 8)),(ck 67 (vl7 8))):N3)).length) (ys:=aK (K.set (bG L no) (((ci (K.getD (bG L no) z3).1 (K.getD (bG L to) z3).1.me),(ck 66 (vl7 8)),(ck 67 (vl7 8))):N3))) 0 rfl (by rw [List.length_set]) rfl
     exact ah ⟨undef,im rfl,trivial,s⟩
    ·intro f9 w2 vl7 E9 hs9 hd9 hl hF hR9 s
     have e39:f9.tmps.getD 39 undef=.int .i64 (de (K.getD (bG L no) z3).1 (K.getD (bG L to) z3).1.me):=(aW hl 39 11 (by kernel_rfl) (by kernel_rfl)).trans (hF 11 (by decide))
     have h:=aq [(39,.int .i64 (de (K.getD (bG L no) z3).1 (K.getD (bG L to) z3).1.me))] (hs9.trans h.size) (hd9.trans h.defers) (holds_lk ⟨e39,trivial⟩)
     replace s:St w ((.grp ks (fN K))::.blk b6 (.cells (#[bo]) 24)::.blk b3 (.cells (#[vq]) 24)::E9) _:=s
     refine ac h (ai (h.ev rfl)) rfl ?_;intro f h
     exact ah ⟨_,a7 9 rfl (h.holds 9 _ rfl),rfl,s⟩
    intro f w1 vl7 hs9 hd9 hv hr hF s
    replace h:=kM (ops:=_) [(29,.pointer (some (bs vq ((bG L no)*68)))),(30,.pointer (some (bs vq ((bG L no)*68)))),(31,.pointer (some (bs vq ((bG L no)*68)))),(32,.agg (aD (K.getD (bG L no) z3).1.me (K.getD (bG L no) z3).1.pr (K.getD (bG L no) z3).2.1 (K.getD (bG L no) z3).2.2)),(33,.pointer (some (bs vq ((bG L to)*68)))),(34,.pointer (some (bs vq ((bG L to)*68)))),(35,.pointer (some (bs vq ((bG L to)*68+0)))),(36,.agg (au (K.getD (bG L to) z3).1.me)),(37,.tuple #[.agg (aD (ci (K.getD (bG L no) z3).1 (K.getD (bG L to) z3).1.me).me (ci (K.getD (bG L no) z3).1 (K.getD (bG L to) z3).1.me).pr (ck 66 (vl7 8)) (ck 67 (vl7 8))),.int .i64 (de (K.getD (bG L no) z3).1 (K.getD (bG L to) z3).1.me)]),(28,.tuple #[.agg (aD (ci (K.getD (bG L no) z3).1 (K.getD (bG L to) z3).1.me).me (ci (K.getD (bG L no) z3).1 (K.getD (bG L to) z3).1.me).pr (ck 66 (vl7 8)) (ck 67 (vl7 8))),.int .i64 (de (K.getD (bG L no) z3).1 (K.getD (bG L to) z3).1.me)]),(38,.agg (aD (ci (K.getD (bG L no) z3).1 (K.getD (bG L to) z3).1.me).me (ci (K.getD (bG L no) z3).1 (K.getD (bG L to) z3).1.me).pr (ck 66 (vl7 8)) (ck 67 (vl7 8)))),(39,.int .i64 (de (K.getD (bG L no) z3).1 (K.getD (bG L to) z3).1.me)),(40,.pointer (some (bs vq ((bG L no)*68)))),(9,.int .i64 (de (K.getD (bG L no) z3).1 (K.getD (bG L to) z3).1.me))] h hs9 hd9 hr ⟨(hv 0 29 rfl).trans (hF 0 (by kernel_rfl)),(hv 1 30 rfl).trans (hF 1 (by kernel_rfl)),(hv 2 31 rfl).trans (hF 2 (by kernel_rfl)),(hv 3 32 rfl).trans (hF 3 (by kernel_rfl)),(hv 4 33 rfl).trans (hF 4 (by kernel_rfl)),(hv 5 34 rfl).trans (hF 5 (by kernel_rfl)),(hv 6 35 rfl).trans (hF 6 (by kernel_rfl)),(hv 7 36 rfl).trans (hF 7 (by kernel_rfl)),(hv 8 37 rfl).trans (hF 8 (by kernel_rfl)),(hv 9 28 rfl).trans (hF 9 (by kernel_rfl)),(hv 10 38 rfl).trans (hF 10 (by kernel_rfl)),(hv 11 39 rfl).trans (hF 11 (by kernel_rfl)),(hv 12 40 rfl).trans (hF 12 (by kernel_rfl)),(hv 14 9 rfl).trans (hF 14 (by kernel_rfl)),trivial⟩ (by kernel_rfl)
    replace s:St w [.sl (ck 66 (vl7 8)) 28 33 (ci (K.getD (bG L no) z3).1 (K.getD (bG L to) z3).1.me).sc.length (av (ci (K.getD (bG L no) z3).1 (K.getD (bG L to) z3).1.me).sc),.sl (ck 67 (vl7 8)) 28 33 (ci (K.getD (bG L no) z3).1 (K.getD (bG L to) z3).1.me).fg.length (av (ci (K.getD (bG L no) z3).1 (K.getD (bG L to) z3).1.me).fg),.sl vq 42 68 (K.set (bG L no) (((ci (K.getD (bG L no) z3).1 (K.getD (bG L to) z3).1.me),(ck 66 (vl7 8)),(ck 67 (vl7 8))):N3)).length (aK (K.set (bG L no) (((ci (K.getD (bG L no) z3).1 (K.getD (bG L to) z3).1.me),(ck 66 (vl7 8)),(ck 67 (vl7 8))):N3))),(.grp ks (fN K)),.blk b6 (.cells (#[bo]) 24),.blk b3 (.cells (#[vq]) 24)] _:=s
    replace s:=s.bring 3 rfl
    replace s:=s.bring 2 rfl
    replace s:=s.bring 2 rfl
    replace s:St w [.sl (ck 66 (vl7 8)) 28 33 (ci (K.getD (bG L no) z3).1 (K.getD (bG L to) z3).1.me).sc.length (av (ci (K.getD (bG L no) z3).1 (K.getD (bG L to) z3).1.me).sc),.sl (ck 67 (vl7 8)) 28 33 (ci (K.getD (bG L no) z3).1 (K.getD (bG L to) z3).1.me).fg.length (av (ci (K.getD (bG L no) z3).1 (K.getD (bG L to) z3).1.me).fg),(.grp ks (fN K)),.sl vq 42 68 (K.set (bG L no) (((ci (K.getD (bG L no) z3).1 (K.getD (bG L to) z3).1.me),(ck 66 (vl7 8)),(ck 67 (vl7 8))):N3)).length (aK (K.set (bG L no) (((ci (K.getD (bG L no) z3).1 (K.getD (bG L to) z3).1.me),(ck 66 (vl7 8)),(ck 67 (vl7 8))):N3))),.blk b6 (.cells (#[bo]) 24),.blk b3 (.cells (#[vq]) 24)] _:=s
    obtain ⟨k2,s⟩:=s.grpR (S':=fN (K.set (bG L no) (((ci (K.getD (bG L no) z3).1 (K.getD (bG L to) z3).1.me),(ck 66 (vl7 8)),(ck 67 (vl7 8))):N3))) (fun w9 h1 h2 h3=>wN h3 ⟨h1,h2⟩)
    have hfin:=zI (u:=ck 66 (vl7 8)) (v:=ck 67 (vl7 8)) hrs r0 l0 n1 hnk
    refine hK18 _ _ ?_
    refine aj fun K19 hK19=>?_
    cases p0:(decide ((de (K.getD (bG L no) z3).1 (K.getD (bG L to) z3).1.me)=0):Bool)
    ·skip
     refine ae ?_
     refine ac h (ag (h.ev rfl)) rfl ?_;intro f h
     refine ac h (aw (.bool true) (cO (h.ev rfl) (h.ev rfl)) (congrArg Value.bool (decide_eq_true (of_decide_eq_false p0)))) rfl ?_;intro f h
     refine ah ?_
     refine hK19 _ _ ?_
     refine wpIn_cond_true (h.ev rfl) ?_
     refine aj fun K20 hK20=>?_
     refine ae ?_
     refine ac h (bM eE) rfl ?_;intro f h
     refine ac h (ag (h.ev rfl)) rfl ?_;intro f h
     refine ay 2 h s aU rfl rfl rfl (rfl) (rfl) (cj (rfl)) ?_;intro w1 s
     refine ac h (ai (h.ev rfl)) rfl ?_;intro f h
     refine ah ?_
     refine hK20 _ _ ?_
     refine wpIn_ret ?_
     refine aQ ?_
     exact cd 2 rfl h s aU rfl rfl (rfl) rfl (eH s (fV hfin.1.symm (of_decide_eq_false p0)) hfin.1.symm)
    ·skip
     refine ae ?_
     refine ac h (ag (h.ev rfl)) rfl ?_;intro f h
     refine ac h (aw (.bool false) (cO (h.ev rfl) (h.ev rfl)) (congrArg Value.bool (decide_eq_false (not_not_intro (of_decide_eq_true p0))))) rfl ?_;intro f h
     refine ah ?_
     refine hK19 _ _ ?_
     refine wpIn_cond_false (h.ev rfl) ?_
     refine wpIn_skip ?_
     refine hK17 _ _ ?_
     refine aj fun K21 hK21=>?_
     refine ae ?_
     refine ao 3 h s aU rfl rfl (rfl) rfl ?_;intro f h
     refine ay 2 h s aU rfl rfl rfl (rfl) (rfl) (cj (bP (s.getSl 1 rfl))) ?_;intro w1 s
     refine ac h (ai (h.ev rfl)) rfl ?_;intro f h
     refine ah ?_
     refine hK21 _ _ ?_
     refine wpIn_ret ?_
     exact cd 2 rfl h s aU rfl rfl (rfl) rfl (jV (hfin.1.symm.trans (of_decide_eq_true p0)) (rK (hfin.2 (hfin.1.symm.trans (of_decide_eq_true p0))) (s.sel [1,0] rfl (by decide))))
end Go.Proofs.YthggibfkgofncaaGreat
