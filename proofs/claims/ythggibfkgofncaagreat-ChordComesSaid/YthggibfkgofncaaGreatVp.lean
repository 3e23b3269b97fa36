/- What Point of package node answers: for all nodes with at most 900 members in each row. -/
import Derived.Test.YthggibfkgofncaaGreatVj
set_option linter.unusedVariables false
set_option linter.unusedSimpArgs false
set_option linter.unusedSectionVars false
namespace Go.Proofs.YthggibfkgofncaaGreat
open Go.RowKit
theorem gE (n:Nd) (vs vf:Value) (x:Mb) (w:World) (hRs:bK w vs 33 n.sc.length (av n.sc)) (hRf:bK w vf 33 n.fg.length (av n.fg)) (hns:n.sc.length≤900) (hnf:n.fg.length≤900):Calls Tryz.prog 21 [.agg (aD n.me n.pr vs vf),.agg (au x)].toArray w (cT w (tB w 28 (ci n x) (de n x))):=by
 refine bj Tryz.func21 rfl Tryz.ntmps21 rfl [(0,.agg (aD n.me n.pr vs vf)),(1,.agg (au x))] (by simp) fun f h=>?_
 have s:=St.start w
 refine aj fun K1 hK1=>?_
 refine ae ?_
 refine bT (aD n.me n.pr vs vf) h s rfl rfl rfl ?_;intro f w1 b2 h s
 refine bT ((au x)) h s rfl rfl rfl ?_;intro f w1 b3 h s
 refine ba (aD a8 a8 bo bo) h s dH rfl rfl ?_;intro f w1 b4 h s
 refine ac h (ai (h.ev rfl)) rfl ?_;intro f h
 refine ah ?_
 refine hK1 _ _ ?_
 refine aj fun K2 hK2=>?_
 refine aj fun K3 hK3=>?_
 cases hr:(cM n:Bool)
 ·skip
  refine ae ?_
  refine ao 2 h s bS rfl rfl (aA _ _ _ _) rfl ?_;intro f h
  refine aF h s lz (aO (.bool false) (ef n vs vf _ (hRs.keep s.ext) (hRf.keep s.ext) (by omega) (by omega)) (congrArg Value.bool hr)) rfl rfl ?_;intro f w1 v9 hT hE h s;obtain rfl:=hT
  refine ac h (aw (.bool true) (bg (h.ev rfl)) rfl) rfl ?_;intro f h
  refine ac h (ag (h.ev rfl)) rfl ?_;intro f h
  refine aC (b:=false) h rfl rfl rfl rfl ?_;intro f h
  refine aC (b:=false) h rfl rfl rfl rfl ?_;intro f h
  refine aC (b:=false) h rfl rfl rfl rfl ?_;intro f h
  refine ac h (aJ (h.ev rfl) (h.ev rfl)) rfl ?_;intro f h
  refine ac h (ag (h.ev rfl)) rfl ?_;intro f h
  refine aC (b:=false) h rfl rfl rfl rfl ?_;intro f h
  refine aC (b:=false) h rfl rfl rfl rfl ?_;intro f h
  refine aC (b:=false) h rfl rfl rfl rfl ?_;intro f h
  refine aC (b:=false) h rfl rfl rfl rfl ?_;intro f h
  refine aC (b:=false) h rfl rfl rfl rfl ?_;intro f h
  refine aC (b:=false) h rfl rfl rfl rfl ?_;intro f h
  refine ac h (aJ (h.ev rfl) (h.ev rfl)) rfl ?_;intro f h
  refine ah ?_
  refine hK3 _ _ ?_
  refine wpIn_cond_true (h.ev rfl) ?_
  refine aj fun K4 hK4=>?_
  refine ae ?_
  refine ac h (ez oP) rfl ?_;intro f h
  refine ay 0 h s bS rfl rfl rfl (aA _ _ _ _) (aA _ _ _ _) (bW (rfl) (rfl)) ?_;intro w1 s
  refine ac h (ai (h.ev rfl)) rfl ?_;intro f h
  refine ah ?_
  refine hK4 _ _ ?_
  refine wpIn_ret ?_
  refine aQ ?_
  exact cd 0 rfl h s bS rfl rfl (aA _ _ _ _) rfl (mm s (qJ (by rw [yZ hr];decide)) (yZ hr))
 ·skip
  cases hx:(dd x:Bool)
  ·skip
   refine ae ?_
   refine ao 2 h s bS rfl rfl (aA _ _ _ _) rfl ?_;intro f h
   refine aF h s lz (aO (.bool true) (ef n vs vf _ (hRs.keep s.ext) (hRf.keep s.ext) (by omega) (by omega)) (congrArg Value.bool hr)) rfl rfl ?_;intro f w1 v9 hT hE h s;obtain rfl:=hT
   refine ac h (aw (.bool false) (bg (h.ev rfl)) rfl) rfl ?_;intro f h
   refine ac h (ag (h.ev rfl)) rfl ?_;intro f h
   refine aB h rfl rfl rfl ?_
   refine ao 1 h s aL rfl rfl (ak _) rfl ?_;intro f h
   refine aB h rfl rfl rfl ?_
   refine aF h s fu (aO (.bool false) (da x _) (congrArg Value.bool hx)) rfl rfl ?_;intro f w1 v9 hT hE h s;obtain rfl:=hT
   refine aB h rfl rfl rfl ?_
   refine ac h (aw (.bool true) (bg (h.ev rfl)) rfl) rfl ?_;intro f h
   refine ac h (aE (h.ev rfl) (h.ev rfl)) rfl ?_;intro f h
   refine ac h (ag (h.ev rfl)) rfl ?_;intro f h
   refine aC (b:=false) h rfl rfl rfl rfl ?_;intro f h
   refine aC (b:=false) h rfl rfl rfl rfl ?_;intro f h
   refine aC (b:=false) h rfl rfl rfl rfl ?_;intro f h
   refine aC (b:=false) h rfl rfl rfl rfl ?_;intro f h
   refine aC (b:=false) h rfl rfl rfl rfl ?_;intro f h
   refine aC (b:=false) h rfl rfl rfl rfl ?_;intro f h
   refine ac h (aJ (h.ev rfl) (h.ev rfl)) rfl ?_;intro f h
   refine ah ?_
   refine hK3 _ _ ?_
   refine wpIn_cond_true (h.ev rfl) ?_
   refine aj fun K5 hK5=>?_
   refine ae ?_
   refine ac h (ez oP) rfl ?_;intro f h
   refine ay 0 h s bS rfl rfl rfl (aA _ _ _ _) (aA _ _ _ _) (bW (rfl) (rfl)) ?_;intro w1 s
   refine ac h (ai (h.ev rfl)) rfl ?_;intro f h
   refine ah ?_
   refine hK5 _ _ ?_
   refine wpIn_ret ?_
   refine aQ ?_
   exact cd 0 rfl h s bS rfl rfl (aA _ _ _ _) rfl (mm s (qJ (by rw [zB hx];decide)) (zB hx))
  ·skip
   cases h2:(decide (x.1=n.me.1):Bool)
   ·skip
    refine ae ?_
    refine ao 2 h s bS rfl rfl (aA _ _ _ _) rfl ?_;intro f h
    refine aF h s lz (aO (.bool true) (ef n vs vf _ (hRs.keep s.ext) (hRf.keep s.ext) (by omega) (by omega)) (congrArg Value.bool hr)) rfl rfl ?_;intro f w1 v9 hT hE h s;obtain rfl:=hT
    refine ac h (aw (.bool false) (bg (h.ev rfl)) rfl) rfl ?_;intro f h
    refine ac h (ag (h.ev rfl)) rfl ?_;intro f h
    refine aB h rfl rfl rfl ?_
    refine ao 1 h s aL rfl rfl (ak _) rfl ?_;intro f h
    refine aB h rfl rfl rfl ?_
    refine aF h s fu (aO (.bool true) (da x _) (congrArg Value.bool hx)) rfl rfl ?_;intro f w1 v9 hT hE h s;obtain rfl:=hT
    refine aB h rfl rfl rfl ?_
    refine ac h (aw (.bool false) (bg (h.ev rfl)) rfl) rfl ?_;intro f h
    refine ac h (aE (h.ev rfl) (h.ev rfl)) rfl ?_;intro f h
    refine ac h (ag (h.ev rfl)) rfl ?_;intro f h
    refine aB h rfl rfl rfl ?_
    refine ac h (al aP (h.ev rfl)) rfl ?_;intro f h
    refine aB h rfl rfl rfl ?_
    refine ar (am (bc.of_own s 1 rfl) 0 (aV _)) h bO rfl rfl ?_;intro f h
    refine aB h rfl rfl rfl ?_
    refine ac h (al a6 (h.ev rfl)) rfl ?_;intro f h
    refine aB h rfl rfl rfl ?_
    refine ac h (al aP (h.ev rfl)) rfl ?_;intro f h
    refine aB h rfl rfl rfl ?_
    refine ar (am (bc.of_own s 2 rfl) 0 (bY _ _ _ _)) h bO rfl rfl ?_;intro f h
    refine aB h rfl rfl rfl ?_
    refine ac h (aw (.bool false) (cc (h.ev rfl) (h.ev rfl)) (congrArg Value.bool h2)) rfl ?_;intro f h
    refine ac h (aE (h.ev rfl) (h.ev rfl)) rfl ?_;intro f h
    refine ah ?_
    refine hK3 _ _ ?_
    refine wpIn_cond_false (h.ev rfl) ?_
    refine wpIn_skip ?_
    refine hK2 _ _ ?_
    refine aj fun K6 hK6=>?_
    refine ae ?_
    refine ao 2 h s bS rfl rfl (aA _ _ _ _) rfl ?_;intro f h
    refine aF h s Az (pU n vs vf _ (hRs.keep s.ext) (hRf.keep s.ext) (by omega) (by omega)) rfl rfl ?_;rintro f w1 v24 ⟨us,uf,rfl,hS⟩ hE h sq;replace s:=s.add hS
    refine ay 4 h s bS rfl rfl rfl (aA _ _ _ _) (aA _ _ _ _) (bW (bP (s.getSl 0 rfl)) (bP (s.getSl 1 rfl))) ?_;intro w1 s
    refine ah ?_
    refine hK6 _ _ ?_
    refine aj fun K7 hK7=>?_
    refine aj fun K8 hK8=>?_
    cases h3:(jJ n.fg x.1:Bool)
    ·skip
     refine ae ?_
     refine ac h (al cC (h.ev rfl)) rfl ?_;intro f h
     refine ar (V:=uf) (am (bc.of_own s 4 rfl) 67 (cB _ _ _ _)) h bH rfl rfl ?_;intro f h
     refine ac h (al aP (h.ev rfl)) rfl ?_;intro f h
     refine ar (am (bc.of_own s 3 rfl) 0 (aV _)) h bO rfl rfl ?_;intro f h
     refine aF h s tk (aO (.bool false) (kl n.fg uf x.1 _ (bK.of_own (s.getSl 1 rfl)) (by omega)) (congrArg Value.bool h3)) rfl rfl ?_;intro f w1 v9 hT hE h s;obtain rfl:=hT
     refine ah ?_
     refine hK8 _ _ ?_
     refine wpIn_cond_false (h.ev rfl) ?_
     refine wpIn_skip ?_
     refine hK7 _ _ ?_
     refine aj fun K9 hK9=>?_
     refine aj fun K10 hK10=>?_
     cases h4:(decide (n.fg.length=16):Bool)
     ·skip
      refine ae ?_
      refine ac h (al cC (h.ev rfl)) rfl ?_;intro f h
      refine ar (V:=uf) (am (bc.of_own s 4 rfl) 67 (cB _ _ _ _)) h bH rfl rfl ?_;intro f h
      refine ey 1 h s Tryz.underlying36 rfl rfl rfl ?_;intro f h
      refine ac h (aw (.bool false) (cc (h.ev rfl) (h.ev rfl)) (congrArg Value.bool (decide_eq_false (by have:=of_decide_eq_false h4;omega)))) rfl ?_;intro f h
      refine ah ?_
      refine hK10 _ _ ?_
      refine wpIn_cond_false (h.ev rfl) ?_
      refine wpIn_skip ?_
      refine hK9 _ _ ?_
      refine aj fun K11 hK11=>?_
      refine ae ?_
      refine ac h (al cC (h.ev rfl)) rfl ?_;intro f h
      refine ar (V:=uf) (am (bc.of_own s 4 rfl) 67 (cB _ _ _ _)) h bH rfl rfl ?_;intro f h
      refine ao 3 h s aL rfl rfl (ak _) rfl ?_;intro f h
      refine cF (vs:=[.agg (au x)]) [.tmp 38] h s Tryz.underlying36 dD rfl rfl (gU _) rfl rfl rfl ?_;intro f w1 v39 h s
      refine dt 2 0 h s Tryz.underlying36 dD rfl rfl rfl rfl (by decide) (by rw [eh];exact bf _) (by unfold maxLen;omega) (by omega) rfl ?_;intro f w1 v40 h s
      replace s:=s.pick _ (List.sublist_cons_self _ _)
      replace s:=s.resl (m:=(n.fg++[x]).length) (ys:=av (n.fg++[x])) 1 rfl (by rw [List.length_append];rfl) (by rw [eh,jD])
      refine ac h (al cC (h.ev rfl)) rfl ?_;intro f h
      refine bp 4 h s bH rfl rfl rfl (by rw [aA];omega) (bP (s.getSl 1 rfl)) ?_;intro w1 s
      replace s:=s.recell (D:=aD n.me n.pr us v40) 4 rfl (jA _ _ _ _ _)
      refine ah ?_
      refine hK11 _ _ ?_
      refine aj fun K12 hK12=>?_
      refine ae ?_
      refine ao 4 h s bS rfl rfl (aA _ _ _ _) rfl ?_;intro f h
      refine ay 2 h s bS rfl rfl rfl (aA _ _ _ _) (aA _ _ _ _) (bW (bP (s.getSl 0 rfl)) (bP (s.getSl 1 rfl))) ?_;intro w1 s
      refine ac h (ai (h.ev rfl)) rfl ?_;intro f h
      refine ah ?_
      refine hK12 _ _ ?_
      refine wpIn_ret ?_
      exact cd 2 rfl h s bS rfl rfl (aA _ _ _ _) rfl (qr ((ub (vS hr hx h2 h3 h4).1).trans (by rw [(vS hr hx h2 h3 h4).2])) (vS hr hx h2 h3 h4).1 (s.sel [0,1] rfl (by decide)))
     ·skip
      refine ae ?_
      refine ac h (al cC (h.ev rfl)) rfl ?_;intro f h
      refine ar (V:=uf) (am (bc.of_own s 4 rfl) 67 (cB _ _ _ _)) h bH rfl rfl ?_;intro f h
      refine ey 1 h s Tryz.underlying36 rfl rfl rfl ?_;intro f h
      refine ac h (aw (.bool true) (cc (h.ev rfl) (h.ev rfl)) (congrArg Value.bool (decide_eq_true (by have:=of_decide_eq_true h4;omega)))) rfl ?_;intro f h
      refine ah ?_
      refine hK10 _ _ ?_
      refine wpIn_cond_true (h.ev rfl) ?_
      refine aj fun K13 hK13=>?_
      refine ae ?_
      refine ac h (ez oP) rfl ?_;intro f h
      refine ay 2 h s bS rfl rfl rfl (aA _ _ _ _) (aA _ _ _ _) (bW (rfl) (rfl)) ?_;intro w1 s
      refine ac h (ai (h.ev rfl)) rfl ?_;intro f h
      refine ah ?_
      refine hK13 _ _ ?_
      refine wpIn_ret ?_
      refine aQ ?_
      exact cd 2 rfl h s bS rfl rfl (aA _ _ _ _) rfl (mm s (qJ (by rw [yI hr hx h2 h3 h4];decide)) (yI hr hx h2 h3 h4))
    ·skip
     refine ae ?_
     refine ac h (al cC (h.ev rfl)) rfl ?_;intro f h
     refine ar (V:=uf) (am (bc.of_own s 4 rfl) 67 (cB _ _ _ _)) h bH rfl rfl ?_;intro f h
     refine ac h (al aP (h.ev rfl)) rfl ?_;intro f h
     refine ar (am (bc.of_own s 3 rfl) 0 (aV _)) h bO rfl rfl ?_;intro f h
     refine aF h s tk (aO (.bool true) (kl n.fg uf x.1 _ (bK.of_own (s.getSl 1 rfl)) (by omega)) (congrArg Value.bool h3)) rfl rfl ?_;intro f w1 v9 hT hE h s;obtain rfl:=hT
     refine ah ?_
     refine hK8 _ _ ?_
     refine wpIn_cond_true (h.ev rfl) ?_
     refine aj fun K14 hK14=>?_
     refine ae ?_
     refine ao 4 h s bS rfl rfl (aA _ _ _ _) rfl ?_;intro f h
     refine ay 2 h s bS rfl rfl rfl (aA _ _ _ _) (aA _ _ _ _) (bW (bP (s.getSl 0 rfl)) (bP (s.getSl 1 rfl))) ?_;intro w1 s
     refine ac h (ai (h.ev rfl)) rfl ?_;intro f h
     refine ah ?_
     refine hK14 _ _ ?_
     refine wpIn_ret ?_
     refine aQ ?_
     exact cd 2 rfl h s bS rfl rfl (aA _ _ _ _) rfl (qr ((ub (wZ hr hx h2 h3).1).trans (by rw [(wZ hr hx h2 h3).2])) (wZ hr hx h2 h3).1 (s.sel [0,1] rfl (by decide)))
   ·skip
    refine ae ?_
    refine ao 2 h s bS rfl rfl (aA _ _ _ _) rfl ?_;intro f h
    refine aF h s lz (aO (.bool true) (ef n vs vf _ (hRs.keep s.ext) (hRf.keep s.ext) (by omega) (by omega)) (congrArg Value.bool hr)) rfl rfl ?_;intro f w1 v9 hT hE h s;obtain rfl:=hT
    refine ac h (aw (.bool false) (bg (h.ev rfl)) rfl) rfl ?_;intro f h
    refine ac h (ag (h.ev rfl)) rfl ?_;intro f h
    refine aB h rfl rfl rfl ?_
    refine ao 1 h s aL rfl rfl (ak _) rfl ?_;intro f h
    refine aB h rfl rfl rfl ?_
    refine aF h s fu (aO (.bool true) (da x _) (congrArg Value.bool hx)) rfl rfl ?_;intro f w1 v9 hT hE h s;obtain rfl:=hT
    refine aB h rfl rfl rfl ?_
    refine ac h (aw (.bool false) (bg (h.ev rfl)) rfl) rfl ?_;intro f h
    refine ac h (aE (h.ev rfl) (h.ev rfl)) rfl ?_;intro f h
    refine ac h (ag (h.ev rfl)) rfl ?_;intro f h
    refine aB h rfl rfl rfl ?_
    refine ac h (al aP (h.ev rfl)) rfl ?_;intro f h
    refine aB h rfl rfl rfl ?_
    refine ar (am (bc.of_own s 1 rfl) 0 (aV _)) h bO rfl rfl ?_;intro f h
    refine aB h rfl rfl rfl ?_
    refine ac h (al a6 (h.ev rfl)) rfl ?_;intro f h
    refine aB h rfl rfl rfl ?_
    refine ac h (al aP (h.ev rfl)) rfl ?_;intro f h
    refine aB h rfl rfl rfl ?_
    refine ar (am (bc.of_own s 2 rfl) 0 (bY _ _ _ _)) h bO rfl rfl ?_;intro f h
    refine aB h rfl rfl rfl ?_
    refine ac h (aw (.bool true) (cc (h.ev rfl) (h.ev rfl)) (congrArg Value.bool h2)) rfl ?_;intro f h
    refine ac h (aE (h.ev rfl) (h.ev rfl)) rfl ?_;intro f h
    refine ah ?_
    refine hK3 _ _ ?_
    refine wpIn_cond_true (h.ev rfl) ?_
    refine aj fun K15 hK15=>?_
    refine ae ?_
    refine ac h (ez oP) rfl ?_;intro f h
    refine ay 0 h s bS rfl rfl rfl (aA _ _ _ _) (aA _ _ _ _) (bW (rfl) (rfl)) ?_;intro w1 s
    refine ac h (ai (h.ev rfl)) rfl ?_;intro f h
    refine ah ?_
    refine hK15 _ _ ?_
    refine wpIn_ret ?_
    refine aQ ?_
    exact cd 0 rfl h s bS rfl rfl (aA _ _ _ _) rfl (mm s (qJ (by rw [zC h2];decide)) (zC h2))
end Go.Proofs.YthggibfkgofncaaGreat
