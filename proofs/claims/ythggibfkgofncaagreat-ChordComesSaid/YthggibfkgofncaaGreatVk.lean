/- One is alive. -/
import Derived.Test.YthggibfkgofncaaGreatVd
import Derived.Test.YthggibfkgofncaaGreatWb
import Derived.Test.YthggibfkgofncaaGreatWc
set_option linter.unusedVariables false
set_option linter.unusedSimpArgs false
set_option linter.unusedSectionVars false
namespace Go.Proofs.YthggibfkgofncaaGreat
open Go.RowKit
theorem lE  (w:World):Calls Tryz.prog 17 [].toArray w (cT w (is (.bool true))):=by
 refine bj Tryz.func17 rfl Tryz.ntmps17 rfl [] (by simp) fun f h=>?_
 have s:=St.start w
 refine aj fun K1 hK1=>?_
 refine ae ?_
 refine ac h (ai (h.ev rfl)) rfl ?_;intro f h
 refine ah ?_
 refine hK1 _ _ ?_
 refine aj fun K2 hK2=>?_
 refine ae ?_
 refine ac h (bM eE) rfl ?_;intro f h
 refine ac h (dz my rfl) rfl ?_;intro f h
 refine aF h s AF (mQ [] bo p8 0 _ (c1 _) (by decide) eg) rfl rfl ?_;rintro f w1 v6 ⟨o9,rfl,va,La,ka,rfl,hnva,hG⟩ hE h sq;replace s:=s.add hG;clear hG
 have hlva:=(pf [] p8 0).l hnva
 have hbva:=(pf [] p8 0).r hnva
 refine ac h (ag (h.ev rfl)) rfl ?_;intro f h
 refine ac h (bB (h.ev rfl) rfl) rfl ?_;intro f h
 refine ac h (bB (h.ev rfl) rfl) rfl ?_;intro f h
 refine ba (#[bo]) h s dY rfl rfl ?_;intro f w1 b1 h s
 refine ay 0 h s aU rfl rfl rfl (rfl) (rfl) (cj (cx (((s.getG 1 rfl) (c1 _)).1))) ?_;intro w1 s
 refine ac h (ai (h.ev rfl)) rfl ?_;intro f h
 refine ah ?_
 refine hK2 _ _ ?_
 refine aj fun K3 hK3=>?_
 refine ae ?_
 obtain ⟨u9,x9,hla⟩:=yS (hnva.trans rP.1)
 have hl1:La.length=1:=by rw [hla];rfl
 refine ac h (ag (h.ev rfl)) rfl ?_;intro f h
 refine ac h (aw (.bool true) (cc (h.ev rfl) (h.ev rfl)) (by rw [rP.2];rfl)) rfl ?_;intro f h
 refine ac h (ag (h.ev rfl)) rfl ?_;intro f h
 refine aB h rfl rfl rfl ?_
 refine ac h (al cb (h.ev rfl)) rfl ?_;intro f h
 refine aB h rfl rfl rfl ?_
 refine ar (V:=va) (am (bc.of_own s 0 rfl) 0 rfl) h cH rfl rfl ?_;intro f h
 refine aB h rfl rfl rfl ?_
 refine ac h (aY (((s.getG 1 rfl) (c1 _)).1) Tryz.underlying22 (h.ev rfl)) rfl ?_;intro f h
 refine aB h rfl rfl rfl ?_
 refine ac h (aw (.bool true) (cc (h.ev rfl) (h.ev rfl)) (congrArg Value.bool (decide_eq_true (by rw [hl1];rfl)))) rfl ?_;intro f h
 refine ac h (aJ (h.ev rfl) (h.ev rfl)) rfl ?_;intro f h
 refine ac h (ag (h.ev rfl)) rfl ?_;intro f h
 refine aB h rfl rfl rfl ?_
 refine ao 0 h s aU rfl rfl (rfl) rfl ?_;intro f h
 refine aB h rfl rfl rfl ?_
 refine aF h s tw (aO (.bool true) (g6 La va _ ((s.getG 1 rfl) (c1 _)) hlva hbva) (congrArg Value.bool (by rw [hla];exact sg _ _))) rfl rfl ?_;intro f w1 v9 hT hE h s;obtain rfl:=hT
 refine ac h (aJ (h.ev rfl) (h.ev rfl)) rfl ?_;intro f h
 refine ac h (ag (h.ev rfl)) rfl ?_;intro f h
 refine aB h rfl rfl rfl ?_
 refine ao 0 h s aU rfl rfl (rfl) rfl ?_;intro f h
 refine aB h rfl rfl rfl ?_
 refine aF h s jP (aO (.bool true) (dB La va _ ((s.getG 1 rfl) (c1 _)) hlva hbva) (congrArg Value.bool (by rw [hla];exact vC _ _))) rfl rfl ?_;intro f w1 v9 hT hE h s;obtain rfl:=hT
 refine ac h (aJ (h.ev rfl) (h.ev rfl)) rfl ?_;intro f h
 refine ac h (ai (h.ev rfl)) rfl ?_;intro f h
 refine ah ?_
 refine hK3 _ _ ?_
 refine wpIn_ret ?_
 exact aX rfl h s rfl (rfl)
end Go.Proofs.YthggibfkgofncaaGreat
