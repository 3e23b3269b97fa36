/- One is alive. -/
import Derived.Test.YthggibfkgofncaaGreatVd
import Derived.Test.YthggibfkgofncaaGreatWb
import Derived.Test.YthggibfkgofncaaGreatWc
set_option linter.unusedVariables false
set_option linter.unusedSimpArgs false
set_option linter.unusedSectionVars false
namespace Go.Proofs.YthggibfkgofncaaGreat
open Go.RowKit
theorem rh  (w:World):Calls Tryz.prog 17 [].toArray w (cU w (is (.bool true))):=by
 refine bp Tryz.func17 rfl Tryz.ntmps17 rfl [] (by simp) fun f h=>?_
 have s:=St.start w
 refine al fun K1 hK1=>?_
 refine ae ?_
 refine ac h (aj (h.ev rfl)) rfl ?_;intro f h
 refine ah ?_
 refine hK1 _ _ ?_
 refine al fun K2 hK2=>?_
 refine ae ?_
 refine ac h (cG jK) rfl ?_;intro f h
 refine ac h (dO mO rfl) rfl ?_;intro f h
 refine aH h s EF (uz [] a8 r2 0 _ (fq _) (by decide) mM) rfl rfl ?_;rintro f w1 v6 ⟨o9,rfl,va,La,ka,rfl,hnva,hG⟩ hE h sq;replace s:=s.add hG;clear hG
 have hlva:=(AS [] r2 0).l hnva
 have hbva:=(AS [] r2 0).r hnva
 refine ac h (ag (h.ev rfl)) rfl ?_;intro f h
 refine ac h (bK (h.ev rfl) rfl) rfl ?_;intro f h
 refine ac h (bK (h.ev rfl) rfl) rfl ?_;intro f h
 refine bj (#[a8]) h s eY rfl rfl ?_;intro f w1 b1 h s
 refine ax 0 h s a6 rfl rfl rfl (rfl) (rfl) (cn (co (((s.getG 1 rfl) (fq _)).1))) ?_;intro w1 s
 refine ac h (aj (h.ev rfl)) rfl ?_;intro f h
 refine ah ?_
 refine hK2 _ _ ?_
 refine al fun K3 hK3=>?_
 refine ae ?_
 obtain ⟨u9,x9,hla⟩:=BZ (hnva.trans sP.1)
 have hl1:La.length=1:=by rw [hla];rfl
 refine ac h (ag (h.ev rfl)) rfl ?_;intro f h
 refine ac h (av (.bool true) (bX (h.ev rfl) (h.ev rfl)) (by rw [sP.2];rfl)) rfl ?_;intro f h
 refine ac h (ag (h.ev rfl)) rfl ?_;intro f h
 refine az h rfl rfl rfl ?_
 refine ac h (ai cp (h.ev rfl)) rfl ?_;intro f h
 refine az h rfl rfl rfl ?_
 refine au (V:=va) (am (aU.of_own s 0 rfl) 0 rfl) h c4 rfl rfl ?_;intro f h
 refine az h rfl rfl rfl ?_
 refine ac h (bc (((s.getG 1 rfl) (fq _)).1) Tryz.underlying22 (h.ev rfl)) rfl ?_;intro f h
 refine az h rfl rfl rfl ?_
 refine ac h (av (.bool true) (bX (h.ev rfl) (h.ev rfl)) (congrArg Value.bool (decide_eq_true (by rw [hl1];rfl)))) rfl ?_;intro f h
 refine ac h (aI (h.ev rfl) (h.ev rfl)) rfl ?_;intro f h
 refine ac h (ag (h.ev rfl)) rfl ?_;intro f h
 refine az h rfl rfl rfl ?_
 refine ar 0 h s a6 rfl rfl (rfl) rfl ?_;intro f h
 refine az h rfl rfl rfl ?_
 refine aH h s Do (aO (.bool true) (qa La va _ ((s.getG 1 rfl) (fq _)) hlva hbva) (congrArg Value.bool (by rw [hla];exact t2 _ _))) rfl rfl ?_;intro f w1 v9 hT hE h s;obtain rfl:=hT
 refine ac h (aI (h.ev rfl) (h.ev rfl)) rfl ?_;intro f h
 refine ac h (ag (h.ev rfl)) rfl ?_;intro f h
 refine az h rfl rfl rfl ?_
 refine ar 0 h s a6 rfl rfl (rfl) rfl ?_;intro f h
 refine az h rfl rfl rfl ?_
 refine aH h s jV (aO (.bool true) (d4 La va _ ((s.getG 1 rfl) (fq _)) hlva hbva) (congrArg Value.bool (by rw [hla];exact wW _ _))) rfl rfl ?_;intro f w1 v9 hT hE h s;obtain rfl:=hT
 refine ac h (aI (h.ev rfl) (h.ev rfl)) rfl ?_;intro f h
 refine ac h (aj (h.ev rfl)) rfl ?_;intro f h
 refine ah ?_
 refine hK3 _ _ ?_
 refine wpIn_ret ?_
 exact bf rfl h s rfl (rfl)
end Go.Proofs.YthggibfkgofncaaGreat
