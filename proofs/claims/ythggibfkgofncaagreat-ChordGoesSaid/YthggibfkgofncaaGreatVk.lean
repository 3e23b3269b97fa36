/- One is alive. -/
import Derived.Test.YthggibfkgofncaaGreatVd
import Derived.Test.YthggibfkgofncaaGreatWb
import Derived.Test.YthggibfkgofncaaGreatWc
set_option linter.unusedVariables false
set_option linter.unusedSimpArgs false
set_option linter.unusedSectionVars false
namespace Go.Proofs.YthggibfkgofncaaGreat
open Go.RowKit
theorem qD  (w:World):Calls Tryz.prog 17 [].toArray w (cU w (is (.bool true))):=by
 refine bq Tryz.func17 rfl Tryz.ntmps17 rfl [] (by simp) fun f h=>?_
 have s:=St.start w
 refine al fun K1 hK1=>?_
 refine ae ?_
 refine ac h (ak (h.ev rfl)) rfl ?_;intro f h
 refine ah ?_
 refine hK1 _ _ ?_
 refine al fun K2 hK2=>?_
 refine ae ?_
 refine ac h (co g5) rfl ?_;intro f h
 refine ac h (dU mM rfl) rfl ?_;intro f h
 refine aI h s DV (tC [] bp qm 0 _ (eH _) (by decide) kf) rfl rfl ?_;rintro f w1 v6 ⟨o9,rfl,va,La,ka,rfl,hnva,hG⟩ hE h sq;replace s:=s.add hG;clear hG
 have hlva:=(zt [] qm 0).l hnva
 have hbva:=(zt [] qm 0).r hnva
 refine ac h (ag (h.ev rfl)) rfl ?_;intro f h
 refine ac h (bG (h.ev rfl) rfl) rfl ?_;intro f h
 refine ac h (bG (h.ev rfl) rfl) rfl ?_;intro f h
 refine bf (#[bp]) h s d3 rfl rfl ?_;intro f w1 b1 h s
 refine az 0 h s bk rfl rfl rfl (rfl) (rfl) (cq (dc (((s.getG 1 rfl) (eH _)).1))) ?_;intro w1 s
 refine ac h (ak (h.ev rfl)) rfl ?_;intro f h
 refine ah ?_
 refine hK2 _ _ ?_
 refine al fun K3 hK3=>?_
 refine ae ?_
 obtain ⟨u9,x9,hla⟩:=AH (hnva.trans sf.1)
 have hl1:La.length=1:=by rw [hla];rfl
 refine ac h (ag (h.ev rfl)) rfl ?_;intro f h
 refine ac h (aw (.bool true) (bU (h.ev rfl) (h.ev rfl)) (by rw [sf.2];rfl)) rfl ?_;intro f h
 refine ac h (ag (h.ev rfl)) rfl ?_;intro f h
 refine aA h rfl rfl rfl ?_
 refine ac h (ai cp (h.ev rfl)) rfl ?_;intro f h
 refine aA h rfl rfl rfl ?_
 refine aq (V:=va) (am (aL.of_own s 0 rfl) 0 rfl) h da rfl rfl ?_;intro f h
 refine aA h rfl rfl rfl ?_
 refine ac h (a8 (((s.getG 1 rfl) (eH _)).1) Tryz.underlying22 (h.ev rfl)) rfl ?_;intro f h
 refine aA h rfl rfl rfl ?_
 refine ac h (aw (.bool true) (bU (h.ev rfl) (h.ev rfl)) (congrArg Value.bool (decide_eq_true (by rw [hl1];rfl)))) rfl ?_;intro f h
 refine ac h (aD (h.ev rfl) (h.ev rfl)) rfl ?_;intro f h
 refine ac h (ag (h.ev rfl)) rfl ?_;intro f h
 refine aA h rfl rfl rfl ?_
 refine au 0 h s bk rfl rfl (rfl) rfl ?_;intro f h
 refine aA h rfl rfl rfl ?_
 refine aI h s Ci (aM (.bool true) (pa La va _ ((s.getG 1 rfl) (eH _)) hlva hbva) (congrArg Value.bool (by rw [hla];exact tF _ _))) rfl rfl ?_;intro f w1 v9 hT hE h s;obtain rfl:=hT
 refine ac h (aD (h.ev rfl) (h.ev rfl)) rfl ?_;intro f h
 refine ac h (ag (h.ev rfl)) rfl ?_;intro f h
 refine aA h rfl rfl rfl ?_
 refine au 0 h s bk rfl rfl (rfl) rfl ?_;intro f h
 refine aA h rfl rfl rfl ?_
 refine aI h s mA (aM (.bool true) (ex La va _ ((s.getG 1 rfl) (eH _)) hlva hbva) (congrArg Value.bool (by rw [hla];exact um _ _))) rfl rfl ?_;intro f w1 v9 hT hE h s;obtain rfl:=hT
 refine ac h (aD (h.ev rfl) (h.ev rfl)) rfl ?_;intro f h
 refine ac h (ak (h.ev rfl)) rfl ?_;intro f h
 refine ah ?_
 refine hK3 _ _ ?_
 refine wpIn_ret ?_
 exact bo rfl h s rfl (rfl)
end Go.Proofs.YthggibfkgofncaaGreat
