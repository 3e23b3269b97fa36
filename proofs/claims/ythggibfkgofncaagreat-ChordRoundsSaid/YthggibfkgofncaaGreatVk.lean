/- One is alive. -/
import Derived.Test.YthggibfkgofncaaGreatVd
import Derived.Test.YthggibfkgofncaaGreatWb
import Derived.Test.YthggibfkgofncaaGreatWc
set_option linter.unusedVariables false
set_option linter.unusedSimpArgs false
set_option linter.unusedSectionVars false
namespace Go.Proofs.YthggibfkgofncaaGreat
open Go.RowKit
theorem lD  (w:World):Calls Tryz.prog 17 [].toArray w (cO w (is (.bool true))):=by
 refine bh Tryz.func17 rfl Tryz.ntmps17 rfl [] (by simp) fun f h=>?_
 have s:=St.start w
 refine ak fun K1 hK1=>?_
 refine ag ?_
 refine ac h (aj (h.ev rfl)) rfl ?_;intro f h
 refine ai ?_
 refine hK1 _ _ ?_
 refine ak fun K2 hK2=>?_
 refine ag ?_
 refine ac h (cw jB) rfl ?_;intro f h
 refine ac h (eC oL rfl) rfl ?_;intro f h
 refine aK h s BU (mS [] aU qI 0 _ (gp _) (by decide) vB) rfl rfl ?_;rintro f w1 v6 ⟨o9,rfl,va,La,ka,rfl,hnva,hG⟩ hE h sq;replace s:=s.add hG;clear hG
 have hlva:=(yP [] qI 0).l hnva
 have hbva:=(yP [] qI 0).r hnva
 refine ac h (ah (h.ev rfl)) rfl ?_;intro f h
 refine ac h (aW (h.ev rfl) rfl) rfl ?_;intro f h
 refine ac h (aW (h.ev rfl) rfl) rfl ?_;intro f h
 refine bi (#[aU]) h s d6 rfl rfl ?_;intro f w1 b1 h s
 refine aA 0 h s a7 rfl rfl rfl (rfl) (rfl) (bY (db (((s.getG 1 rfl) (gp _)).1))) ?_;intro w1 s
 refine ac h (aj (h.ev rfl)) rfl ?_;intro f h
 refine ai ?_
 refine hK2 _ _ ?_
 refine ak fun K3 hK3=>?_
 refine ag ?_
 obtain ⟨u9,x9,hla⟩:=A4 (hnva.trans rz.1)
 have hl1:La.length=1:=by rw [hla];rfl
 refine ac h (ah (h.ev rfl)) rfl ?_;intro f h
 refine ac h (aE (.bool true) (cb (h.ev rfl) (h.ev rfl)) (by rw [rz.2];rfl)) rfl ?_;intro f h
 refine ac h (ah (h.ev rfl)) rfl ?_;intro f h
 refine a2 h rfl rfl rfl ?_
 refine ac h (aq ck (h.ev rfl)) rfl ?_;intro f h
 refine a2 h rfl rfl rfl ?_
 refine aC (V:=va) (ax (bq.of_own s 0 rfl) 0 rfl) h c3 rfl rfl ?_;intro f h
 refine a2 h rfl rfl rfl ?_
 refine ac h (bK (((s.getG 1 rfl) (gp _)).1) Tryz.underlying22 (h.ev rfl)) rfl ?_;intro f h
 refine a2 h rfl rfl rfl ?_
 refine ac h (aE (.bool true) (cb (h.ev rfl) (h.ev rfl)) (congrArg Value.bool (decide_eq_true (by rw [hl1];rfl)))) rfl ?_;intro f h
 refine ac h (aO (h.ev rfl) (h.ev rfl)) rfl ?_;intro f h
 refine ac h (ah (h.ev rfl)) rfl ?_;intro f h
 refine a2 h rfl rfl rfl ?_
 refine ay 0 h s a7 rfl rfl (rfl) rfl ?_;intro f h
 refine a2 h rfl rfl rfl ?_
 refine aK h s B1 (aT (.bool true) (o4 La va _ ((s.getG 1 rfl) (gp _)) hlva hbva) (congrArg Value.bool (by rw [hla];exact tq _ _))) rfl rfl ?_;intro f w1 v9 hT hE h s;obtain rfl:=hT
 refine ac h (aO (h.ev rfl) (h.ev rfl)) rfl ?_;intro f h
 refine ac h (ah (h.ev rfl)) rfl ?_;intro f h
 refine a2 h rfl rfl rfl ?_
 refine ay 0 h s a7 rfl rfl (rfl) rfl ?_;intro f h
 refine a2 h rfl rfl rfl ?_
 refine aK h s iE (aT (.bool true) (dn La va _ ((s.getG 1 rfl) (gp _)) hlva hbva) (congrArg Value.bool (by rw [hla];exact vG _ _))) rfl rfl ?_;intro f w1 v9 hT hE h s;obtain rfl:=hT
 refine ac h (aO (h.ev rfl) (h.ev rfl)) rfl ?_;intro f h
 refine ac h (aj (h.ev rfl)) rfl ?_;intro f h
 refine ai ?_
 refine hK3 _ _ ?_
 refine wpIn_ret ?_
 exact bu rfl h s rfl (rfl)
end Go.Proofs.YthggibfkgofncaaGreat
