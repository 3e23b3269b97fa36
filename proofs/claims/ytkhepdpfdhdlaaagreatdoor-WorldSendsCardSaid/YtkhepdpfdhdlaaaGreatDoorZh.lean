/- Package wire and what it stands on, so far as it is wanted: what each function answers. -/
import Derived.Test.YtkhepdpfdhdlaaaGreatDoorCon
set_option linter.unusedVariables false
set_option linter.unusedSimpArgs false
set_option linter.unusedSectionVars false
namespace Go.Proofs.YtkhepdpfdhdlaaaGreatDoor
open Go.RowKit
theorem qn (k:Int) (w:World):Calls Tryz.prog 164 [.int .i64 k].toArray w (bW w (is (.tuple #[.agg (dV k),.bool (yF k)]))):=by
 refine bG Tryz.func164 rfl Tryz.ntmps164 rfl λf h s=>qr (aS (dV 0) h s lG rfl rfl λf w1 b2 h s=>e9 ac 1 h rfl λf h=>qr (ri h s rfl ?_));intro f w1 b7 h s
 refine ai h (aU qG [(2,.bool true),(3,.bool true),(5,.bool true)] rfl (by intro i v hiv;simp only [YH,Zn,YK,or_false] at hiv;rcases hiv with ⟨rfl,rfl⟩|⟨rfl,rfl⟩|⟨rfl,rfl⟩<;>exact ⟨_,rfl,rfl⟩) (D:=[.bool false,.bool false,.bool true,.bool true,.bool false,.bool true]) rfl) rfl λf h=>ci 0 h s ac6 Z5 (by exact rfl) rfl rfl rfl rfl (by rfl) ?_;intro w1 s
 refine ai h (aU qG [(0,.bool true),(1,.bool true),(3,.bool true)] rfl (by intro i v hiv;simp only [YH,Zn,YK,or_false] at hiv;rcases hiv with ⟨rfl,rfl⟩|⟨rfl,rfl⟩|⟨rfl,rfl⟩<;>exact ⟨_,rfl,rfl⟩) (D:=[.bool true,.bool true,.bool false,.bool true,.bool false,.bool false]) rfl) rfl λf h=>ci 0 h s ac6 Z5 (by exact rfl) rfl rfl rfl rfl (by rfl) ?_;intro w1 s
 refine ai h (aU qG [(0,.bool true),(1,.bool true),(4,.bool true)] rfl (by intro i v hiv;simp only [YH,Zn,YK,or_false] at hiv;rcases hiv with ⟨rfl,rfl⟩|⟨rfl,rfl⟩|⟨rfl,rfl⟩<;>exact ⟨_,rfl,rfl⟩) (D:=[.bool true,.bool true,.bool false,.bool false,.bool true,.bool false]) rfl) rfl λf h=>ci 0 h s ac6 Z5 (by exact rfl) rfl rfl rfl rfl (by rfl) ?_;intro w1 s
 refine ai h (aU qG [(0,.bool true),(1,.bool true),(3,.bool true),(4,.bool true)] rfl (by intro i v hiv;simp only [YH,Zn,YK,or_false] at hiv;rcases hiv with ⟨rfl,rfl⟩|⟨rfl,rfl⟩|⟨rfl,rfl⟩|⟨rfl,rfl⟩<;>exact ⟨_,rfl,rfl⟩) (D:=[.bool true,.bool true,.bool false,.bool true,.bool true,.bool false]) rfl) rfl λf h=>ci 0 h s ac6 Z5 (by exact rfl) rfl rfl rfl rfl (by rfl) ?_;intro w1 s
 refine ai h (aU qG [(0,.bool true),(1,.bool true)] rfl (by intro i v hiv;simp only [YH,Zn,YK,or_false] at hiv;rcases hiv with ⟨rfl,rfl⟩|⟨rfl,rfl⟩<;>exact ⟨_,rfl,rfl⟩) (D:=[.bool true,.bool true,.bool false,.bool false,.bool false,.bool false]) rfl) rfl λf h=>ci 0 h s ac6 Z5 (by exact rfl) rfl rfl rfl rfl (by rfl) ?_;intro w1 s
 refine ai h (aU qG [(0,.bool true),(1,.bool true),(4,.bool true)] rfl (by intro i v hiv;simp only [YH,Zn,YK,or_false] at hiv;rcases hiv with ⟨rfl,rfl⟩|⟨rfl,rfl⟩|⟨rfl,rfl⟩<;>exact ⟨_,rfl,rfl⟩) (D:=[.bool true,.bool true,.bool false,.bool false,.bool true,.bool false]) rfl) rfl λf h=>ci 0 h s ac6 Z5 (by exact rfl) rfl rfl rfl rfl (by rfl) ?_;intro w1 s
 refine ai h (aU qG [(0,.bool true)] rfl (by intro i v hiv;simp only [YH,Zn,YK,or_false] at hiv;rcases hiv with ⟨rfl,rfl⟩<;>exact ⟨_,rfl,rfl⟩) (D:=[.bool true,.bool false,.bool false,.bool false,.bool false,.bool false]) rfl) rfl λf h=>ci 0 h s ac6 Z5 (by exact rfl) rfl rfl rfl rfl (by rfl) ?_;intro w1 s
 refine ai h (aU qG [(0,.bool true),(3,.bool true)] rfl (by intro i v hiv;simp only [YH,Zn,YK,or_false] at hiv;rcases hiv with ⟨rfl,rfl⟩|⟨rfl,rfl⟩<;>exact ⟨_,rfl,rfl⟩) (D:=[.bool true,.bool false,.bool false,.bool true,.bool false,.bool false]) rfl) rfl λf h=>ci 0 h s ac6 Z5 (by exact rfl) rfl rfl rfl rfl (by rfl) ?_;intro w1 s
 refine ai h (aU qG [(0,.bool true),(3,.bool true)] rfl (by intro i v hiv;simp only [YH,Zn,YK,or_false] at hiv;rcases hiv with ⟨rfl,rfl⟩|⟨rfl,rfl⟩<;>exact ⟨_,rfl,rfl⟩) (D:=[.bool true,.bool false,.bool false,.bool true,.bool false,.bool false]) rfl) rfl λf h=>ci 0 h s ac6 Z5 (by exact rfl) rfl rfl rfl rfl (by rfl) ?_;intro w1 s
 refine ai h (aU qG [(0,.bool true),(3,.bool true)] rfl (by intro i v hiv;simp only [YH,Zn,YK,or_false] at hiv;rcases hiv with ⟨rfl,rfl⟩|⟨rfl,rfl⟩<;>exact ⟨_,rfl,rfl⟩) (D:=[.bool true,.bool false,.bool false,.bool true,.bool false,.bool false]) rfl) rfl λf h=>ci 0 h s ac6 Z5 (by exact rfl) rfl rfl rfl rfl (by rfl) ?_;intro w1 s
 refine ap ac 2 h rfl λf h=>wQ (V:=.agg (dV k)) (ok:=yF k) 0 h s ac6 Z5 (by exact rfl) lG rfl rfl rfl (xz k) rfl ?_;intro f h
 refine ap ac 3 h rfl λf h=>aS (dV 0) h s lG rfl rfl λf w1 b4 h s=>ak 0 h s mY rfl rfl rfl (rfl) (rfl) (j3 _) λw1 s=>e9 ac 1 h rfl λf h=>qr (al 0 h s mY rfl rfl (rfl) rfl λf h=>ap ac 1 h rfl λf h=>ak 2 h s mY rfl rfl rfl (rfl) (rfl) (j3 _) λw1 s=>e9 ac 1 h rfl λf h=>Y8 (ct 2 rfl h s mY rfl rfl (rfl) rfl (rfl)))
theorem bM (a b c:Bool) (w:World):Calls Tryz.prog 179 [.bool a,.bool b,.bool c].toArray w (bW w (is (.bool (bif a then b else c)))):=by
 refine bG Tryz.func179 rfl Tryz.ntmps179 rfl λf h s=>bF ac 1 h rfl λf h=>ah (bF ac 1 h rfl λf h=>cA h rfl (λhc=>?_) (λhc=>?_))
 ·refine bF ac 2 h rfl λf h=>rt (au rfl h s rfl (by show _=_;rw [hc];rfl))
 ·refine kt (bF ac 2 h rfl λf h=>Y8 (au rfl h s rfl (by show _=_;rw [hc];rfl)))
theorem yQ (n:Int) (h0:0<=n) (hn9:n<=1099511627776) (w:World):Calls Tryz.prog 281 [.int .i64 n].toArray w (bW w (is (.string (mi (oN n))))):=by
 refine bG Tryz.func281 rfl Tryz.ntmps281 rfl λf h s=>bF ac 1 h rfl λf h=>qr (aS (ca (λ_=>0) 8) h s IR rfl rfl λf w1 b3 h s=>nt (ah (bF ac 1 h rfl λf h=>Y9 (Zb (λnn aa ww=>∃ k:Nat,Sl 18 aa [(0,.int .i64 n),(3,.pointer (some ⟨b3,0,none⟩)),(5,.int .i64 (k:Int))]/\St w [.blk b3 (.cells (ca (CQ n k) 8) 388)] ww/\nn=8 - k/\k<=8) (8 - (0)) ⟨0,h.only ⟨rfl,rfl,av rfl (by omega),trivial⟩,s.as ⟨ff (CR n),trivial⟩,rfl,YO _⟩ ?_))))
 rintro _ f w1 ⟨k,h,s,hnn,hp0⟩
 refine bF ac 1 h rfl λf h=>ah (dq h rfl (λhc=>?_) (λhc=>?_))
 ·refine kt (ah (Y9 (bF ac 2 h rfl λf h=>rs ac 3 h rfl λf h=>?_)))
  have hk8:k<8:=by omega
  refine ai h (PI (h.ev rfl) (h.ev rfl) (by omega)) rfl λf h=>ai h (Pa (h.ev rfl) (h.ev rfl) (by omega)) rfl λf h=>ai h (bq (.int .u8 ((n.toNat / 256 ^ k % 256:Nat):Int)) (eT Z5 ZH (h.ev rfl)) (Yu (Value.int .u8) (Lz n h0 k hk8))) rfl λf h=>ai h (kG (k) Tryz.underlying388 gW (h.ev rfl) (h.ev rfl) (by omega) (by omega)) rfl λf h=>aR 0 h s oJ rfl rfl rfl (by simp;omega) (rfl) λw1 s=>ay (bw (aO (aG (ai h (bS (h.ev rfl) (h.ev rfl) (by omega)) rfl λf h=>e9 ac 1 h rfl λf h=>?_))))
  exact ⟨_,by omega,⟨k+1,h.only ⟨rfl,rfl,av rfl (by omega),trivial⟩,St.as s ⟨ff (Dd n k),trivial⟩,rfl,by omega⟩⟩
 ·refine Za (a7 (a7 (cd (aO (qr ?_)))))
  obtain rfl:k=8:=by omega
  refine ai h (tv Tryz.underlying388 gW (h.ev rfl)) rfl λf h=>SC 0 h s ac5 ZH Z7 rfl rfl rfl ?_;intro f h
  refine e9 ac 1 h rfl λf h=>Y8 (au rfl h s rfl (by show _=_;exact Yu Value.string (FV n)))
end Go.Proofs.YtkhepdpfdhdlaaaGreatDoor
