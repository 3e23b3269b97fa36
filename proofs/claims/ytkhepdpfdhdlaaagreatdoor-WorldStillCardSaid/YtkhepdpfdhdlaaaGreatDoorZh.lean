/- Package wire and what it stands on, so far as it is wanted: what each function answers. -/
import Derived.Test.YtkhepdpfdhdlaaaGreatDoorCon
set_option linter.unusedVariables false
set_option linter.unusedSimpArgs false
set_option linter.unusedSectionVars false
namespace Go.Proofs.YtkhepdpfdhdlaaaGreatDoor
open Go.RowKit
theorem sB (k:Int) (w:World):Calls Tryz.prog 164 [.int .i64 k].toArray w (cd w (is (.tuple #[.agg (eH k),.bool (C5 k)]))):=by
 refine bN Tryz.func164 rfl Tryz.ntmps164 rfl λf h s=>qr (aO (eH 0) h s nV rfl rfl λf w1 b2 h s=>e9 ac 1 h rfl λf h=>qr (oX h s rfl ?_));intro f w1 b7 h s
 refine am h (bk ta [(2,.bool true),(3,.bool true),(5,.bool true)] rfl (by intro i v hiv;simp only [at1,ax3,at4,or_false] at hiv;rcases hiv with ⟨rfl,rfl⟩|⟨rfl,rfl⟩|⟨rfl,rfl⟩<;>exact ⟨_,rfl,rfl⟩) (D:=[.bool false,.bool false,.bool true,.bool true,.bool false,.bool true]) rfl) rfl λf h=>cM 0 h s aE9 aB7 (by exact rfl) rfl rfl rfl rfl (by rfl) ?_;intro w1 s
 refine am h (bk ta [(0,.bool true),(1,.bool true),(3,.bool true)] rfl (by intro i v hiv;simp only [at1,ax3,at4,or_false] at hiv;rcases hiv with ⟨rfl,rfl⟩|⟨rfl,rfl⟩|⟨rfl,rfl⟩<;>exact ⟨_,rfl,rfl⟩) (D:=[.bool true,.bool true,.bool false,.bool true,.bool false,.bool false]) rfl) rfl λf h=>cM 0 h s aE9 aB7 (by exact rfl) rfl rfl rfl rfl (by rfl) ?_;intro w1 s
 refine am h (bk ta [(0,.bool true),(1,.bool true),(4,.bool true)] rfl (by intro i v hiv;simp only [at1,ax3,at4,or_false] at hiv;rcases hiv with ⟨rfl,rfl⟩|⟨rfl,rfl⟩|⟨rfl,rfl⟩<;>exact ⟨_,rfl,rfl⟩) (D:=[.bool true,.bool true,.bool false,.bool false,.bool true,.bool false]) rfl) rfl λf h=>cM 0 h s aE9 aB7 (by exact rfl) rfl rfl rfl rfl (by rfl) ?_;intro w1 s
 refine am h (bk ta [(0,.bool true),(1,.bool true),(3,.bool true),(4,.bool true)] rfl (by intro i v hiv;simp only [at1,ax3,at4,or_false] at hiv;rcases hiv with ⟨rfl,rfl⟩|⟨rfl,rfl⟩|⟨rfl,rfl⟩|⟨rfl,rfl⟩<;>exact ⟨_,rfl,rfl⟩) (D:=[.bool true,.bool true,.bool false,.bool true,.bool true,.bool false]) rfl) rfl λf h=>cM 0 h s aE9 aB7 (by exact rfl) rfl rfl rfl rfl (by rfl) ?_;intro w1 s
 refine am h (bk ta [(0,.bool true),(1,.bool true)] rfl (by intro i v hiv;simp only [at1,ax3,at4,or_false] at hiv;rcases hiv with ⟨rfl,rfl⟩|⟨rfl,rfl⟩<;>exact ⟨_,rfl,rfl⟩) (D:=[.bool true,.bool true,.bool false,.bool false,.bool false,.bool false]) rfl) rfl λf h=>cM 0 h s aE9 aB7 (by exact rfl) rfl rfl rfl rfl (by rfl) ?_;intro w1 s
 refine am h (bk ta [(0,.bool true),(1,.bool true),(4,.bool true)] rfl (by intro i v hiv;simp only [at1,ax3,at4,or_false] at hiv;rcases hiv with ⟨rfl,rfl⟩|⟨rfl,rfl⟩|⟨rfl,rfl⟩<;>exact ⟨_,rfl,rfl⟩) (D:=[.bool true,.bool true,.bool false,.bool false,.bool true,.bool false]) rfl) rfl λf h=>cM 0 h s aE9 aB7 (by exact rfl) rfl rfl rfl rfl (by rfl) ?_;intro w1 s
 refine am h (bk ta [(0,.bool true)] rfl (by intro i v hiv;simp only [at1,ax3,at4,or_false] at hiv;rcases hiv with ⟨rfl,rfl⟩<;>exact ⟨_,rfl,rfl⟩) (D:=[.bool true,.bool false,.bool false,.bool false,.bool false,.bool false]) rfl) rfl λf h=>cM 0 h s aE9 aB7 (by exact rfl) rfl rfl rfl rfl (by rfl) ?_;intro w1 s
 refine am h (bk ta [(0,.bool true),(3,.bool true)] rfl (by intro i v hiv;simp only [at1,ax3,at4,or_false] at hiv;rcases hiv with ⟨rfl,rfl⟩|⟨rfl,rfl⟩<;>exact ⟨_,rfl,rfl⟩) (D:=[.bool true,.bool false,.bool false,.bool true,.bool false,.bool false]) rfl) rfl λf h=>cM 0 h s aE9 aB7 (by exact rfl) rfl rfl rfl rfl (by rfl) ?_;intro w1 s
 refine am h (bk ta [(0,.bool true),(3,.bool true)] rfl (by intro i v hiv;simp only [at1,ax3,at4,or_false] at hiv;rcases hiv with ⟨rfl,rfl⟩|⟨rfl,rfl⟩<;>exact ⟨_,rfl,rfl⟩) (D:=[.bool true,.bool false,.bool false,.bool true,.bool false,.bool false]) rfl) rfl λf h=>cM 0 h s aE9 aB7 (by exact rfl) rfl rfl rfl rfl (by rfl) ?_;intro w1 s
 refine am h (bk ta [(0,.bool true),(3,.bool true)] rfl (by intro i v hiv;simp only [at1,ax3,at4,or_false] at hiv;rcases hiv with ⟨rfl,rfl⟩|⟨rfl,rfl⟩<;>exact ⟨_,rfl,rfl⟩) (D:=[.bool true,.bool false,.bool false,.bool true,.bool false,.bool false]) rfl) rfl λf h=>cM 0 h s aE9 aB7 (by exact rfl) rfl rfl rfl rfl (by rfl) ?_;intro w1 s
 refine al ac 2 h rfl λf h=>zm (V:=.agg (eH k)) (ok:=C5 k) 0 h s aE9 aB7 (by exact rfl) nV rfl rfl rfl (Ax k) rfl ?_;intro f h
 refine al ac 3 h rfl λf h=>aO (eH 0) h s nV rfl rfl λf w1 b4 h s=>aj 0 h s pg rfl rfl rfl (rfl) (rfl) (lY _) λw1 s=>e9 ac 1 h rfl λf h=>qr (ak 0 h s pg rfl rfl (rfl) rfl λf h=>al ac 1 h rfl λf h=>aj 2 h s pg rfl rfl rfl (rfl) (rfl) (lY _) λw1 s=>e9 ac 1 h rfl λf h=>av8 (bL 2 rfl h s pg rfl rfl (rfl) rfl (rfl)))
theorem ci (a b c:Bool) (w:World):Calls Tryz.prog 179 [.bool a,.bool b,.bool c].toArray w (cd w (is (.bool (bif a then b else c)))):=by
 refine bN Tryz.func179 rfl Tryz.ntmps179 rfl λf h s=>bJ ac 1 h rfl λf h=>ah (bJ ac 1 h rfl λf h=>cr h rfl (λhc=>?_) (λhc=>?_))
 ·refine bJ ac 2 h rfl λf h=>rt (aA rfl h s rfl (by show _=_;rw [hc];rfl))
 ·refine kt (bJ ac 2 h rfl λf h=>av8 (aA rfl h s rfl (by show _=_;rw [hc];rfl)))
theorem Cx (n:Int) (h0:0<=n) (hn9:n<=1099511627776) (w:World):Calls Tryz.prog 281 [.int .i64 n].toArray w (cd w (is (.string (nM (qZ n))))):=by
 refine bN Tryz.func281 rfl Tryz.ntmps281 rfl λf h s=>bJ ac 1 h rfl λf h=>qr (aO (cG (λ_=>0) 8) h s MV rfl rfl λf w1 b3 h s=>nt (ah (bJ ac 1 h rfl λf h=>av9 (aw1 (λnn aa ww=>∃ k:Nat,Sl 18 aa [(0,.int .i64 n),(3,.pointer (some ⟨b3,0,none⟩)),(5,.int .i64 (k:Int))]/\St w [.blk b3 (.cells (cG (E7 n k) 8) 388)] ww/\nn=8 - k/\k<=8) (8 - (0)) ⟨0,h.only ⟨rfl,rfl,aD rfl (by omega),trivial⟩,s.as ⟨gF (GK n),trivial⟩,rfl,at8 _⟩ ?_))))
 rintro _ f w1 ⟨k,h,s,hnn,hp0⟩
 refine bJ ac 1 h rfl λf h=>ah (dA h rfl (λhc=>?_) (λhc=>?_))
 ·refine kt (ah (av9 (bJ ac 2 h rfl λf h=>rs ac 3 h rfl λf h=>?_)))
  have hk8:k<8:=by omega
  refine am h (Uf (h.ev rfl) (h.ev rfl) (by omega)) rfl λf h=>am h (Tk (h.ev rfl) (h.ev rfl) (by omega)) rfl λf h=>am h (a8 (.int .u8 ((n.toNat / 256 ^ k % 256:Nat):Int)) (gj aB7 az4 (h.ev rfl)) (ar8 (Value.int .u8) (MG n h0 k hk8))) rfl λf h=>am h (mu (k) Tryz.underlying388 i4 (h.ev rfl) (h.ev rfl) (by omega) (by omega)) rfl λf h=>aJ 0 h s qV rfl rfl rfl (by simp;omega) (rfl) λw1 s=>aw (bo (aK (aG (am h (bY (h.ev rfl) (h.ev rfl) (by omega)) rfl λf h=>e9 ac 1 h rfl λf h=>?_))))
  exact ⟨_,by omega,⟨k+1,h.only ⟨rfl,rfl,aD rfl (by omega),trivial⟩,St.as s ⟨gF (Fn n k),trivial⟩,rfl,by omega⟩⟩
 ·refine aw0 (ba (ba (cj (aK (qr ?_)))))
  obtain rfl:k=8:=by omega
  refine am h (xJ Tryz.underlying388 i4 (h.ev rfl)) rfl λf h=>WT 0 h s aE8 az4 aB9 rfl rfl rfl ?_;intro f h
  refine e9 ac 1 h rfl λf h=>av8 (aA rfl h s rfl (by show _=_;exact ar8 Value.string (Hb n)))
end Go.Proofs.YtkhepdpfdhdlaaaGreatDoor
