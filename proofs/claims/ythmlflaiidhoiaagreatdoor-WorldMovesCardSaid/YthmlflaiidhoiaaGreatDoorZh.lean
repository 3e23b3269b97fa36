/- Package wire: what its functions answer. -/
import Derived.Test.YthmlflaiidhoiaaGreatDoorCon
set_option linter.unusedVariables false
namespace Go.Proofs.YthmlflaiidhoiaaGreatDoor
open Go.RowKit
theorem ur (k:Int) (w:World):Calls Tryz.prog 181 [.int .i64 k].toArray w (cb w (is (.tuple #[.agg (eW k),.bool (Fv k)]))):=by
 refine bK Tryz.func181 rfl Tryz.ntmps181 rfl λf h s=>qr (aK (eW 0) h s pR rfl rfl λf w1 b2 h s=>e9 ac 1 h rfl λf h=>qr (qJ h s rfl ?_));intro f w1 b7 h s
 refine ai h (bw vJ [(2,.bool true),(3,.bool true),(5,.bool true)] rfl (by intro i v hiv;simp only [aI6,aM8,aI9,or_false] at hiv;rcases hiv with ⟨rfl,rfl⟩|⟨rfl,rfl⟩|⟨rfl,rfl⟩<;>exact ⟨_,rfl,rfl⟩) (D:=[.bool false,.bool false,.bool true,.bool true,.bool false,.bool true]) rfl) rfl λf h=>cL 0 h s aU5 aR2 (by exact rfl) rfl rfl rfl rfl (by rfl) ?_;intro w1 s
 refine ai h (bw vJ [(0,.bool true),(1,.bool true),(3,.bool true)] rfl (by intro i v hiv;simp only [aI6,aM8,aI9,or_false] at hiv;rcases hiv with ⟨rfl,rfl⟩|⟨rfl,rfl⟩|⟨rfl,rfl⟩<;>exact ⟨_,rfl,rfl⟩) (D:=[.bool true,.bool true,.bool false,.bool true,.bool false,.bool false]) rfl) rfl λf h=>cL 0 h s aU5 aR2 (by exact rfl) rfl rfl rfl rfl (by rfl) ?_;intro w1 s
 refine ai h (bw vJ [(0,.bool true),(1,.bool true),(4,.bool true)] rfl (by intro i v hiv;simp only [aI6,aM8,aI9,or_false] at hiv;rcases hiv with ⟨rfl,rfl⟩|⟨rfl,rfl⟩|⟨rfl,rfl⟩<;>exact ⟨_,rfl,rfl⟩) (D:=[.bool true,.bool true,.bool false,.bool false,.bool true,.bool false]) rfl) rfl λf h=>cL 0 h s aU5 aR2 (by exact rfl) rfl rfl rfl rfl (by rfl) ?_;intro w1 s
 refine ai h (bw vJ [(0,.bool true),(1,.bool true),(3,.bool true),(4,.bool true)] rfl (by intro i v hiv;simp only [aI6,aM8,aI9,or_false] at hiv;rcases hiv with ⟨rfl,rfl⟩|⟨rfl,rfl⟩|⟨rfl,rfl⟩|⟨rfl,rfl⟩<;>exact ⟨_,rfl,rfl⟩) (D:=[.bool true,.bool true,.bool false,.bool true,.bool true,.bool false]) rfl) rfl λf h=>cL 0 h s aU5 aR2 (by exact rfl) rfl rfl rfl rfl (by rfl) ?_;intro w1 s
 refine ai h (bw vJ [(0,.bool true),(1,.bool true)] rfl (by intro i v hiv;simp only [aI6,aM8,aI9,or_false] at hiv;rcases hiv with ⟨rfl,rfl⟩|⟨rfl,rfl⟩<;>exact ⟨_,rfl,rfl⟩) (D:=[.bool true,.bool true,.bool false,.bool false,.bool false,.bool false]) rfl) rfl λf h=>cL 0 h s aU5 aR2 (by exact rfl) rfl rfl rfl rfl (by rfl) ?_;intro w1 s
 refine ai h (bw vJ [(0,.bool true),(1,.bool true),(4,.bool true)] rfl (by intro i v hiv;simp only [aI6,aM8,aI9,or_false] at hiv;rcases hiv with ⟨rfl,rfl⟩|⟨rfl,rfl⟩|⟨rfl,rfl⟩<;>exact ⟨_,rfl,rfl⟩) (D:=[.bool true,.bool true,.bool false,.bool false,.bool true,.bool false]) rfl) rfl λf h=>cL 0 h s aU5 aR2 (by exact rfl) rfl rfl rfl rfl (by rfl) ?_;intro w1 s
 refine ai h (bw vJ [(0,.bool true)] rfl (by intro i v hiv;simp only [aI6,aM8,aI9,or_false] at hiv;rcases hiv with ⟨rfl,rfl⟩<;>exact ⟨_,rfl,rfl⟩) (D:=[.bool true,.bool false,.bool false,.bool false,.bool false,.bool false]) rfl) rfl λf h=>cL 0 h s aU5 aR2 (by exact rfl) rfl rfl rfl rfl (by rfl) ?_;intro w1 s
 refine ai h (bw vJ [(0,.bool true),(3,.bool true)] rfl (by intro i v hiv;simp only [aI6,aM8,aI9,or_false] at hiv;rcases hiv with ⟨rfl,rfl⟩|⟨rfl,rfl⟩<;>exact ⟨_,rfl,rfl⟩) (D:=[.bool true,.bool false,.bool false,.bool true,.bool false,.bool false]) rfl) rfl λf h=>cL 0 h s aU5 aR2 (by exact rfl) rfl rfl rfl rfl (by rfl) ?_;intro w1 s
 refine ai h (bw vJ [(0,.bool true),(3,.bool true)] rfl (by intro i v hiv;simp only [aI6,aM8,aI9,or_false] at hiv;rcases hiv with ⟨rfl,rfl⟩|⟨rfl,rfl⟩<;>exact ⟨_,rfl,rfl⟩) (D:=[.bool true,.bool false,.bool false,.bool true,.bool false,.bool false]) rfl) rfl λf h=>cL 0 h s aU5 aR2 (by exact rfl) rfl rfl rfl rfl (by rfl) ?_;intro w1 s
 refine ai h (bw vJ [(0,.bool true),(3,.bool true)] rfl (by intro i v hiv;simp only [aI6,aM8,aI9,or_false] at hiv;rcases hiv with ⟨rfl,rfl⟩|⟨rfl,rfl⟩<;>exact ⟨_,rfl,rfl⟩) (D:=[.bool true,.bool false,.bool false,.bool true,.bool false,.bool false]) rfl) rfl λf h=>cL 0 h s aU5 aR2 (by exact rfl) rfl rfl rfl rfl (by rfl) ?_;intro w1 s
 refine am ac 2 h rfl λf h=>AH (V:=.agg (eW k)) (ok:=Fv k) 0 h s aU5 aR2 (by exact rfl) pR rfl rfl rfl (Bq k) rfl ?_;intro f h
 refine am ac 3 h rfl λf h=>aK (eW 0) h s pR rfl rfl λf w1 b4 h s=>al 0 h s qN rfl rfl rfl (rfl) (rfl) (nl _) λw1 s=>e9 ac 1 h rfl λf h=>qr (ak 0 h s qN rfl rfl (rfl) rfl λf h=>am ac 1 h rfl λf h=>al 2 h s qN rfl rfl rfl (rfl) (rfl) (nl _) λw1 s=>e9 ac 1 h rfl λf h=>aL3 (cc 2 rfl h s qN rfl rfl (rfl) rfl (rfl)))
theorem cj (a b c:Bool) (w:World):Calls Tryz.prog 196 [.bool a,.bool b,.bool c].toArray w (cb w (is (.bool (bif a then b else c)))):=by
 refine bK Tryz.func196 rfl Tryz.ntmps196 rfl λf h s=>bE ac 1 h rfl λf h=>ah (bE ac 1 h rfl λf h=>bV h rfl (λhc=>?_) (λhc=>?_))
 ·refine bE ac 2 h rfl λf h=>rt (av rfl h s rfl (by show _=_;rw [hc];rfl))
 ·refine kt (bE ac 2 h rfl λf h=>aL3 (av rfl h s rfl (by show _=_;rw [hc];rfl)))
theorem Er (n:Int) (h0:0<=n) (hn9:n<=1099511627776) (w:World):Calls Tryz.prog 287 [.int .i64 n].toArray w (cb w (is (.string (pL (ua n))))):=by
 refine bK Tryz.func287 rfl Tryz.ntmps287 rfl λf h s=>bE ac 1 h rfl λf h=>qr (aK (cS (λ_=>0) 8) h s QY rfl rfl λf w1 b3 h s=>nt (ah (bE ac 1 h rfl λf h=>aL4 (aL6 (λnn aa ww=>∃ k:Nat,Sl 18 aa [(0,.int .i64 n),(3,.pointer (some ⟨b3,0,none⟩)),(5,.int .i64 (k:Int))]/\St w [.blk b3 (.cells (cS (Ii n k) 8) 393)] ww/\nn=8 - k/\k<=8) (8 - (0)) ⟨0,h.only ⟨rfl,rfl,ao rfl (by omega),trivial⟩,s.as ⟨fL (II n),trivial⟩,rfl,aJ3 _⟩ ?_))))
 rintro _ f w1 ⟨k,h,s,hnn,hp0⟩
 refine bE ac 1 h rfl λf h=>ah (cB h rfl (λhc=>?_) (λhc=>?_))
 ·refine kt (ah (aL4 (bE ac 2 h rfl λf h=>rs ac 3 h rfl λf h=>?_)))
  have hk8:k<8:=by omega
  refine ai h (X8 (h.ev rfl) (h.ev rfl) (by omega)) rfl λf h=>ai h (Jh (h.ev rfl) (h.ev rfl) (by omega)) rfl λf h=>ai h (bz (.int .u8 ((n.toNat / 256 ^ k % 256:Nat):Int)) (gB aR2 aO9 (h.ev rfl)) (aH3 (Value.int .u8) (Pw n h0 k hk8))) rfl λf h=>ai h (mt (k) Tryz.underlying393 jE (h.ev rfl) (h.ev rfl) (by omega) (by omega)) rfl λf h=>aM 0 h s r2 rfl rfl rfl (by simp;omega) (rfl) λw1 s=>az (aW (aD (aw (ai h (bo (h.ev rfl) (h.ev rfl) (by omega)) rfl λf h=>e9 ac 1 h rfl λf h=>?_))))
  exact ⟨_,by omega,⟨k+1,h.only ⟨rfl,rfl,ao rfl (by omega),trivial⟩,St.as s ⟨fL (IC n k),trivial⟩,rfl,by omega⟩⟩
 ·refine aL5 (aO (aO (bS (aD (qr ?_)))))
  obtain rfl:k=8:=by omega
  refine ai h (yr Tryz.underlying393 jE (h.ev rfl)) rfl λf h=>aa3 0 h s aU3 aO9 aR4 rfl rfl rfl ?_;intro f h
  refine e9 ac 1 h rfl λf h=>aL3 (av rfl h s rfl (by show _=_;exact aH3 Value.string (MB n)))
end Go.Proofs.YthmlflaiidhoiaaGreatDoor
