/- Package ring and what it stands on, so far as it is wanted: what each function answers. -/
import Derived.Test.YthmlflaiidhoiaaGreatDoorCon
set_option linter.unusedVariables false
set_option linter.unusedSimpArgs false
set_option linter.unusedSectionVars false
namespace Go.Proofs.YthmlflaiidhoiaaGreatDoor
open Go.RowKit
theorem Af (m:Mb) (w:World):Calls Tryz.prog 86 [.agg (ar m)].toArray w (bW w (λv w9=>∃ bx,v=.func (.func 140) #[] #[.pointer (some ⟨bx,0,none⟩)]/\St w [.blk bx (.cells (ar m) 60)] w9)):=by
 refine bG Tryz.func86 rfl Tryz.ntmps86 rfl λf h s=>qr (ba ((ar m)) h s rfl rfl rfl λf w1 b1 h s=>e9 ac 1 h rfl λf h=>qr (ak h (de [.pointer (some ⟨b1,0,none⟩)] (lL h rfl)) rfl λf h=>e9 ac 1 h rfl λf h=>au3 (aA rfl h s rfl (⟨b1,rfl,s.sel [0] rfl (by decide)⟩))))
theorem B2 (x m:Mb) (bx:Nat) (w:World) (hb:jA w bx (ar m)):Calls Tryz.prog 140 [.agg (ar x),.pointer (some ⟨bx,0,none⟩)].toArray w (bW w (is (.bool (li m x)))):=by
 refine bG Tryz.func140 rfl Tryz.ntmps140 rfl λf h s=>qr (ba ((ar x)) h s rfl rfl rfl λf w1 b2 h s=>e9 ac 1 h rfl λf h=>ag ?_)
 refine rs ac 1 h rfl λf h=>ai (ah (aX.of_own s 0 rfl) 0 (bH _)) h bQ rfl rfl λf h=>ap ac 1 h rfl λf h=>ai (V:=.int .i64 m.1) (ah (aX.of_tab (hb.keep s.ext)) 0 (bH _)) h bQ rfl rfl λf h=>kJ ac h rfl (λh0 f h=>?_) (λh0 f h=>?_)
 ·refine ap ac 2 h rfl λf h=>cg h rfl (ax (aX.subL (aX.of_own s 0 rfl) 1 32 (D:=aJ (_)) (cz _)) h bO rfl (by first|exact az _|exact ay _ _) rfl λf h=>ap ac 1 h rfl λf h=>cg h rfl (ax (aX.subL (aX.of_tab (hb.keep s.ext)) 1 32 (D:=aJ (_)) (cz _)) h bO rfl (by first|exact az _|exact ay _ _) rfl λf h=>cg h rfl (ak h (dQ jr (h.ev rfl) (h.ev rfl)) rfl λf h=>e9 ac 2 h rfl λf h=>au3 (aA rfl h s rfl (by show _=_;rw [M4 h0]<;>rfl)))))
 ·refine e9 ac 8 h rfl λf h=>au3 (aA rfl h s rfl (by show _=_;rw [PG h0]<;>rfl))
theorem pN (x9:Id) (w:World):Calls Tryz.prog 39 [kL x9].toArray w (bW w (λv w9=>∃ bx,v=.func (.func 87) #[] #[.pointer (some ⟨bx,0,none⟩)]/\jA w9 bx (aJ x9))):=by
 refine bG Tryz.func39 rfl Tryz.ntmps39 rfl λf h s=>qr (ba (aJ x9) h s rfl rfl rfl λf w1 b1 h s=>e9 ac 1 h rfl λf h=>qr (ak h (de [.pointer (some ⟨b1,0,none⟩)] (lL h rfl)) rfl λf h=>e9 ac 1 h rfl λf h=>au3 (aA rfl h s rfl (⟨b1,rfl,jA.of_own s 0 rfl⟩))))
theorem rl (a b:Id) (w:World):Calls Tryz.prog 89 [kL a,kL b].toArray w (bW w (is (kL (b - a)))):=by
 refine bG Tryz.func89 rfl Tryz.ntmps89 rfl λf h s=>qr (ba (aJ a) h s rfl rfl rfl λf w1 b2 h s=>ba (aJ b) h s rfl rfl rfl λf w1 b3 h s=>aK (aJ 0#256) h s Cy rfl rfl λf w1 b4 h s=>nt (qr (aK (aJ 0#256) h s Cy rfl rfl λf w1 b5 h s=>nt (bD ac 1 h rfl λf h=>ag (bD ac 1 h rfl λf h=>au4 (au6 (λnn aa ww=>∃ k:Nat,Sl 31 aa [(0,kL a),(1,kL b),(2,.pointer (some ⟨b2,0,none⟩)),(3,.pointer (some ⟨b3,0,none⟩)),(4,.pointer (some ⟨b4,0,none⟩)),(5,.pointer (some ⟨b5,0,none⟩)),(6,.int .i64 (kX a.toNat b.toNat (32 - k):Int)),(7,.int .i64 ((k:Int) - 1))]/\St w [.blk b5 (.cells (aJ (xI a b (32 - k))) 42),.blk b4 (.cells (aJ 0#256) 42),.blk b3 (.cells (aJ b) 42),.blk b2 (.cells (aJ a) 42)] ww/\nn=k/\k<=32) ((32)) ⟨32,h.only ⟨rfl,rfl,rfl,rfl,rfl,rfl,aw rfl (by rw [Nat.sub_self,FM];rfl),aw rfl (by omega),trivial⟩,s.as ⟨iR (by rw [Nat.sub_self,Gw]),rfl,rfl,rfl,trivial⟩,rfl,by omega⟩ ?_))))))
 rintro _ f w1 ⟨k,h,s,hnn,hp0⟩
 have ha:=f4 a (k - 1)
 have hb:=f4 b (k - 1)
 have hc9:=OK a.toNat b.toNat (32 - k)
 refine ag (bD ac 2 h rfl λf h=>cZ h rfl (λhc=>?_) (λhc=>?_))
 ·refine kt (ag (au4 (ag (cK 12 h (by kernel_rfl) (aD ac 1 h rfl λf h=>aF h (qF (k - 1) ax8 pc (h.ev rfl) (h.ev rfl) (by omega) (by omega)) rfl λf h=>fk 2 h s x6 rfl rfl (ed _ _ (by omega)) rfl λf h=>aF h (jW ax9 az8 (h.ev rfl) (IntWalk.i64_in _ (by omega))) rfl λf h=>aD ac 1 h rfl λf h=>aF h (qF (k - 1) ax8 pc (h.ev rfl) (h.ev rfl) (by omega) (by omega)) rfl λf h=>fk 3 h s x6 rfl rfl (ed _ _ (by omega)) rfl λf h=>aF h (jW ax9 az8 (h.ev rfl) (IntWalk.i64_in _ (by omega))) rfl λf h=>aF h (fp (h.ev rfl) (h.ev rfl) (by omega)) rfl λf h=>aD ac 1 h rfl λf h=>aF h (fp (h.ev rfl) (h.ev rfl) (by omega)) rfl λf h=>aD ac 1 h rfl λf h=>bF s λw1 s=>nt (bD ac 1 h rfl λf h=>ag (bD ac 2 h rfl λf h=>cZ h rfl (λhc=>?_) (λhc=>?_))))))))
  ·refine re ac 1 h rfl λf h=>rs ac 2 h rfl λf h=>ak h (tT az8 ax9 (h.ev rfl)) rfl λf h=>ak h (qF (k - 1) ax8 pc (h.ev rfl) (h.ev rfl) (by omega) (by omega)) rfl λf h=>aB 0 h s x6 rfl rfl rfl (by simp;omega) (rfl) λw1 s=>aE (aW (aG (rs ac 1 h rfl λf h=>ak h (fp (h.ev rfl) (h.ev rfl) (by omega)) rfl λf h=>e9 ac 1 h rfl λf h=>?_)))
   exact ⟨_,by omega,⟨k - 1,h.only ⟨rfl,rfl,rfl,rfl,rfl,rfl,aw rfl (by rw [Mf a b k (by omega) (by omega) hc];rfl),aw rfl (by omega),trivial⟩,St.as s ⟨iR (C9 a b k (by omega) (by omega)),rfl,rfl,rfl,trivial⟩,rfl,by omega⟩⟩
  ·refine kt (rs ac 2 h rfl λf h=>ak h (tT az8 ax9 (h.ev rfl)) rfl λf h=>ak h (qF (k - 1) ax8 pc (h.ev rfl) (h.ev rfl) (by omega) (by omega)) rfl λf h=>aB 0 h s x6 rfl rfl rfl (by simp;omega) (rfl) λw1 s=>aE (aW (aG (rs ac 1 h rfl λf h=>ak h (fp (h.ev rfl) (h.ev rfl) (by omega)) rfl λf h=>e9 ac 1 h rfl λf h=>?_))))
   exact ⟨_,by omega,⟨k - 1,h.only ⟨rfl,rfl,rfl,rfl,rfl,rfl,aw rfl (by rw [IV a b k (by omega) (by omega) hc];rfl),aw rfl (by omega),trivial⟩,St.as s ⟨iR (C9 a b k (by omega) (by omega)),rfl,rfl,rfl,trivial⟩,rfl,by omega⟩⟩
 ·refine au5 (aT (aT (bS (aG (qr (al 0 h s bO rfl rfl (by first|exact az _|exact ay _ _) rfl λf h=>am 1 h s bO rfl rfl rfl (by first|exact az _|exact ay _ _) (by first|exact az _|exact ay _ _) (by first|exact uj _|exact ff _ _) λw1 s=>nt (au3 (g7 1 rfl h s bO rfl rfl (by first|exact az _|exact ay _ _) (by show _=_;rw [Pz a b k (by omega)])))))))))
end Go.Proofs.YthmlflaiidhoiaaGreatDoor
