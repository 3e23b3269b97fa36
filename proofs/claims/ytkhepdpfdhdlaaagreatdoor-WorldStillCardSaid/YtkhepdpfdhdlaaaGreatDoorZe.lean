/- Package ring and what it stands on, so far as it is wanted: what each function answers. -/
import Derived.Test.YtkhepdpfdhdlaaaGreatDoorCon
set_option linter.unusedVariables false
set_option linter.unusedSimpArgs false
set_option linter.unusedSectionVars false
namespace Go.Proofs.YtkhepdpfdhdlaaaGreatDoor
open Go.RowKit
theorem zi (m:Mb) (w:World):Calls Tryz.prog 106 [.agg (ay m)].toArray w (cd w (λv w9=>∃ bx,v=.func (.func 182) #[] #[.pointer (some ⟨bx,0,none⟩)]/\St w [.blk bx (.cells (ay m) 69)] w9)):=by
 refine bN Tryz.func106 rfl Tryz.ntmps106 rfl λf h s=>qr (aZ ((ay m)) h s rfl rfl rfl λf w1 b1 h s=>e9 ac 1 h rfl λf h=>qr (am h (dF [.pointer (some ⟨b1,0,none⟩)] (kQ h rfl)) rfl λf h=>e9 ac 1 h rfl λf h=>av8 (aA rfl h s rfl (⟨b1,rfl,s.sel [0] rfl (by decide)⟩))))
theorem Bk (x m:Mb) (bx:Nat) (w:World) (hb:iX w bx (ay m)):Calls Tryz.prog 182 [.agg (ay x),.pointer (some ⟨bx,0,none⟩)].toArray w (cd w (is (.bool (kT m x)))):=by
 refine bN Tryz.func182 rfl Tryz.ntmps182 rfl λf h s=>qr (aZ ((ay x)) h s rfl rfl rfl λf w1 b2 h s=>e9 ac 1 h rfl λf h=>ah ?_)
 refine rs ac 1 h rfl λf h=>ag (ae (aF.of_own s 0 rfl) 0 (cf _)) h bu rfl rfl λf h=>al ac 1 h rfl λf h=>ag (V:=.int .i64 m.1) (ae (aF.of_tab (hb.keep s.ext)) 0 (cf _)) h bu rfl rfl λf h=>iV ac h rfl (λh0 f h=>?_) (λh0 f h=>?_)
 ·refine al ac 2 h rfl λf h=>bF h rfl (az (aF.subL (aF.of_own s 0 rfl) 1 32 (D:=aI (_)) (c8 _)) h ca rfl (by first|exact aC _|exact aB _ _) rfl λf h=>al ac 1 h rfl λf h=>bF h rfl (az (aF.subL (aF.of_tab (hb.keep s.ext)) 1 32 (D:=aI (_)) (c8 _)) h ca rfl (by first|exact aC _|exact aB _ _) rfl λf h=>bF h rfl (am h (cZ fE (h.ev rfl) (h.ev rfl)) rfl λf h=>e9 ac 2 h rfl λf h=>av8 (aA rfl h s rfl (by show _=_;rw [Oc h0]<;>rfl)))))
 ·refine e9 ac 8 h rfl λf h=>av8 (aA rfl h s rfl (by show _=_;rw [Mw h0]<;>rfl))
theorem F6 (x9:Id) (w:World):Calls Tryz.prog 124 [kF x9].toArray w (cd w (λv w9=>∃ bx,v=.func (.func 194) #[] #[.pointer (some ⟨bx,0,none⟩)]/\iX w9 bx (aI x9))):=by
 refine bN Tryz.func124 rfl Tryz.ntmps124 rfl λf h s=>qr (aZ (aI x9) h s rfl rfl rfl λf w1 b1 h s=>e9 ac 1 h rfl λf h=>qr (am h (dF [.pointer (some ⟨b1,0,none⟩)] (kQ h rfl)) rfl λf h=>e9 ac 1 h rfl λf h=>av8 (aA rfl h s rfl (⟨b1,rfl,iX.of_own s 0 rfl⟩))))
theorem qD (a b:Id) (w:World):Calls Tryz.prog 196 [kF a,kF b].toArray w (cd w (is (kF (b - a)))):=by
 refine bN Tryz.func196 rfl Tryz.ntmps196 rfl λf h s=>qr (aZ (aI a) h s rfl rfl rfl λf w1 b2 h s=>aZ (aI b) h s rfl rfl rfl λf w1 b3 h s=>aO (aI 0#256) h s xG rfl rfl λf w1 b4 h s=>nt (qr (aO (aI 0#256) h s xG rfl rfl λf w1 b5 h s=>nt (bJ ac 1 h rfl λf h=>ah (bJ ac 1 h rfl λf h=>av9 (aw1 (λnn aa ww=>∃ k:Nat,Sl 31 aa [(0,kF a),(1,kF b),(2,.pointer (some ⟨b2,0,none⟩)),(3,.pointer (some ⟨b3,0,none⟩)),(4,.pointer (some ⟨b4,0,none⟩)),(5,.pointer (some ⟨b5,0,none⟩)),(6,.int .i64 (kO a.toNat b.toNat (32 - k):Int)),(7,.int .i64 ((k:Int) - 1))]/\St w [.blk b5 (.cells (aI (xW a b (32 - k))) 33),.blk b4 (.cells (aI 0#256) 33),.blk b3 (.cells (aI b) 33),.blk b2 (.cells (aI a) 33)] ww/\nn=k/\k<=32) ((32)) ⟨32,h.only ⟨rfl,rfl,rfl,rfl,rfl,rfl,aD rfl (by rw [Nat.sub_self,FD];rfl),aD rfl (by omega),trivial⟩,s.as ⟨gF (by rw [Nat.sub_self,F1]),rfl,rfl,rfl,trivial⟩,rfl,by omega⟩ ?_))))))
 rintro _ f w1 ⟨k,h,s,hnn,hp0⟩
 have ha:=iw a (k - 1)
 have hb:=iw b (k - 1)
 have hc9:=NL a.toNat b.toNat (32 - k)
 refine ah (bJ ac 2 h rfl λf h=>dA h rfl (λhc=>?_) (λhc=>?_))
 ·refine kt (ah (av9 (ah (cQ 12 h (by kernel_rfl) (ar ac 1 h rfl λf h=>av h (mu (k - 1) az3 i4 (h.ev rfl) (h.ev rfl) (by omega) (by omega)) rfl λf h=>fA 2 h s qV rfl rfl (er _ _ (by omega)) rfl λf h=>av h (qM az4 aB7 (h.ev rfl) (IntWalk.i64_in _ (by omega))) rfl λf h=>ar ac 1 h rfl λf h=>av h (mu (k - 1) az3 i4 (h.ev rfl) (h.ev rfl) (by omega) (by omega)) rfl λf h=>fA 3 h s qV rfl rfl (er _ _ (by omega)) rfl λf h=>av h (qM az4 aB7 (h.ev rfl) (IntWalk.i64_in _ (by omega))) rfl λf h=>av h (gC (h.ev rfl) (h.ev rfl) (by omega)) rfl λf h=>ar ac 1 h rfl λf h=>av h (gC (h.ev rfl) (h.ev rfl) (by omega)) rfl λf h=>ar ac 1 h rfl λf h=>bK s λw1 s=>nt (bJ ac 1 h rfl λf h=>ah (bJ ac 2 h rfl λf h=>dA h rfl (λhc=>?_) (λhc=>?_))))))))
  ·refine re ac 1 h rfl λf h=>rs ac 2 h rfl λf h=>am h (gj aB7 az4 (h.ev rfl)) rfl λf h=>am h (mu (k - 1) az3 i4 (h.ev rfl) (h.ev rfl) (by omega) (by omega)) rfl λf h=>aJ 0 h s qV rfl rfl rfl (by simp;omega) (rfl) λw1 s=>aw (bo (aK (rs ac 1 h rfl λf h=>am h (gC (h.ev rfl) (h.ev rfl) (by omega)) rfl λf h=>e9 ac 1 h rfl λf h=>?_)))
   exact ⟨_,by omega,⟨k - 1,h.only ⟨rfl,rfl,rfl,rfl,rfl,rfl,aD rfl (by rw [KL a b k (by omega) (by omega) hc];rfl),aD rfl (by omega),trivial⟩,St.as s ⟨gF (Dc a b k (by omega) (by omega)),rfl,rfl,rfl,trivial⟩,rfl,by omega⟩⟩
  ·refine kt (rs ac 2 h rfl λf h=>am h (gj aB7 az4 (h.ev rfl)) rfl λf h=>am h (mu (k - 1) az3 i4 (h.ev rfl) (h.ev rfl) (by omega) (by omega)) rfl λf h=>aJ 0 h s qV rfl rfl rfl (by simp;omega) (rfl) λw1 s=>aw (bo (aK (rs ac 1 h rfl λf h=>am h (gC (h.ev rfl) (h.ev rfl) (by omega)) rfl λf h=>e9 ac 1 h rfl λf h=>?_))))
   exact ⟨_,by omega,⟨k - 1,h.only ⟨rfl,rfl,rfl,rfl,rfl,rfl,aD rfl (by rw [JY a b k (by omega) (by omega) hc];rfl),aD rfl (by omega),trivial⟩,St.as s ⟨gF (Dc a b k (by omega) (by omega)),rfl,rfl,rfl,trivial⟩,rfl,by omega⟩⟩
 ·refine aw0 (ba (ba (cj (aK (qr (ak 0 h s ca rfl rfl (by first|exact aC _|exact aB _ _) rfl λf h=>aj 1 h s ca rfl rfl rfl (by first|exact aC _|exact aB _ _) (by first|exact aC _|exact aB _ _) (by first|exact mz _|exact ef _ _) λw1 s=>nt (av8 (iP 1 rfl h s ca rfl rfl (by first|exact aC _|exact aB _ _) (by show _=_;rw [Nm a b k (by omega)])))))))))
end Go.Proofs.YtkhepdpfdhdlaaaGreatDoor
