/- Package ring and what it stands on, so far as it is wanted: what each function answers. -/
import Derived.Test.YtkhepdpfdhdlaaaGreatDoorCon
set_option linter.unusedVariables false
set_option linter.unusedSimpArgs false
set_option linter.unusedSectionVars false
namespace Go.Proofs.YtkhepdpfdhdlaaaGreatDoor
open Go.RowKit
theorem vg (m:Mb) (w:World):Calls Tryz.prog 106 [.agg (az m)].toArray w (bW w (λv w9=>∃ bx,v=.func (.func 182) #[] #[.pointer (some ⟨bx,0,none⟩)]/\St w [.blk bx (.cells (az m) 69)] w9)):=by
 refine bG Tryz.func106 rfl Tryz.ntmps106 rfl λf h s=>qr (bh ((az m)) h s rfl rfl rfl λf w1 b1 h s=>e9 ac 1 h rfl λf h=>qr (ai h (dz [.pointer (some ⟨b1,0,none⟩)] (kT h rfl)) rfl λf h=>e9 ac 1 h rfl λf h=>Y8 (au rfl h s rfl (⟨b1,rfl,s.sel [0] rfl (by decide)⟩))))
theorem yg (x m:Mb) (bx:Nat) (w:World) (hb:iF w bx (az m)):Calls Tryz.prog 182 [.agg (az x),.pointer (some ⟨bx,0,none⟩)].toArray w (bW w (is (.bool (jF m x)))):=by
 refine bG Tryz.func182 rfl Tryz.ntmps182 rfl λf h s=>qr (bh ((az x)) h s rfl rfl rfl λf w1 b2 h s=>e9 ac 1 h rfl λf h=>ah ?_)
 refine rs ac 1 h rfl λf h=>ag (ae (aJ.of_own s 0 rfl) 0 (cg _)) h bs rfl rfl λf h=>ap ac 1 h rfl λf h=>ag (V:=.int .i64 m.1) (ae (aJ.of_tab (hb.keep s.ext)) 0 (cg _)) h bs rfl rfl λf h=>kB ac h rfl (λh0 f h=>?_) (λh0 f h=>?_)
 ·refine ap ac 2 h rfl λf h=>bX h rfl (aB (aJ.subL (aJ.of_own s 0 rfl) 1 32 (D:=aA (_)) (fl _)) h cJ rfl (by first|exact aF _|exact aE _ _) rfl λf h=>ap ac 1 h rfl λf h=>bX h rfl (aB (aJ.subL (aJ.of_tab (hb.keep s.ext)) 1 32 (D:=aA (_)) (fl _)) h cJ rfl (by first|exact aF _|exact aE _ _) rfl λf h=>bX h rfl (ai h (dn fW (h.ev rfl) (h.ev rfl)) rfl λf h=>e9 ac 2 h rfl λf h=>Y8 (au rfl h s rfl (by show _=_;rw [Ju h0]<;>rfl)))))
 ·refine e9 ac 8 h rfl λf h=>Y8 (au rfl h s rfl (by show _=_;rw [JX h0]<;>rfl))
theorem CU (x9:Id) (w:World):Calls Tryz.prog 124 [lx x9].toArray w (bW w (λv w9=>∃ bx,v=.func (.func 194) #[] #[.pointer (some ⟨bx,0,none⟩)]/\iF w9 bx (aA x9))):=by
 refine bG Tryz.func124 rfl Tryz.ntmps124 rfl λf h s=>qr (bh (aA x9) h s rfl rfl rfl λf w1 b1 h s=>e9 ac 1 h rfl λf h=>qr (ai h (dz [.pointer (some ⟨b1,0,none⟩)] (kT h rfl)) rfl λf h=>e9 ac 1 h rfl λf h=>Y8 (au rfl h s rfl (⟨b1,rfl,iF.of_own s 0 rfl⟩))))
theorem AQ (a b:Id) (w:World):Calls Tryz.prog 196 [lx a,lx b].toArray w (bW w (is (lx (b - a)))):=by
 refine bG Tryz.func196 rfl Tryz.ntmps196 rfl λf h s=>qr (bh (aA a) h s rfl rfl rfl λf w1 b2 h s=>bh (aA b) h s rfl rfl rfl λf w1 b3 h s=>aS (aA 0#256) h s sm rfl rfl λf w1 b4 h s=>nt (qr (aS (aA 0#256) h s sm rfl rfl λf w1 b5 h s=>nt (bF ac 1 h rfl λf h=>ah (bF ac 1 h rfl λf h=>Y9 (Zb (λnn aa ww=>∃ k:Nat,Sl 31 aa [(0,lx a),(1,lx b),(2,.pointer (some ⟨b2,0,none⟩)),(3,.pointer (some ⟨b3,0,none⟩)),(4,.pointer (some ⟨b4,0,none⟩)),(5,.pointer (some ⟨b5,0,none⟩)),(6,.int .i64 (jR a.toNat b.toNat (32 - k):Int)),(7,.int .i64 ((k:Int) - 1))]/\St w [.blk b5 (.cells (aA (tH a b (32 - k))) 33),.blk b4 (.cells (aA 0#256) 33),.blk b3 (.cells (aA b) 33),.blk b2 (.cells (aA a) 33)] ww/\nn=k/\k<=32) ((32)) ⟨32,h.only ⟨rfl,rfl,rfl,rfl,rfl,rfl,av rfl (by rw [Nat.sub_self,CP];rfl),av rfl (by omega),trivial⟩,s.as ⟨ff (by rw [Nat.sub_self,CM]),rfl,rfl,rfl,trivial⟩,rfl,by omega⟩ ?_))))))
 rintro _ f w1 ⟨k,h,s,hnn,hp0⟩
 have ha:=gq a (k - 1)
 have hb:=gq b (k - 1)
 have hc9:=JB a.toNat b.toNat (32 - k)
 refine ah (bF ac 2 h rfl λf h=>dq h rfl (λhc=>?_) (λhc=>?_))
 ·refine kt (ah (Y9 (ah (dF 12 h (by kernel_rfl) (aq ac 1 h rfl λf h=>ar h (kG (k - 1) ZG gW (h.ev rfl) (h.ev rfl) (by omega) (by omega)) rfl λf h=>eU 2 h s oJ rfl rfl (dK _ _ (by omega)) rfl λf h=>ar h (qe ZH Z5 (h.ev rfl) (IntWalk.i64_in _ (by omega))) rfl λf h=>aq ac 1 h rfl λf h=>ar h (kG (k - 1) ZG gW (h.ev rfl) (h.ev rfl) (by omega) (by omega)) rfl λf h=>eU 3 h s oJ rfl rfl (dK _ _ (by omega)) rfl λf h=>ar h (qe ZH Z5 (h.ev rfl) (IntWalk.i64_in _ (by omega))) rfl λf h=>ar h (eI (h.ev rfl) (h.ev rfl) (by omega)) rfl λf h=>aq ac 1 h rfl λf h=>ar h (eI (h.ev rfl) (h.ev rfl) (by omega)) rfl λf h=>aq ac 1 h rfl λf h=>bQ s λw1 s=>nt (bF ac 1 h rfl λf h=>ah (bF ac 2 h rfl λf h=>dq h rfl (λhc=>?_) (λhc=>?_))))))))
  ·refine re ac 1 h rfl λf h=>rs ac 2 h rfl λf h=>ai h (eT Z5 ZH (h.ev rfl)) rfl λf h=>ai h (kG (k - 1) ZG gW (h.ev rfl) (h.ev rfl) (by omega) (by omega)) rfl λf h=>aR 0 h s oJ rfl rfl rfl (by simp;omega) (rfl) λw1 s=>ay (bw (aO (rs ac 1 h rfl λf h=>ai h (eI (h.ev rfl) (h.ev rfl) (by omega)) rfl λf h=>e9 ac 1 h rfl λf h=>?_)))
   exact ⟨_,by omega,⟨k - 1,h.only ⟨rfl,rfl,rfl,rfl,rfl,rfl,av rfl (by rw [GK a b k (by omega) (by omega) hc];rfl),av rfl (by omega),trivial⟩,St.as s ⟨ff (BP a b k (by omega) (by omega)),rfl,rfl,rfl,trivial⟩,rfl,by omega⟩⟩
  ·refine kt (rs ac 2 h rfl λf h=>ai h (eT Z5 ZH (h.ev rfl)) rfl λf h=>ai h (kG (k - 1) ZG gW (h.ev rfl) (h.ev rfl) (by omega) (by omega)) rfl λf h=>aR 0 h s oJ rfl rfl rfl (by simp;omega) (rfl) λw1 s=>ay (bw (aO (rs ac 1 h rfl λf h=>ai h (eI (h.ev rfl) (h.ev rfl) (by omega)) rfl λf h=>e9 ac 1 h rfl λf h=>?_))))
   exact ⟨_,by omega,⟨k - 1,h.only ⟨rfl,rfl,rfl,rfl,rfl,rfl,av rfl (by rw [GI a b k (by omega) (by omega) hc];rfl),av rfl (by omega),trivial⟩,St.as s ⟨ff (BP a b k (by omega) (by omega)),rfl,rfl,rfl,trivial⟩,rfl,by omega⟩⟩
 ·refine Za (a7 (a7 (cd (aO (qr (al 0 h s cJ rfl rfl (by first|exact aF _|exact aE _ _) rfl λf h=>ak 1 h s cJ rfl rfl rfl (by first|exact aF _|exact aE _ _) (by first|exact aF _|exact aE _ _) (by first|exact lw _|exact dB _ _) λw1 s=>nt (Y8 (nq 1 rfl h s cJ rfl rfl (by first|exact aF _|exact aE _ _) (by show _=_;rw [LD a b k (by omega)])))))))))
end Go.Proofs.YtkhepdpfdhdlaaaGreatDoor
