/- Package table and what it stands on, so far as it is wanted: what each function answers. -/
import Derived.Test.YtkhepdpfdhdlaaaGreatDoorCon
set_option linter.unusedVariables false
set_option linter.unusedSimpArgs false
set_option linter.unusedSectionVars false
namespace Go.Proofs.YtkhepdpfdhdlaaaGreatDoor
open Go.RowKit
theorem FC (l:List Tg) (hln:l.length<=1000) (a9:Option Addr) (n9 c9:Nat) (w:World) (hR:br w (.slice a9 n9 c9) 67 l.length (eQ l)):Calls Tryz.prog 52 [.slice a9 n9 c9].toArray w (cd w (λv w'=>cI w' w.heap.size 50 67 v l.length (eQ l))):=by
 refine bN Tryz.func52 rfl Tryz.ntmps52 rfl λf h s=>bJ ac 1 h rfl λf h=>ah (ah ?_)
 cases hn:(a9.isNone:Bool)
 ·refine rs ac 1 h rfl λf h=>am h (a8 (.bool false) (cq aC6 (h.ev rfl) (h.ev rfl)) (ar8 Value.bool hn)) rfl λf h=>fL h rfl (qr (fo (base:=w.heap.size) h aC6 QN (at6 _) rfl λf w2 v5 h hE3 e5=>al ac 1 h rfl λf h=>dQ (base:=w.heap.size) e5 (hR.keep hE3) h aC6 QN rfl rfl hE3.le (wy _) (by unfold maxLen;omega) (by omega) rfl λf w3 v7 h hE4 e7=>?_))
  replace s:=s.sl_new (hE3.trans hE4) e7
  refine e9 ac 1 h rfl λf h=>av8 (aA rfl h s rfl (s.getSl 0 rfl))
 ·refine rs ac 1 h rfl λf h=>am h (a8 (.bool true) (cq aC6 (h.ev rfl) (h.ev rfl)) (ar8 Value.bool hn)) rfl λf h=>gh h rfl (bJ ac 1 h rfl λf h=>rt (aA rfl h s rfl (by obtain rfl:=A1 hn hR;exact d6 _ _ _ _)))
theorem BL (l:List Tg) (hln:l.length<=1000) (v9:Value) (w:World) (hR:br w v9 67 l.length (eQ l)):Calls Tryz.prog 52 [v9].toArray w (cd w (λv w'=>cI w' w.heap.size 50 67 v l.length (eQ l))):=by
 obtain ⟨a,c,rfl⟩:=hR.len
 exact FC l hln a _ c w hR
theorem A5 (l r:List Tg) (vh vu:Value) (w:World) (hR:br w vh 67 l.length (eQ l)) (hS:br w vu 67 r.length (eQ r)) (hln:l.length<=1000) (hln2:r.length<=1000):Calls Tryz.prog 12 [vh,vu].toArray w (cd w (is (.bool (decide (l=r))))):=by
 refine bN Tryz.func12 rfl Tryz.ntmps12 rfl λf h s=>bJ ac 1 h rfl λf h=>ah (cw ac 1 h rfl λf h=>bT h (hR.keep s.ext) aC6 rfl rfl λf h=>al ac 1 h rfl λf h=>bT h (hS.keep s.ext) aC6 rfl rfl λf h=>e9 ac 1 h rfl λf h=>cr h rfl (λhc=>?_) (λhc=>?_))
 ·replace hc:=hc
  refine bJ ac 1 h rfl λf h=>rt (aA rfl h s rfl ((by show _=_;rw [ar6 (λe=>by subst e;simp at hc)])))
 ·have hl9:l.length=r.length:=by have:=hc;simp at this;omega
  refine kt (ah (cw ac 1 h rfl λf h=>bT h (hR.keep s.ext) aC6 rfl rfl λf h=>e9 ac 1 h rfl λf h=>av9 (aw1 (λnn aa ww=>∃ k:Nat,Sl 26 aa [(0,vh),(1,vu),(12,.int .i64 (l.length:Int)),(13,.int .i64 (k:Int))]/\St w [] ww/\nn=l.length - k/\k<=l.length/\∀ j,j<k->l.getD j eA=r.getD j eA) (l.length - (0)) ⟨0,h.only ⟨rfl,rfl,rfl,aD rfl (by omega),trivial⟩,s.as trivial,rfl,at8 _,λj hj=>az2 hj (ax1 _)⟩ ?_)))
  rintro _ f w1 ⟨k,h,s,hnn,hp0,hp1⟩
  refine bJ ac 1 h rfl λf h=>ah (dA h rfl (λhc=>?_) (λhc=>?_))
  ·refine kt (ah (av9 (qr ?_)))
   have hkl:k<l.length:=by omega
   have hkb:k<r.length:=by omega
   refine e9 ac 2 h rfl λf h=>ah (cQ 9 h (by kernel_rfl) (ar ac 2 h rfl λf h=>av h (bg (hR.keep s.ext) (k) aC6 AI (h.ev rfl) (h.ev rfl) (by omega) (by omega)) rfl λf h=>aE ((hR.keep s.ext).el (k) (by omega) (by decide) (D:=co (l.getD k eA)) (r4 l k hkl)) h i6 rfl (cR _) rfl λf h=>ar ac 2 h rfl λf h=>av h (bg (hS.keep s.ext) (k) aC6 AI (h.ev rfl) (h.ev rfl) (by omega) (by omega)) rfl λf h=>aE ((hS.keep s.ext).el (k) (by omega) (by decide) (D:=co (r.getD k eA)) (r4 r k hkb)) h i6 rfl (cR _) rfl λf h=>av h (ge (eqG _ _) (by kernel_rfl) (by decide) (h.ev rfl) (h.ev rfl) (decide ((l.getD k eA)=r.getD k eA)) (ah2 _ _)) rfl λf h=>bK s λw1 s=>nt (cr h rfl (λhc=>?_) (λhc=>?_))))
   ·refine bJ ac 1 h rfl λf h=>av8 (bh (aU (aU (bh (aU (aA rfl h s rfl ((by show _=_;rw [ar6 (λe=>by subst e;simp at hc)]))))))))
   ·refine wpIn_skip (bo (aK (aG (am h (bY (h.ev rfl) (h.ev rfl) (by omega)) rfl λf h=>e9 ac 1 h rfl λf h=>?_))))
    exact ⟨_,by omega,⟨k+1,h.only ⟨rfl,rfl,rfl,aD rfl (by omega),trivial⟩,St.as s trivial,rfl,by omega,KD hp1 (by simpa using hc)⟩⟩
  ·refine aw0 (ba (ba (cj (aK (bJ ac 1 h rfl λf h=>av8 (aA rfl h s rfl ((by show _=_;rw [ar7 (N4 hl9 (λj hj=>hp1 j (by omega)))]))))))))
end Go.Proofs.YtkhepdpfdhdlaaaGreatDoor
