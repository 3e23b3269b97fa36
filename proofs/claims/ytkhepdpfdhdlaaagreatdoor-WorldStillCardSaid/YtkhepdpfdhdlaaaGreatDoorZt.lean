/- Package table and what it stands on, so far as it is wanted: what each function answers. -/
import Derived.Test.YtkhepdpfdhdlaaaGreatDoorZm
import Derived.Test.YtkhepdpfdhdlaaaGreatDoorZo
set_option linter.unusedVariables false
set_option linter.unusedSimpArgs false
set_option linter.unusedSectionVars false
namespace Go.Proofs.YtkhepdpfdhdlaaaGreatDoor
open Go.RowKit
theorem Gk (x y:Tg) (w:World):Calls Tryz.prog 188 [.agg (co x),.agg (co y)].toArray w (cd w (is (.int .i64 (pW x y 0)))):=by
 refine bN Tryz.func188 rfl Tryz.ntmps188 rfl λf h s=>qr (aZ (co x) h s rfl rfl rfl λf w1 b2 h s=>aZ (co y) h s rfl rfl rfl λf w1 b3 h s=>e9 ac 1 h rfl λf h=>cw ac 1 h rfl λf h=>az (aF.subL (aF.of_own s 1 rfl) 0 32 (D:=aI (_)) (yQ _)) h ca rfl (by first|exact aC _|exact aB _ _) rfl λf h=>al ac 1 h rfl λf h=>az (aF.subL (aF.of_own s 0 rfl) 0 32 (D:=aI (_)) (yQ _)) h ca rfl (by first|exact aC _|exact aB _ _) rfl λf h=>dM h s vv (jb x.1 y.1 _) rfl rfl λf w1 h s=>e9 ac 1 h rfl λf h=>av8 (aA rfl h s rfl (rfl)))
theorem Bq (x y:Tg) (w:World):Calls Tryz.prog 190 [.agg (co x),.agg (co y)].toArray w (cd w (is (.int .i64 (pW x y 2)))):=by
 refine bN Tryz.func190 rfl Tryz.ntmps190 rfl λf h s=>qr (aZ (co x) h s rfl rfl rfl λf w1 b2 h s=>aZ (co y) h s rfl rfl rfl λf w1 b3 h s=>e9 ac 1 h rfl λf h=>cw ac 2 h rfl λf h=>az (aF.subL (aF.of_own s 1 rfl) 33 32 (D:=aI (_)) (ux _)) h ca rfl (by first|exact aC _|exact aB _ _) rfl λf h=>al ac 2 h rfl λf h=>az (aF.subL (aF.of_own s 0 rfl) 33 32 (D:=aI (_)) (ux _)) h ca rfl (by first|exact aC _|exact aB _ _) rfl λf h=>dM h s vv (jb x.2.1.2.1 y.2.1.2.1 _) rfl rfl λf w1 h s=>e9 ac 1 h rfl λf h=>av8 (aA rfl h s rfl (rfl)))
theorem Ej (x y:Tg) (k:Nat) (hk:k<4) (w:World):Fnc Tryz.prog (fn4 188 189 190 191 k)/\Calls Tryz.prog (fn4 188 189 190 191 k) [.agg (co x),.agg (co y)].toArray w (cd w (is (.int .i64 (pW x y k)))):=by
 match k,hk with
 |0,_=>exact ⟨UF,Gk x y w⟩
 |1,_=>exact ⟨TS,zg x y w⟩
 |2,_=>exact ⟨Vp,Bq x y w⟩
 |3,_=>exact ⟨Uq,zb x y w⟩
theorem nv (x y:Tg) (w:World):Calls Tryz.prog 116 [.agg (co x),.agg (co y)].toArray w (cd w (is (.int .i64 (x7 x y)))):=by
 refine bN Tryz.func116 rfl Tryz.ntmps116 rfl λf h s=>qr (aZ (co x) h s rfl rfl rfl λf w1 b2 h s=>aZ (co y) h s rfl rfl rfl λf w1 b3 h s=>e9 ac 1 h rfl λf h=>qr (am h (xx [.func 188,.func 189,.func 190,.func 191] [.func (.func 188) #[] #[],.func (.func 189) #[] #[],.func (.func 190) #[] #[],.func (.func 191) #[] #[]] aB6 Dv ⟨_,EJ,rfl⟩ rfl (evs h rfl) (by simp [Value.cells]) rfl) rfl λf h=>aO (#[.nilFunc,.nilFunc,.nilFunc,.nilFunc]) h s EJ rfl rfl λf w1 b5 h s=>aj 0 h s Iz rfl rfl rfl (rfl) (rfl) (by decide) λw1 s=>nt (ah (qr (ak 0 h s Iz rfl rfl (rfl) rfl λf h=>e9 ac 1 h rfl λf h=>av9 (aw1 (λnn aa ww=>∃ k:Nat,Sl 22 aa [(0,.agg (co x)),(1,.agg (co y)),(2,.pointer (some ⟨b2,0,none⟩)),(3,.pointer (some ⟨b3,0,none⟩)),(5,.pointer (some ⟨b5,0,none⟩)),(10,.agg (#[.func (.func 188) #[] #[],.func (.func 189) #[] #[],.func (.func 190) #[] #[],.func (.func 191) #[] #[]])),(11,.int .i64 (k:Int))]/\St w [.blk b5 (.cells (#[.func (.func 188) #[] #[],.func (.func 189) #[] #[],.func (.func 190) #[] #[],.func (.func 191) #[] #[]]) 269),.blk b3 (.cells (co y) 50),.blk b2 (.cells (co x) 50)] ww/\nn=4 - k/\k<=4/\∀ j,j<k->pW x y j=0) (4 - (0)) ⟨0,h.only ⟨rfl,rfl,rfl,rfl,rfl,rfl,aD rfl (by omega),trivial⟩,s.as ⟨rfl,rfl,rfl,trivial⟩,rfl,at8 _,λj hj=>az2 hj (ax1 _)⟩ ?_))))))
 rintro _ f w1 ⟨k,h,s,hnn,hp0,hp1⟩
 refine bJ ac 1 h rfl λf h=>ah (dA h rfl (λhc=>?_) (λhc=>?_))
 ·refine kt (ah (av9 (qr ?_)))
  have hk4:k<4:=by omega
  obtain ⟨hfn4,_⟩:=Ej x y k hk4 w
  refine am h (zV k aB6 Dv Tryz.underlying266 (h.ev rfl) (h.ev rfl) rfl (by omega) (UL hk4)) rfl λf h=>e9 ac 1 h rfl λf h=>cw ac 1 h rfl λf h=>ak 2 h s i6 rfl rfl (cR _) rfl λf h=>ak 1 h s i6 rfl rfl (cR _) rfl λf h=>eS [.agg (co x),.agg (co y)] (caps:=[]) h s hfn4 rfl (Ej x y k hk4 _).2 rfl rfl ?_;intro f w1 v17 hT hE h s;obtain rfl:=hT
  refine e9 ac 1 h rfl λf h=>bJ ac 2 h rfl λf h=>cr h rfl (λhc=>?_) (λhc=>?_)
  ·have hc:=ar4 hc
   refine bJ ac 2 h rfl λf h=>av8 (bh (aU (aU (bh (aU (aA rfl h s rfl (by show _=_;rw [MN hk4 hp1 hc])))))))
  ·have hc:=Decidable.of_not_not (ar5 hc)
   refine wpIn_skip (bo (aK (aG (am h (bY (h.ev rfl) (h.ev rfl) (by omega)) rfl λf h=>e9 ac 1 h rfl λf h=>?_))))
   exact ⟨_,by omega,⟨k+1,h.only ⟨rfl,rfl,rfl,rfl,rfl,rfl,aD rfl (by omega),trivial⟩,St.as s ⟨rfl,rfl,rfl,trivial⟩,rfl,by omega,O8 hp1 hc⟩⟩
 ·refine aw0 (ba (ba (cj (aK (bJ ac 1 h rfl λf h=>av8 (aA rfl h s rfl (by show _=_;rw [Pf (λj hj=>hp1 j (by omega))])))))))
theorem Ci (l:List Tg) (vh:Value) (w:World) (hR:br w vh 67 l.length (eQ l)) (hln:l.length<=1000):Calls Tryz.prog 67 [vh].toArray w (cd w (is (.bool (jG l)))):=by
 refine bN Tryz.func67 rfl Tryz.ntmps67 rfl λf h s=>bJ ac 1 h rfl λf h=>ah (cw ac 1 h rfl λf h=>bT h (hR.keep s.ext) aC6 rfl rfl λf h=>e9 ac 1 h rfl λf h=>cr h rfl (λhc=>?_) (λhc=>?_))
 ·have h32:¬ l.length<=32:=by have:=ar4 hc;omega
  refine bJ ac 1 h rfl λf h=>rt (aA rfl h s rfl (by first|(unfold jG;rw [ar6 h32,Bool.and_false];rfl)|(obtain rfl:k=l.length:=(by omega);show _=_;rw [uj hp1];exact ar8 Value.bool (ar7 h32).symm)))
 ·have h32:l.length<=32:=by have:=ar5 hc;omega
  refine kt (ah (cw ac 1 h rfl λf h=>bT h (hR.keep s.ext) aC6 rfl rfl λf h=>e9 ac 1 h rfl λf h=>av9 (aw1 (λnn aa ww=>∃ k:Nat,Sl 33 aa [(0,vh),(8,vh),(9,.int .i64 (l.length:Int)),(10,.int .i64 (k:Int))]/\St w [] ww/\nn=l.length - k/\k<=l.length/\∀ j,j<k->Mp l j=true) (l.length - (0)) ⟨0,h.only ⟨rfl,rfl,rfl,aD rfl (by omega),trivial⟩,s.as trivial,rfl,at8 _,λj hj=>az2 hj (ax1 _)⟩ ?_)))
  rintro _ f w1 ⟨k,h,s,hnn,hp0,hp1⟩
  refine bJ ac 1 h rfl λf h=>ah (dA h rfl (λhc=>?_) (λhc=>?_))
  ·refine kt (ah (av9 (cw ac 1 h rfl λf h=>?_)))
   have hkl:k<l.length:=by omega
   refine am h (bg (hR.keep s.ext) (k) aC6 AI (h.ev rfl) (h.ev rfl) (by omega) (by omega)) rfl λf h=>az ((hR.keep s.ext).el (k) (by omega) (by decide) (D:=co (l.getD k eA)) (r4 l k hkl)) h i6 rfl (cR _) rfl λf h=>aO (co eA) h s Sq rfl rfl λf w1 b4 h s=>al ac 1 h rfl λf h=>aj 0 h s i6 rfl rfl rfl (cR _) (cR _) (Ba _) λw1 s=>nt (ah ?_)
   cases h0:(sZ (l.getD k eA):Bool)
   ·refine cQ 17 h (by kernel_rfl) (aX 0 h s i6 rfl rfl (cR _) rfl λf h=>bj h wx (λw9 hE9=>a6 (.bool false) (i8 (l.getD k eA) w9) (ar8 Value.bool h0)) rfl rfl λf h=>ar ac 15 h rfl λf h=>bK s λw1 s=>gh h rfl (bJ ac 1 h rfl λf h=>av8 (bh (aU (aU (bh (aU (aA rfl h s rfl (by show _=_;rw [rX hkl (ac8 h0)])))))))))
   ·skip
    cases h1:(decide (k=0):Bool)
    ·skip
     cases h2:(Mm (l.getD (k - 1) eA) (l.getD k eA):Bool)
     ·refine cQ 17 h (by kernel_rfl) (aX 0 h s i6 rfl rfl (cR _) rfl λf h=>bj h wx (λw9 hE9=>a6 (.bool true) (i8 (l.getD k eA) w9) (ar8 Value.bool h0)) rfl rfl λf h=>ar ac 3 h rfl λf h=>bD h rfl (ot ac h rfl (ar7 (by have:=ar5 h1;omega)) λf h=>ar ac 3 h rfl λf h=>bD h rfl (av h (gC (h.ev rfl) (h.ev rfl) (by omega)) rfl λf h=>bD h rfl (av h (bg (hR.keep s.ext) ((k - 1)) aC6 AI (h.ev rfl) (h.ev rfl) (by have:=ar5 h1;omega) (by omega)) rfl λf h=>bD h rfl (aE ((hR.keep s.ext).el ((k - 1)) (by omega) (by decide) (D:=co (l.getD (k - 1) eA)) (r4 l (k - 1) (by omega))) h i6 rfl (cR _) rfl λf h=>bD h rfl (aX 0 h s i6 rfl rfl (cR _) rfl λf h=>bD h rfl (bj h HP (λw9 hE9=>nv (l.getD (k - 1) eA) (l.getD k eA) w9) rfl rfl λf h=>bD h rfl (ot ac h rfl ((Ib _ _).trans (by rw [h2];rfl)) λf h=>ar ac 2 h rfl λf h=>bK s λw1 s=>gh h rfl (bJ ac 1 h rfl λf h=>av8 (bh (aU (aU (bh (aU (aA rfl h s rfl (by show _=_;rw [rX hkl ((V4 h0 (ar5 h1)).trans h2)]))))))))))))))))
     ·refine cQ 17 h (by kernel_rfl) (aX 0 h s i6 rfl rfl (cR _) rfl λf h=>bj h wx (λw9 hE9=>a6 (.bool true) (i8 (l.getD k eA) w9) (ar8 Value.bool h0)) rfl rfl λf h=>ar ac 3 h rfl λf h=>bD h rfl (ot ac h rfl (ar7 (by have:=ar5 h1;omega)) λf h=>ar ac 3 h rfl λf h=>bD h rfl (av h (gC (h.ev rfl) (h.ev rfl) (by omega)) rfl λf h=>bD h rfl (av h (bg (hR.keep s.ext) ((k - 1)) aC6 AI (h.ev rfl) (h.ev rfl) (by have:=ar5 h1;omega) (by omega)) rfl λf h=>bD h rfl (aE ((hR.keep s.ext).el ((k - 1)) (by omega) (by decide) (D:=co (l.getD (k - 1) eA)) (r4 l (k - 1) (by omega))) h i6 rfl (cR _) rfl λf h=>bD h rfl (aX 0 h s i6 rfl rfl (cR _) rfl λf h=>bD h rfl (bj h HP (λw9 hE9=>nv (l.getD (k - 1) eA) (l.getD k eA) w9) rfl rfl λf h=>bD h rfl (zC ac h rfl ((Ib _ _).trans (by rw [h2];rfl)) λf h=>ar ac 2 h rfl λf h=>bK s λw1 s=>oW h rfl (wpIn_skip (bo (aK (aG (am h (bY (h.ev rfl) (h.ev rfl) (by omega)) rfl λf h=>e9 ac 1 h rfl λf h=>?_)))))))))))))
      exact ⟨_,by omega,⟨k+1,h.only ⟨rfl,rfl,rfl,aD rfl (by omega),trivial⟩,St.as (s.pick _ (at3 [_] _)) trivial,rfl,by omega,zS hp1 ((V4 h0 (ar5 h1)).trans h2)⟩⟩
    ·refine cQ 17 h (by kernel_rfl) (aX 0 h s i6 rfl rfl (cR _) rfl λf h=>bj h wx (λw9 hE9=>a6 (.bool true) (i8 (l.getD k eA) w9) (ar8 Value.bool h0)) rfl rfl λf h=>ar ac 3 h rfl λf h=>bD h rfl (zC ac h rfl (ar6 (by have:=ar4 h1;omega)) λf h=>ar ac 11 h rfl λf h=>bK s λw1 s=>oW h rfl (wpIn_skip (bo (aK (aG (am h (bY (h.ev rfl) (h.ev rfl) (by omega)) rfl λf h=>e9 ac 1 h rfl λf h=>?_)))))))
     exact ⟨_,by omega,⟨k+1,h.only ⟨rfl,rfl,rfl,aD rfl (by omega),trivial⟩,St.as (s.pick _ (at3 [_] _)) trivial,rfl,by omega,zS hp1 (ah9 h0 (ar4 h1))⟩⟩
  ·refine aw0 (ba (ba (cj (aK (bJ ac 1 h rfl λf h=>av8 (aA rfl h s rfl (by first|(unfold jG;rw [ar6 h32,Bool.and_false];rfl)|(obtain rfl:k=l.length:=(by omega);show _=_;rw [uj hp1];exact ar8 Value.bool (ar7 h32).symm))))))))
end Go.Proofs.YtkhepdpfdhdlaaaGreatDoor
