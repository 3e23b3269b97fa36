/- Package world and what it stands on, so far as it is wanted: what each function answers. -/
import Derived.Test.YthmlflaiidhoiaaGreatDoorZo
import Derived.Test.YthmlflaiidhoiaaGreatDoorZa
import Derived.Test.YthmlflaiidhoiaaGreatDoorZi
set_option linter.unusedVariables false
set_option linter.unusedSimpArgs false
set_option linter.unusedSectionVars false
namespace Go.Proofs.YthmlflaiidhoiaaGreatDoor
open Go.RowKit
theorem Gd (L:List N3) (vo:Value)  (w:World) (hO:qC w vo L) (hL:L.length<=40) (hb:RwB L):Calls Tryz.prog 26 [.agg #[vo]].toArray w (bW w (is (.bool (mM L)))):=by
 have hml:(av L).length=L.length:=au1 _
 refine bG Tryz.func26 rfl Tryz.ntmps26 rfl λf h s=>qr (ba (#[vo]) h s rfl rfl rfl λf w1 b1 h s=>e9 ac 1 h rfl λf h=>ag (ag ?_))
 cases r0:(iv L:Bool)
 ·refine aC (al 0 h s cH rfl rfl (rfl) rfl λf h=>jX false h s zz (iU L vo _ (hO.keep s.ext) hL hb) (r0) rfl rfl λf w1 h s=>e9 ac 1 h rfl λf h=>dF h rfl (bD ac 1 h rfl λf h=>rt (aA rfl h s rfl (by show _=_;rw [Un L r0]))))
 ·refine aC (al 0 h s cH rfl rfl (rfl) rfl λf h=>bg h s zz (bK (.bool true) (iU L vo _ (hO.keep s.ext) hL hb) (aq3 Value.bool r0)) rfl rfl ?_);intro f w1 v9 hT hE h s;obtain rfl:=hT
  refine e9 ac 1 h rfl λf h=>ry h rfl (ag (qr (al 0 h s cH rfl rfl (rfl) rfl λf h=>bg h s Dq (iw L vo _ (hO.keep s.ext) hL) rfl rfl ?_)));intro f w1 v9 hT hE h sq;replace s:=s.sl_new hE hT
  refine eF 0 h s aA6 rfl rfl rfl λf h=>e9 ac 1 h rfl λf h=>au4 (au6 (λnn aa ww=>∃ k:Nat,Sl 20 aa [(0,.agg #[vo]),(1,.pointer (some ⟨b1,0,none⟩)),(9,v9),(10,.int .i64 ((av L).length:Int)),(11,.int .i64 (k:Int))]/\St w [.sl v9 60 33 (av L).length (aj (av L)),.blk b1 (.cells (#[vo]) 24)] ww/\nn=(av L).length - k/\k<=(av L).length/\∀ j,j<k->pD (L.getD j z3).1.me.2=true) ((av L).length - (0)) ⟨0,h.only ⟨rfl,rfl,rfl,rfl,aw rfl (by omega),trivial⟩,s.as ⟨rfl,rfl,trivial⟩,rfl,as3 _,λj hj=>ax7 hj (av6 _)⟩ ?_)
  rintro _ f w1 ⟨k,h,s,hnn,hp0,hp1⟩
  refine bD ac 1 h rfl λf h=>ag (cZ h rfl (λhc=>?_) (λhc=>?_))
  ·refine kt (ag (au4 (qr ?_)))
   have hkm:k<(av L).length:=by omega
   have hkl:k<L.length:=by omega
   refine ak h (bj (a7.of_own (s.getSl 0 rfl)) (k) aA6 dd (h.ev rfl) (h.ev rfl) (by omega) (by omega)) rfl λf h=>ax ((a7.of_own (s.getSl 0 rfl)).el (k) (by omega) (by decide) (D:=ar (L.getD k z3).1.me) ((dI (av L) k hkm).trans (by rw [LG]))) h aI rfl (ae _) rfl λf h=>aK (ar aS) h s cQ rfl rfl λf w1 b4 h s=>am 0 h s aI rfl rfl rfl (ae _) (ae _) (aP _) λw1 s=>nt (ag ?_)
   refine rs ac 1 h rfl λf h=>ax (aX.subL (aX.of_own s 0 rfl) 1 32 (D:=aJ (L.getD k z3).1.me.2) (cz _)) h bO rfl (by first|exact az _|exact ay _ _) rfl λf h=>fx h s WH (Gy (L.getD k z3).1.me.2 _) rfl rfl (λe0 f w1 h s=>?_) (λe0 f w1 h s=>?_)
   ·refine e9 ac 1 h rfl λf h=>dF h rfl (bD ac 1 h rfl λf h=>au3 (aY (aQ (aQ (aY (aQ (aA rfl h s rfl (by show _=_;rw [Kw hkl e0]))))))))
   ·refine e9 ac 1 h rfl λf h=>mx h rfl (wpIn_skip (aW (aG (aC (ak h (bB (h.ev rfl) (h.ev rfl) (by omega)) rfl λf h=>e9 ac 1 h rfl λf h=>?_)))))
    exact ⟨_,by omega,⟨k+1,h.only ⟨rfl,rfl,rfl,rfl,aw rfl (by omega),trivial⟩,St.as (s.pick _ (ar8 [_] _)) ⟨rfl,rfl,trivial⟩,rfl,by omega,gM hp1 e0⟩⟩
  ·refine au5 (aT (aT (bS (aG (bD ac 1 h rfl λf h=>au3 (aA rfl h s rfl (by show _=_;rw [Jd r0 (λj hj=>hp1 j (by rw [hml] at *;omega))])))))))
end Go.Proofs.YthmlflaiidhoiaaGreatDoor
