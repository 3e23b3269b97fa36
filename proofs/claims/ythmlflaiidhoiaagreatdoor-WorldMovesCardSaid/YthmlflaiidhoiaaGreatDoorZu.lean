/- Package world: what its functions answer. -/
import Derived.Test.YthmlflaiidhoiaaGreatDoorZp
import Derived.Test.YthmlflaiidhoiaaGreatDoorZi
set_option linter.unusedVariables false
namespace Go.Proofs.YthmlflaiidhoiaaGreatDoor
open Go.RowKit
theorem Hu (L:List N3) (vo:Value)  (w:World) (hO:kr w vo L) (hL:L.length<=40) (hb:RwB L):Calls Tryz.prog 26 [.agg #[vo]].toArray w (cb w (is (.bool (pN L)))):=by
 have hml:(aN L).length=L.length:=aL1 _
 refine bK Tryz.func26 rfl Tryz.ntmps26 rfl λf h s=>qr (aV (#[vo]) h s rfl rfl rfl λf w1 b1 h s=>e9 ac 1 h rfl λf h=>ah (ah ?_))
 cases r0:(kK L:Bool)
 ·refine aw (ak 0 h s bN rfl rfl (rfl) rfl λf h=>jD false h s FJ (kW L vo _ (hO.keep s.ext) hL hb) (r0) rfl rfl λf w1 h s=>e9 ac 1 h rfl λf h=>dG h rfl (bE ac 1 h rfl λf h=>rt (av rfl h s rfl (by show _=_;rw [Xw L r0]))))
 ·refine aw (ak 0 h s bN rfl rfl (rfl) rfl λf h=>aY h s FJ (aR (.bool true) (kW L vo _ (hO.keep s.ext) hL hb) (aH3 Value.bool r0)) rfl rfl ?_);intro f w1 v9 hT hE h s;obtain rfl:=hT
  refine e9 ac 1 h rfl λf h=>nH h rfl (ah (qr (ak 0 h s bN rfl rfl (rfl) rfl λf h=>aY h s AO (hQ L vo _ (hO.keep s.ext) hL) rfl rfl ?_)));intro f w1 v9 hT hE h sq;replace s:=s.sl_new hE hT
  refine eK 0 h s aS2 rfl rfl rfl λf h=>e9 ac 1 h rfl λf h=>aL4 (aL6 (λnn aa ww=>∃ k:Nat,Sl 20 aa [(0,.agg #[vo]),(1,.pointer (some ⟨b1,0,none⟩)),(9,v9),(10,.int .i64 ((aN L).length:Int)),(11,.int .i64 (k:Int))]/\St w [.sl v9 60 33 (aN L).length (aq (aN L)),.blk b1 (.cells (#[vo]) 24)] ww/\nn=(aN L).length - k/\k<=(aN L).length/\∀ j,j<k->jg (L.getD j z3).1.me.2=true) ((aN L).length - (0)) ⟨0,h.only ⟨rfl,rfl,rfl,rfl,ao rfl (by omega),trivial⟩,s.as ⟨rfl,rfl,trivial⟩,rfl,aJ3 _,λj hj=>aO7 hj (aM6 _)⟩ ?_)
  rintro _ f w1 ⟨k,h,s,hnn,hp0,hp1⟩
  refine bE ac 1 h rfl λf h=>ah (cB h rfl (λhc=>?_) (λhc=>?_))
  ·refine kt (ah (aL4 (qr ?_)))
   have hkm:k<(aN L).length:=by omega
   have hkl:k<L.length:=by omega
   refine ai h (bj (bs.of_own (s.getSl 0 rfl)) (k) aS2 dX (h.ev rfl) (h.ev rfl) (by omega) (by omega)) rfl λf h=>ap ((bs.of_own (s.getSl 0 rfl)).el (k) (by omega) (by decide) (D:=ar (L.getD k z3).1.me) ((eM (aN L) k hkm).trans (by rw [Mx]))) h aQ rfl (aj _) rfl λf h=>aK (ar bH) h s em rfl rfl λf w1 b4 h s=>al 0 h s aQ rfl rfl rfl (aj _) (aj _) (bD _) λw1 s=>nt (ah ?_)
   refine rs ac 1 h rfl λf h=>ap (aJ.subL (aJ.of_own s 0 rfl) 1 32 (D:=aH (L.getD k z3).1.me.2) (fv _)) h bW rfl (by first|exact aA _|exact au _ _) rfl λf h=>fh h s MQ (qB (L.getD k z3).1.me.2 _) rfl rfl (λe0 f w1 h s=>?_) (λe0 f w1 h s=>?_)
   ·refine e9 ac 1 h rfl λf h=>dG h rfl (bE ac 1 h rfl λf h=>aL3 (bA (aS (aS (bA (aS (av rfl h s rfl (by show _=_;rw [J0 hkl e0]))))))))
   ·refine e9 ac 1 h rfl λf h=>kQ h rfl (wpIn_skip (aW (aD (aw (ai h (bo (h.ev rfl) (h.ev rfl) (by omega)) rfl λf h=>e9 ac 1 h rfl λf h=>?_)))))
    exact ⟨_,by omega,⟨k+1,h.only ⟨rfl,rfl,rfl,rfl,ao rfl (by omega),trivial⟩,St.as (s.pick _ (aI8 [_] _)) ⟨rfl,rfl,trivial⟩,rfl,by omega,gv hp1 e0⟩⟩
  ·refine aL5 (aO (aO (bS (aD (bE ac 1 h rfl λf h=>aL3 (av rfl h s rfl (by show _=_;rw [LE r0 (λj hj=>hp1 j (by rw [hml] at *;omega))])))))))
end Go.Proofs.YthmlflaiidhoiaaGreatDoor
