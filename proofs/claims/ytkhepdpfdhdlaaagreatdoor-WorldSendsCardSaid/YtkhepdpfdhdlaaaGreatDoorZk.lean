/- Package node and what it stands on, so far as it is wanted: what each function answers. -/
import Derived.Test.YtkhepdpfdhdlaaaGreatDoorZa
import Derived.Test.YtkhepdpfdhdlaaaGreatDoorZd
set_option linter.unusedVariables false
set_option linter.unusedSimpArgs false
set_option linter.unusedSectionVars false
namespace Go.Proofs.YtkhepdpfdhdlaaaGreatDoor
open Go.RowKit
theorem Cp (l:List Mb) (vh:Value) (no:Int) (w:World) (hR:bp w vh 33 l.length (aw l)) (hln:l.length<=1000):Calls Tryz.prog 233 [vh,.int .i64 no].toArray w (bW w (is (.bool (qE l no)))):=by
 refine bG Tryz.func233 rfl Tryz.ntmps233 rfl λf h s=>qr (bh (#[.int .i64 no]) h s rfl rfl rfl λf w1 b3 h s=>e9 ac 1 h rfl λf h=>cu ac 1 h rfl λf h=>ai h (dz [.pointer (some ⟨b3,0,none⟩)] (kT h rfl)) rfl λf h=>da h s F5 (kK l vh 293 [.pointer (some ⟨b3,0,none⟩)] (λx=>decide (x.1=no)) _ (hR.keep s.ext) hln Nz (λw9 h9 x _=>yb x no b3 w9 ((iF.of_own s 0 rfl).keep h9))) rfl rfl λf w1 h s=>e9 ac 1 h rfl λf h=>Y8 (au rfl h s rfl (rfl)))
theorem kQ (l:List Mb) (vh:Value) (no:Int) (w:World) (hR:bp w vh 33 l.length (aw l)) (hln:l.length<=1000):Calls Tryz.prog 185 [vh,.int .i64 no].toArray w (bW w (is (.bool (pV l no)))):=by
 refine bG Tryz.func185 rfl Tryz.ntmps185 rfl λf h s=>bF ac 1 h rfl λf h=>ah (cu ac 1 h rfl λf h=>ce h (hR.keep s.ext) aa8 rfl rfl λf h=>e9 ac 1 h rfl λf h=>Y9 (Zb (λnn aa ww=>∃ k:Nat,Sl 32 aa [(0,vh),(1,.int .i64 no),(7,vh),(8,.int .i64 (l.length:Int)),(9,.int .i64 (k:Int))]/\St w [] ww/\nn=l.length - k/\k<=l.length/\∀ j,j<k->mg l no j=false) (l.length - (0)) ⟨0,h.only ⟨rfl,rfl,rfl,rfl,av rfl (by omega),trivial⟩,s.as trivial,rfl,YO _,λj hj=>ZF hj (Zl _)⟩ ?_))
 rintro _ f w1 ⟨k,h,s,hnn,hp0,hp1⟩
 refine bF ac 1 h rfl λf h=>ah (dq h rfl (λhc=>?_) (λhc=>?_))
 ·refine kt (ah (Y9 (cu ac 1 h rfl λf h=>?_)))
  have hkl:k<l.length:=by omega
  refine ai h (bz (hR.keep s.ext) (k) aa8 fp (h.ev rfl) (h.ev rfl) (by omega) (by omega)) rfl λf h=>aB ((hR.keep s.ext).el (k) (by omega) (by decide) (D:=az (l.getD k bE)) (fL l k hkl)) h bH rfl (am _) rfl λf h=>aS (az bE) h s gI rfl rfl λf w1 b6 h s=>ap ac 1 h rfl λf h=>ak 0 h s bH rfl rfl rfl (am _) (am _) (cz _) λw1 s=>nt (ah ?_)
  cases k0:(fy (l.getD k bE):Bool)
  ·refine dF 17 h (by kernel_rfl) (ba 0 h s bH rfl rfl (am _) rfl λf h=>bj h mW (λw9 hE9=>aX (.bool false) (ij (l.getD k bE) w9) (Yu Value.bool k0)) rfl rfl λf h=>aq ac 15 h rfl λf h=>bQ s λw1 s=>ie h rfl (bF ac 1 h rfl λf h=>Y8 (bo (aV (aV (bo (aV (au rfl h s rfl (by show _=_;rw [qj hkl (OL k0)])))))))))
  ·skip
   refine dF 17 h (by kernel_rfl) (ba 0 h s bH rfl rfl (am _) rfl λf h=>bj h mW (λw9 hE9=>aX (.bool true) (ij (l.getD k bE) w9) (Yu Value.bool k0)) rfl rfl λf h=>aq ac 3 h rfl λf h=>a6 h rfl (ao (ae (aJ.of_own s 0 rfl) 0 (cg _)) h bs rfl rfl λf h=>aq ac 1 h rfl λf h=>a6 h rfl (IV ac h rfl (λk1 f h=>?_) (λk1 f h=>?_))))
   ·refine aq ac 4 h rfl λf h=>a6 h rfl (ar h (dL (hR.keep s.ext) (k) aa8 fp (h.ev rfl) (h.ev rfl) (rfl) (by omega)) rfl λf h=>aq ac 1 h rfl λf h=>a6 h rfl (ao (ae (aJ.of_own s 0 rfl) 0 (cg _)) h bs rfl rfl λf h=>a6 h rfl (bj h PA (λw9 hE9=>Cp (l.take k) (fI vh k) (l.getD k bE).1 w9 ((AT hR k (by omega)).keep (s.ext.trans hE9)) (by rw [Y5];omega)) rfl rfl λf h=>aq ac 1 h rfl λf h=>bQ s λw1 s=>nt (cA h rfl (λhc=>?_) (λhc=>?_)))))
    ·refine bF ac 1 h rfl λf h=>Y8 (bo (aV (aV (bo (aV (au rfl h s rfl (by show _=_;rw [qj hkl ((H7 k0 k1).trans hc)])))))))
    ·refine wpIn_skip (bw (aO (aG (ai h (bS (h.ev rfl) (h.ev rfl) (by omega)) rfl λf h=>e9 ac 1 h rfl λf h=>?_))))
     have hb9:mg l no k=false:=(H7 k0 k1).trans hc
     exact ⟨_,by omega,⟨k+1,h.only ⟨rfl,rfl,rfl,rfl,av rfl (by omega),trivial⟩,St.as (s.pick _ (YJ [_] _)) trivial,rfl,by omega,gX hp1 hb9⟩⟩
   ·refine aq ac 9 h rfl λf h=>bQ s λw1 s=>ie h rfl (bF ac 1 h rfl λf h=>Y8 (bo (aV (aV (bo (aV (au rfl h s rfl (by show _=_;rw [qj hkl (OT k1)]))))))))
 ·refine Za (a7 (a7 (cd (aO (bF ac 1 h rfl λf h=>Y8 (au rfl h s rfl (by show _=_;rw [EJ (by omega) hp1])))))))
theorem LP (l:List Mb) (vh:Value) (m:Mb) (w:World) (hR:bp w vh 33 l.length (aw l)) (hln:l.length<=1000):Calls Tryz.prog 111 [vh,.agg (az m)].toArray w (bW w (is (.bool (nR l m)))):=by
 refine bG Tryz.func111 rfl Tryz.ntmps111 rfl λf h s=>qr (bh ((az m)) h s rfl rfl rfl λf w1 b3 h s=>e9 ac 1 h rfl λf h=>ah (ah ?_))
 cases h1:(decide (l.length=1):Bool)
 ·refine dF 10 h (by kernel_rfl) (aq ac 1 h rfl λf h=>ar h (eS (hR.keep s.ext) aa8 (h.ev rfl)) rfl λf h=>jf ac h rfl (Ys (by have:=Yr h1;omega)) λf h=>aq ac 7 h rfl λf h=>bQ s λw1 s=>f7 h rfl (ah ?_))
  cases g0:(decide (1<=l.length):Bool)
  ·refine aG ?_
   have hno:¬ (l.length=1/\l.getD 0 bE=m):=(by rintro ⟨h9,h8⟩;exact ZF h9 (Yr h1))
   refine ap ac 1 h rfl λf h=>ce h (hR.keep s.ext) aa8 rfl rfl λf h=>kw ac h rfl (Ys (by have:=Yr g0;omega)) λf h=>e9 ac 12 h rfl λf h=>Y8 (au rfl h s rfl (by show _=_;rw [Ma hno g0]))
  ·skip
   cases g1:(decide (l.length<=4):Bool)
   ·refine aG ?_
    have hno:¬ (l.length=1/\l.getD 0 bE=m):=(by rintro ⟨h9,h8⟩;exact ZF h9 (Yr h1))
    refine ap ac 1 h rfl λf h=>ce h (hR.keep s.ext) aa8 rfl rfl λf h=>gO ac h rfl (Yt (by have:=Yq g0;omega)) λf h=>ap ac 2 h rfl λf h=>bX h rfl (ce h (hR.keep s.ext) aa8 rfl rfl λf h=>bX h rfl (kw ac h rfl (Ys (by have:=Yr g1;omega)) λf h=>e9 ac 8 h rfl λf h=>Y8 (au rfl h s rfl (by show _=_;rw [MG hno g1]))))
   ·refine aG ?_
    have hno:¬ (l.length=1/\l.getD 0 bE=m):=(by rintro ⟨h9,h8⟩;exact ZF h9 (Yr h1))
    refine ap ac 1 h rfl λf h=>ce h (hR.keep s.ext) aa8 rfl rfl λf h=>gO ac h rfl (Yt (by have:=Yq g0;omega)) λf h=>ap ac 2 h rfl λf h=>bX h rfl (ce h (hR.keep s.ext) aa8 rfl rfl λf h=>bX h rfl (gO ac h rfl (Yt (by have:=Yq g1;omega)) λf h=>ap ac 4 h rfl λf h=>bX h rfl (ag (ae (aJ.of_own s 0 rfl) 0 (cg _)) h bs rfl rfl λf h=>bX h rfl (da h s yi (kQ l vh m.1 _ (hR.keep s.ext) hln) rfl rfl λf w1 h s=>e9 ac 2 h rfl λf h=>Y8 (au rfl h s rfl (by show _=_;rw [Nu hno g0 g1]))))))
 ·skip
  cases h2:(decide (l.getD 0 bE=m):Bool)
  ·refine dF 10 h (by kernel_rfl) (aq ac 1 h rfl λf h=>ar h (eS (hR.keep s.ext) aa8 (h.ev rfl)) rfl λf h=>je ac h rfl (Yt (by have:=Yq h1;omega)) λf h=>aq ac 2 h rfl λf h=>a6 h rfl ?_)
   have h19:=Yq h1
   refine ar h (bz (hR.keep s.ext) (0) aa8 fp (h.ev rfl) (h.ev rfl) (by omega) (by omega)) rfl λf h=>a6 h rfl (aY ((hR.keep s.ext).el (0) (by omega) (by decide) (D:=az (l.getD 0 bE)) (fL l 0 (by omega))) h bH rfl (am _) rfl λf h=>a6 h rfl (ba 0 h s bH rfl rfl (am _) rfl λf h=>a6 h rfl (ar h (bq (.bool false) (fj (LU _ _) (by kernel_rfl) (by decide) (h.ev rfl) (h.ev rfl) (decide (l.getD 0 bE=m)) (tI _ _)) (Yu Value.bool h2)) rfl λf h=>aq ac 1 h rfl λf h=>bQ s λw1 s=>f7 h rfl (ah ?_))))
   cases g0:(decide (1<=l.length):Bool)
   ·refine aG ?_
    have hno:¬ (l.length=1/\l.getD 0 bE=m):=(by rintro ⟨h9,h8⟩;exact ZF h8 (Yr h2))
    refine ap ac 1 h rfl λf h=>ce h (hR.keep s.ext) aa8 rfl rfl λf h=>kw ac h rfl (Ys (by have:=Yr g0;omega)) λf h=>e9 ac 12 h rfl λf h=>Y8 (au rfl h s rfl (by show _=_;rw [Ma hno g0]))
   ·skip
    cases g1:(decide (l.length<=4):Bool)
    ·refine aG ?_
     have hno:¬ (l.length=1/\l.getD 0 bE=m):=(by rintro ⟨h9,h8⟩;exact ZF h8 (Yr h2))
     refine ap ac 1 h rfl λf h=>ce h (hR.keep s.ext) aa8 rfl rfl λf h=>gO ac h rfl (Yt (by have:=Yq g0;omega)) λf h=>ap ac 2 h rfl λf h=>bX h rfl (ce h (hR.keep s.ext) aa8 rfl rfl λf h=>bX h rfl (kw ac h rfl (Ys (by have:=Yr g1;omega)) λf h=>e9 ac 8 h rfl λf h=>Y8 (au rfl h s rfl (by show _=_;rw [MG hno g1]))))
    ·refine aG ?_
     have hno:¬ (l.length=1/\l.getD 0 bE=m):=(by rintro ⟨h9,h8⟩;exact ZF h8 (Yr h2))
     refine ap ac 1 h rfl λf h=>ce h (hR.keep s.ext) aa8 rfl rfl λf h=>gO ac h rfl (Yt (by have:=Yq g0;omega)) λf h=>ap ac 2 h rfl λf h=>bX h rfl (ce h (hR.keep s.ext) aa8 rfl rfl λf h=>bX h rfl (gO ac h rfl (Yt (by have:=Yq g1;omega)) λf h=>ap ac 4 h rfl λf h=>bX h rfl (ag (ae (aJ.of_own s 0 rfl) 0 (cg _)) h bs rfl rfl λf h=>bX h rfl (da h s yi (kQ l vh m.1 _ (hR.keep s.ext) hln) rfl rfl λf w1 h s=>e9 ac 2 h rfl λf h=>Y8 (au rfl h s rfl (by show _=_;rw [Nu hno g0 g1]))))))
  ·refine dF 10 h (by kernel_rfl) (aq ac 1 h rfl λf h=>ar h (eS (hR.keep s.ext) aa8 (h.ev rfl)) rfl λf h=>je ac h rfl (Yt (by have:=Yq h1;omega)) λf h=>aq ac 2 h rfl λf h=>a6 h rfl ?_)
   have h19:=Yq h1
   refine ar h (bz (hR.keep s.ext) (0) aa8 fp (h.ev rfl) (h.ev rfl) (by omega) (by omega)) rfl λf h=>a6 h rfl (aY ((hR.keep s.ext).el (0) (by omega) (by decide) (D:=az (l.getD 0 bE)) (fL l 0 (by omega))) h bH rfl (am _) rfl λf h=>a6 h rfl (ba 0 h s bH rfl rfl (am _) rfl λf h=>a6 h rfl (ar h (bq (.bool true) (fj (LU _ _) (by kernel_rfl) (by decide) (h.ev rfl) (h.ev rfl) (decide (l.getD 0 bE=m)) (tI _ _)) (Yu Value.bool h2)) rfl λf h=>aq ac 1 h rfl λf h=>bQ s λw1 s=>ie h rfl (bF ac 1 h rfl λf h=>rt (au rfl h s rfl (by show _=_;rw [Ug h1 h2]))))))
theorem FU (l:List Mb) (vh:Value) (no:Int) (w:World) (hR:bp w vh 33 l.length (aw l)) (hln:l.length<=1000):Calls Tryz.prog 112 [vh,.int .i64 no].toArray w (bW w (is (.bool (xu l no)))):=by
 refine bG Tryz.func112 rfl Tryz.ntmps112 rfl λf h s=>bF ac 1 h rfl λf h=>ah ?_
 cases g0:(decide (l.length<=16):Bool)
 ·refine rs ac 1 h rfl λf h=>ce h (hR.keep s.ext) aa8 rfl rfl λf h=>kw ac h rfl (Ys (by have:=Yr g0;omega)) λf h=>e9 ac 6 h rfl λf h=>Y8 (au rfl h s rfl (by show _=_;rw [SM g0]))
 ·refine rs ac 1 h rfl λf h=>ce h (hR.keep s.ext) aa8 rfl rfl λf h=>gO ac h rfl (Yt (by have:=Yq g0;omega)) λf h=>ap ac 3 h rfl λf h=>bX h rfl (da h s yi (kQ l vh no _ (hR.keep s.ext) hln) rfl rfl λf w1 h s=>e9 ac 2 h rfl λf h=>Y8 (au rfl h s rfl (by show _=_;rw [So g0])))
theorem lj (n:Nd) (vs vf:Value) (w:World) (hRs:bp w vs 33 n.sc.length (aw n.sc)) (hRf:bp w vf 33 n.fg.length (aw n.fg)) (hns:n.sc.length<=1000) (hnf:n.fg.length<=1000):Calls Tryz.prog 65 [.agg (bJ n.me n.pr vs vf)].toArray w (bW w (is (.bool (dU n)))):=by
 refine bG Tryz.func65 rfl Tryz.ntmps65 rfl λf h s=>qr (bh (bJ n.me n.pr vs vf) h s rfl rfl rfl λf w1 b1 h s=>e9 ac 1 h rfl λf h=>ah ?_)
 refine rs ac 1 h rfl λf h=>aB (aJ.subL (aJ.of_own s 0 rfl) 0 33 (D:=az n.me) (fY _ _ _ _)) h bH rfl (am _) rfl λf h=>eK h s mW (ij n.me _) rfl rfl (λh0 f w1 h s=>?_) (λh0 f w1 h s=>?_)
 ·refine e9 ac 24 h rfl λf h=>Y8 (au rfl h s rfl (by show _=_;rw [Kl h0]))
 ·skip
  refine ap ac 2 h rfl λf h=>bX h rfl (aB (aJ.subL (aJ.of_own s 0 rfl) 33 33 (D:=az n.pr) (xY _ _ _ _)) h bH rfl (am _) rfl λf h=>ap ac 2 h rfl λf h=>bX h rfl (ag (ae (aJ.of_own s 0 rfl) 0 (px _ _ _ _)) h bs rfl rfl λf h=>bX h rfl (eK h s P9 (IS n.pr n.me.1 _) rfl rfl (λh1 f w1 h s=>?_) (λh1 f w1 h s=>?_))))
  ·refine e9 ac 17 h rfl λf h=>Y8 (au rfl h s rfl (by show _=_;rw [Kq h1]))
  ·skip
   refine ap ac 3 h rfl λf h=>bX h rfl (ag (V:=vs) (ae (aJ.of_own s 0 rfl) 66 (mx _ _ _ _)) h eO rfl rfl λf h=>ap ac 1 h rfl λf h=>bX h rfl (aB (aJ.subL (aJ.of_own s 0 rfl) 0 33 (D:=az n.me) (fY _ _ _ _)) h bH rfl (am _) rfl λf h=>bX h rfl (eK h s PL (LP n.sc vs n.me _ (hRs.keep s.ext) hns) rfl rfl (λh2 f w1 h s=>?_) (λh2 f w1 h s=>?_))))
   ·refine e9 ac 10 h rfl λf h=>Y8 (au rfl h s rfl (by show _=_;rw [Jg h2]))
   ·refine ap ac 3 h rfl λf h=>bX h rfl (ag (V:=vf) (ae (aJ.of_own s 0 rfl) 67 (pw _ _ _ _)) h eO rfl rfl λf h=>ap ac 2 h rfl λf h=>bX h rfl (ag (ae (aJ.of_own s 0 rfl) 0 (px _ _ _ _)) h bs rfl rfl λf h=>bX h rfl (da h s NZ (FU n.fg vf n.me.1 _ (hRf.keep s.ext) hnf) rfl rfl λf w1 h s=>e9 ac 2 h rfl λf h=>Y8 (au rfl h s rfl (by show _=_;rw [IF h0 h1 h2])))))
end Go.Proofs.YtkhepdpfdhdlaaaGreatDoor
