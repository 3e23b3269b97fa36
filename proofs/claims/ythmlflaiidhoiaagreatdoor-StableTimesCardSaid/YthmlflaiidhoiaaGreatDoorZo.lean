/- Package chord and what it stands on, so far as it is wanted: what each function answers. -/
import Derived.Test.YthmlflaiidhoiaaGreatDoorZa
import Derived.Test.YthmlflaiidhoiaaGreatDoorZl
import Derived.Test.YthmlflaiidhoiaaGreatDoorZk
import Derived.Test.YthmlflaiidhoiaaGreatDoorSh
set_option linter.unusedVariables false
set_option linter.unusedSimpArgs false
set_option linter.unusedSectionVars false
namespace Go.Proofs.YthmlflaiidhoiaaGreatDoor
open Go.RowKit
theorem iU (L:List N3) (vo:Value) (w:World) (hO:qC w vo L) (hL:L.length<=40) (hb:RwB L):Calls Tryz.prog 32 [.agg #[vo]].toArray w (bW w (is (.bool (iv L)))):=by
 have hml:(av L).length<=1000:=by rw [au1];omega
 refine eh Tryz.func32 rfl Tryz.ntmps32 rfl [(0,.agg #[vo])] (by simp) λf h=>?_
 have s:=St.start w
 refine qr (ba (#[vo]) h s rfl rfl rfl λf w1 b1 h s=>aK (#[.bool false]) h s zD rfl rfl λf w1 b2 h s=>nt (qr (al 1 h s cH rfl rfl (rfl) rfl λf h=>bg h s Dq (iw L vo _ (hO.keep s.ext) hL) rfl rfl ?_)));intro f w1 v6 hT hE h sq;replace s:=s.sl_new hE hT
 refine e9 ac 1 h rfl λf h=>ag (ag ?_)
 refine rs ac 1 h rfl λf h=>fx h s L0 (qe (av L) v6 _ (a7.of_own (s.getSl 0 rfl)) hml) rfl rfl (λr0 f w1 h s=>?_) (λr0 f w1 h s=>?_)
 ·refine e9 ac 6 h rfl λf h=>dF h rfl (qr (aB 1 h s ez rfl rfl rfl (by simp) (rfl) λw1 s=>nt (rt ?_)))
  exact g6 1 rfl h s ez rfl rfl rfl (λw9=>(aq3 Value.bool (Su r0)).symm)
 ·skip
  refine ap ac 3 h rfl λf h=>cg h rfl (fx h s Xk (ya (av L) v6 _ (a7.of_own (s.getSl 0 rfl)) hml) rfl rfl (λr1 f w1 h s=>?_) (λr1 f w1 h s=>?_))
  ·refine e9 ac 2 h rfl λf h=>dF h rfl (qr (aB 1 h s ez rfl rfl rfl (by simp) (rfl) λw1 s=>nt (rt ?_)))
   exact g6 1 rfl h s ez rfl rfl rfl (λw9=>(aq3 Value.bool (TC r1)).symm)
  ·refine e9 ac 2 h rfl λf h=>ry h rfl (ag (qr (al 2 h s cH rfl rfl (rfl) rfl λf h=>df [.agg #[vo]] h rZ (ja vo _ _ _ s) rfl rfl ?_)));rintro f w1 r ⟨bn,rfl,s⟩ h
   refine nt (au4 (eg (λd A9=>A9=[.sl v6 60 33 (av L).length (aj (av L)),.blk b2 (.cells #[.bool false] 4),.blk b1 (.cells #[vo] 24)]) [.sl v6 60 33 (av L).length (aj (av L)),.blk b2 (.cells #[.bool false] 4),.blk b1 (.cells #[vo] 24)] [.blk bn (.cells #[vo] 24)] (L.length) (LV L) (λd=>[Value.pointer (some (bf vo (d*68)))]) h s rfl sA (List.Perm.refl _) (rfl) (λ_=>rfl) ?_ ?_ ?_ ?_))
   ·intro lp w2 GG g0 hg0 s2 hY;exact gI L.length (by omega) vo _ _ hO.1 lp bn (LV L) GG g0 w w2 s2 hg0 hY
   ·intro lp D9 d9 rc R9 A9 w2 hd9 hq9 hJ9 s
    obtain rfl:=hJ9
    have h:=Sl.round1 (p:=17) (V:=.pointer (some (bf vo (d9*68)))) h rfl
    have hdl9:=hd9
    refine re ac 1 h rfl λf h=>⟨_,s,λw3 s=>?_⟩
    refine au4 (ag ?_)
    cases k0:(co (L.getD d9 z3).1:Bool)
    ·refine cK 13 h (by kernel_rfl) ?_
     have hx9:=hb.each _ (bE hdl9)
     refine aD ac 2 h rfl λf h=>aU ((hO.1.keep s.ext).el (d9) (by omega) (by decide) (D:=aR (L.getD d9 z3).1.me (L.getD d9 z3).1.pr (L.getD d9 z3).2.1 (L.getD d9 z3).2.2) (eZ L d9 hdl9)) h bI rfl (ao _ _ _ _) rfl λf h=>bR h sM (λw9 hE9=>bK (.bool false) (fY (L.getD d9 z3).1 (L.getD d9 z3).2.1 (L.getD d9 z3).2.2 w9 ((hO.2 _ (bE hdl9)).1.keep (s.ext.trans hE9)) ((hO.2 _ (bE hdl9)).2.keep (s.ext.trans hE9)) (by omega) (by omega)) (aq3 Value.bool k0)) rfl rfl λf h=>aD ac 9 h rfl λf h=>bF s λw1 s=>iz h rfl (qr (aB 3 h s ez rfl rfl rfl (by simp) (rfl) λw1 s=>nt (au3 (aY (⟨(aa8 k0),_,rfl,s.pick _ ?_⟩)))))
     exact ap7 _ (List.Sublist.refl _)
    ·skip
     cases k1:((aO (L.getD d9 z3).1).any (nW L):Bool)
     ·refine cK 13 h (by kernel_rfl) ?_
      have hx9:=hb.each _ (bE hdl9)
      refine aD ac 2 h rfl λf h=>aU ((hO.1.keep s.ext).el (d9) (by omega) (by decide) (D:=aR (L.getD d9 z3).1.me (L.getD d9 z3).1.pr (L.getD d9 z3).2.1 (L.getD d9 z3).2.2) (eZ L d9 hdl9)) h bI rfl (ao _ _ _ _) rfl λf h=>bR h sM (λw9 hE9=>bK (.bool true) (fY (L.getD d9 z3).1 (L.getD d9 z3).2.1 (L.getD d9 z3).2.2 w9 ((hO.2 _ (bE hdl9)).1.keep (s.ext.trans hE9)) ((hO.2 _ (bE hdl9)).2.keep (s.ext.trans hE9)) (by omega) (by omega)) (aq3 Value.bool k0)) rfl rfl λf h=>aD ac 4 h rfl λf h=>cj h rfl (aU ((hO.1.keep s.ext).el (d9) (by omega) (by decide) (D:=aR (L.getD d9 z3).1.me (L.getD d9 z3).1.pr (L.getD d9 z3).2.1 (L.getD d9 z3).2.2) (eZ L d9 hdl9)) h bI rfl (ao _ _ _ _) rfl λf h=>cj h rfl (aH 4 h s cH rfl rfl (rfl) rfl λf h=>cj h rfl (bR h Ro (λw9 hE9=>bK (.bool true) (wg (L.getD d9 z3).1 (L.getD d9 z3).2.1 (L.getD d9 z3).2.2 L vo w9 ((hO.2 _ (bE hdl9)).1.keep (s.ext.trans hE9)) ((hO.2 _ (bE hdl9)).2.keep (s.ext.trans hE9)) (by omega) (by omega) (hO.keep (s.ext.trans hE9)) hL) (by rw [k1];rfl)) rfl rfl λf h=>aD ac 2 h rfl λf h=>bF s λw1 s=>tS h rfl (wpIn_skip (aW (⟨((Ws k0).trans k1),_,rfl,s.pick _ ?_⟩))))))
      exact ap7 _ (List.Sublist.refl _)
     ·refine cK 13 h (by kernel_rfl) ?_
      have hx9:=hb.each _ (bE hdl9)
      refine aD ac 2 h rfl λf h=>aU ((hO.1.keep s.ext).el (d9) (by omega) (by decide) (D:=aR (L.getD d9 z3).1.me (L.getD d9 z3).1.pr (L.getD d9 z3).2.1 (L.getD d9 z3).2.2) (eZ L d9 hdl9)) h bI rfl (ao _ _ _ _) rfl λf h=>bR h sM (λw9 hE9=>bK (.bool true) (fY (L.getD d9 z3).1 (L.getD d9 z3).2.1 (L.getD d9 z3).2.2 w9 ((hO.2 _ (bE hdl9)).1.keep (s.ext.trans hE9)) ((hO.2 _ (bE hdl9)).2.keep (s.ext.trans hE9)) (by omega) (by omega)) (aq3 Value.bool k0)) rfl rfl λf h=>aD ac 4 h rfl λf h=>cj h rfl (aU ((hO.1.keep s.ext).el (d9) (by omega) (by decide) (D:=aR (L.getD d9 z3).1.me (L.getD d9 z3).1.pr (L.getD d9 z3).2.1 (L.getD d9 z3).2.2) (eZ L d9 hdl9)) h bI rfl (ao _ _ _ _) rfl λf h=>cj h rfl (aH 4 h s cH rfl rfl (rfl) rfl λf h=>cj h rfl (bR h Ro (λw9 hE9=>bK (.bool false) (wg (L.getD d9 z3).1 (L.getD d9 z3).2.1 (L.getD d9 z3).2.2 L vo w9 ((hO.2 _ (bE hdl9)).1.keep (s.ext.trans hE9)) ((hO.2 _ (bE hdl9)).2.keep (s.ext.trans hE9)) (by omega) (by omega) (hO.keep (s.ext.trans hE9)) hL) (by rw [k1];rfl)) rfl rfl λf h=>aD ac 2 h rfl λf h=>bF s λw1 s=>iz h rfl (qr (aB 3 h s ez rfl rfl rfl (by simp) (rfl) λw1 s=>nt (au3 (aY (⟨((Ws k0).trans k1),_,rfl,s.pick _ ?_⟩))))))))
      exact ap7 _ (List.Sublist.refl _)
   ·intro D9 A9 w2 hJ9 hq9 s
    obtain rfl:=hJ9
    replace h:Sl _ {f with defers:={target:=.collected D9,args:=#[]}::f.defers} _ [{target:=.collected D9,args:=#[]}]:=⟨h.size,by rw [h.defers],h.holds⟩
    refine aW (aG (qr (aB 3 h s ez rfl rfl rfl (by simp) (rfl) λw1 s=>nt (au3 ?_))))
    exact fT 3 0 rfl h s ez rfl rfl rfl rfl rfl (λw9=>(aq3 Value.bool (P6 r0 r1 hq9)).symm)
   ·intro D9 d9 A9 w2 hd9 hqd9 hq9 hJ9 s
    obtain rfl:=hJ9
    replace h:Sl _ {f with defers:={target:=.collected D9,args:=#[]}::f.defers} _ [{target:=.collected D9,args:=#[]}]:=⟨h.size,by rw [h.defers],h.holds⟩
    refine aY (aQ ?_)
    exact fT 3 0 rfl h s ez rfl rfl rfl rfl rfl (λw9=>(aq3 Value.bool (Pn r0 r1 hd9 hqd9)).symm)
theorem JL (l:List Mb) (vh:Value) (x9:Id) (bx:Nat) (w:World) (hR:a7 w vh 33 l.length (aj l)) (hln:l.length<=1000) (hb:jA w bx (aJ x9)) (h0:0<l.length):Calls Tryz.prog 137 [vh,.func (.func 87) #[] #[.pointer (some ⟨bx,0,none⟩)]].toArray w (bW w (is (.agg (ar (ku (ld x9) l (l.length - 1)))))):=by
 refine bG Tryz.func137 rfl Tryz.ntmps137 rfl λf h s=>qr (aK (ar aS) h s cQ rfl rfl λf w1 b4 h s=>nt (ag (cw ac 1 h rfl λf h=>cb h (hR.keep s.ext) aA6 rfl rfl λf h=>e9 ac 1 h rfl λf h=>cT h rfl (λhc=>?_) (λhc=>?_))))
 ·replace hc:=ap9 hc
  exfalso;omega
 ·refine kt (cw ac 1 h rfl λf h=>ak h (bj (hR.keep s.ext) (0) aA6 dd (h.ev rfl) (h.ev rfl) (by omega) (by omega)) rfl λf h=>ax ((hR.keep s.ext).el (0) (by omega) (by decide) (D:=ar (l.getD 0 aS)) (dI l 0 h0)) h aI rfl (ae _) rfl λf h=>aK (ar aS) h s cQ rfl rfl λf w1 b5 h s=>am 0 h s aI rfl rfl rfl (ae _) (ae _) (aP _) λw1 s=>nt (ag (bD ac 1 h rfl λf h=>au4 (au6 (λnn aa ww=>∃ k:Nat,Sl 33 aa [(0,vh),(4,.pointer (some ⟨b4,0,none⟩)),(5,.pointer (some ⟨b5,0,none⟩)),(1,.func (.func 87) #[] #[.pointer (some ⟨bx,0,none⟩)]),(6,.int .i64 ((k:Int)+1))]/\St w [.blk b5 (.cells (ar (ku (ld x9) l k)) 60),.blk b4 (.cells (ar aS) 60)] ww/\nn=l.length - k/\k+1<=l.length) (l.length - (0)) ⟨0,h.only ⟨rfl,rfl,rfl,rfl,rfl,trivial⟩,s.as ⟨rfl,rfl,trivial⟩,rfl,by omega⟩ ?_))))
  rintro _ f w1 ⟨k,h,s,hnn,hp0⟩
  refine ag (cw ac 2 h rfl λf h=>cb h (hR.keep s.ext) aA6 rfl rfl λf h=>e9 ac 1 h rfl λf h=>cZ h rfl (λhc=>?_) (λhc=>?_))
  ·refine kt (ag (au4 (ag (cK 8 h (by kernel_rfl) (aD ac 2 h rfl λf h=>?_)))))
   have hkl:k+1<l.length:=by omega
   refine aD ac 1 h rfl λf h=>aF h (bj (hR.keep s.ext) (k+1) aA6 dd (h.ev rfl) (h.ev rfl) (by omega) (by omega)) rfl λf h=>aU ((hR.keep s.ext).el (k+1) (by omega) (by decide) (D:=ar (l.getD (k+1) aS)) (dI l (k+1) hkl)) h aI rfl (ae _) rfl λf h=>aH 0 h s aI rfl rfl (ae _) rfl λf h=>je [.agg (ar (l.getD (k+1) aS)),.agg (ar (ku (ld x9) l k))] (caps:=[.pointer (some ⟨bx,0,none⟩)]) h QK rfl (λw9 h9=>nK _ _ x9 bx w9 (hb.keep (s.ext.trans h9))) rfl rfl ?_;intro f h
   refine aF h (bk (.bool (decide (fd x9 (ku (ld x9) l k).2<fd x9 (l.getD (k+1) aS).2))) (LF (h.ev rfl) (h.ev rfl)) (aq3 Value.bool (MU _ _ _))) rfl λf h=>bF s λw1 s=>nt (cZ h rfl (λhc=>?_) (λhc=>?_))
   ·refine rs ac 2 h rfl λf h=>ak h (bj (hR.keep s.ext) (k+1) aA6 dd (h.ev rfl) (h.ev rfl) (by omega) (by omega)) rfl λf h=>ax ((hR.keep s.ext).el (k+1) (by omega) (by decide) (D:=ar (l.getD (k+1) aS)) (dI l (k+1) hkl)) h aI rfl (ae _) rfl λf h=>am 0 h s aI rfl rfl rfl (ae _) (ae _) (aP _) λw1 s=>aE (aW (aG (rs ac 1 h rfl λf h=>ak h (bB (h.ev rfl) (h.ev rfl) (by omega)) rfl λf h=>e9 ac 1 h rfl λf h=>?_)))
    exact ⟨_,by omega,⟨k+1,h.only ⟨rfl,rfl,rfl,rfl,aw rfl (by omega),trivial⟩,St.as s ⟨iR (aq3 ar (M9 (f:=ld x9) hc).symm),rfl,trivial⟩,rfl,by omega⟩⟩
   ·refine wpIn_skip (aW (aG (rs ac 1 h rfl λf h=>ak h (bB (h.ev rfl) (h.ev rfl) (by omega)) rfl λf h=>e9 ac 1 h rfl λf h=>?_)))
    exact ⟨_,by omega,⟨k+1,h.only ⟨rfl,rfl,rfl,rfl,aw rfl (by omega),trivial⟩,St.as s ⟨iR (aq3 ar (Vw (f:=ld x9) hc).symm),rfl,trivial⟩,rfl,by omega⟩⟩
  ·refine au5 (aT (aT (bS (aG (qr (al 0 h s aI rfl rfl (ae _) rfl λf h=>am 1 h s aI rfl rfl rfl (ae _) (ae _) (aP _) λw1 s=>nt (au3 (g7 1 rfl h s aI rfl rfl (ae _) ((by obtain rfl:k=l.length - 1:=(by omega);exact rfl))))))))))
theorem Ln (l:List Mb) (hg:Rg l) (x9:Id) (v:Value) (bx:Nat) (B9:List Own) (w0 w:World) (s:St w0 (.sl v 60 33 l.length (aj l)::B9) w) (hb:jA w0 bx (aJ x9)):
 Calls Tryz.prog 246 [v,.func (.func 87) #[] #[.pointer (some ⟨bx,0,none⟩)]].toArray w (λe w'=>∃ r,e=.returned r/\St w0 (.sl v 60 33 l.length (aj (fW x9 l))::B9) w'):=by
 by_cases h0:l.length=0
 ·have hl:l=[]:=List.eq_nil_of_length_eq_zero h0
  subst hl
  obtain ⟨a,c,rfl⟩:=fR (s.getSl 0 rfl)
  refine(Go.Proofs.AnyF.slices_SortFunc_none (P:=Tryz.prog) (ρ:=Tryz.layG_ren) Tryz.layG a c (.func (.func 87) #[] #[.pointer (some ⟨bx,0,none⟩)]) w).mono ?_
  rintro e w' ⟨rfl,rfl⟩
  refine ⟨_,rfl,?_⟩
  rw [P4]
  exact s
 ·obtain ⟨g,cap,rfl,hlt,hgo,hH,hst⟩:=Ps s rfl (by omega)
  have hT:∀ m os d,jA (Go.Proofs.sortWorldK lV 33 w g 0 m d os) bx (aJ x9):=λm os d=>by
   obtain ⟨t,fr,h1⟩:=hb
   have h2:=(ax1.1 h1).1
   have h3:=s.ext.le
   refine ⟨t,fr,?_⟩
   rw [qu w g m d os (by omega) (by omega),s.ext.block bx h2]
   exact h1
  have hcon:=Go.Proofs.AnyQ.slices_SortFunc (P:=Tryz.prog) (ρ:=Tryz.layG_ren) Tryz.layG 33 Tryz.isAgg60 Tryz.sizeOf60 lV cf lf (λx y:Mb=>eW (x.2 - x9) (y.2 - x9)) (PR x9) 87 #[.pointer (some ⟨bx,0,none⟩)] g 0 cap l.toArray w (enters_of Tryz.func87 (by kernel_rfl) rfl) (λm os dk _ x y=>by
   have h9:=nK x y x9 bx _ (hT m os dk)
   refine h9.mono ?_
   rintro e w' ⟨v,rfl,hv,hE⟩
   obtain rfl:=hv
   exact ⟨rfl,MY hE⟩) hH hlt (by have:=hg.len;rw [List.size_toArray];omega)
  refine hcon.mono ?_
  rintro e w' ⟨rfl,d',n,os,hp,hs,rfl⟩
  have s2:=hst n os d' hp.1
  rw [CS hg x9 hp hs] at s2
  exact ⟨_,rfl,s2⟩
theorem AX (l:List Mb) (vh:Value) (bv bx:Nat) (x9:Id) (w:World) (hR:a7 w vh 33 l.length (aj l)) (hln:l.length<=1000) (hg:Rg l) (hv:jA w bv #[vh]) (hb:jA w bx (aJ x9)):Calls Tryz.prog 208 [.func (.func 243) #[] #[.pointer (some ⟨bv,0,none⟩)],.func (.func 87) #[] #[.pointer (some ⟨bx,0,none⟩)]].toArray w (bW w (λv w'=>cd w' w.heap.size 60 33 v l.length (aj (fW x9 l)))):=by
 refine bG Tryz.func208 rfl Tryz.ntmps208 rfl λf h s=>bD ac 1 h rfl λf h=>cw ac 1 h rfl λf h=>bg h s UH (AH l vh bv _ (hR.keep s.ext) hln (hv.keep s.ext)) rfl rfl ?_;intro f w1 v7 hT hE h sq;replace s:=s.sl_new hE hT
 refine e9 ac 1 h rfl λf h=>cw ac 2 h rfl λf h=>df [v7,.func (.func 87) #[] #[.pointer (some ⟨bx,0,none⟩)]] h SM (Ln l hg x9 v7 bx [] _ _ s hb) rfl rfl ?_;rintro f w1 v10 s h
 refine nt (bD ac 2 h rfl λf h=>au3 (aA rfl h s rfl ((s.getSl 0 rfl))))
set_option maxHeartbeats 1000000 in
theorem xn (K:List N3) (ks:List Nat) (nos:List Int) (l:List Mb) (vq:Value) (kx bm:Nat) (B9:List Own) (w0 w:World) (s:St w0 (.sl vq 63 68 K.length (au K)::.grp ks (eI K)::.blk bm (jE nos)::B9) w) (hk:kx<K.length) (hkl:K.length<=40) (hrn:RN (K.getD kx z3).1) (hbx:(K.getD kx z3).1.sc.length<=300/\(K.getD kx z3).1.fg.length<=300) (hal:∀ no,decide (no∈nos)=bu l no):Calls Tryz.prog 220 [.pointer (some (bf vq (kx*68))),.map (some bm)].toArray w (λe w9=>∃ r,e=.returned r/\∃ du dv kn,St w0 (.sl vq 63 68 (K.set kx (((cD l (K.getD kx z3).1),du,dv):N3)).length (au (K.set kx (((cD l (K.getD kx z3).1),du,dv):N3)))::.grp kn (eI (K.set kx (((cD l (K.getD kx z3).1),du,dv):N3)))::.blk bm (jE nos)::B9) w9):=by
 have hkx:(aO (K.getD kx z3).1).length<=1000:=by simp only [aO,aq7,at5];omega
 refine GZ Tryz.func220 rfl Tryz.ntmps220 rfl [(0,.pointer (some (bf vq (kx*68)))),(1,.map (some bm))] (by simp) λf h=>?_
 refine qr (ba (#[.map (some bm)]) h s rfl rfl rfl λf w1 b3 h s=>nt (qr (aK (#[.slice none 0 0]) h s Pm rfl rfl λf w1 b4 h s=>nt (ag (cw ac 2 h rfl λf h=>ax ((a7.of_own (s.getSl 2 rfl)).el (kx) (by omega) (by decide) (D:=aR (K.getD kx z3).1.me (K.getD kx z3).1.pr (K.getD kx z3).2.1 (K.getD kx z3).2.2) (eZ K kx hk)) h bI rfl (ao _ _ _ _) rfl λf h=>?_)))))
 replace s:=s.nilSl 3 1
 refine bg h s IK (ug (K.getD kx z3).1 (K.getD kx z3).2.1 (K.getD kx z3).2.2 _ ((s.getG 4 rfl _ (bE hk))).1 ((s.getG 4 rfl _ (bE hk))).2 (by omega) (by omega)) rfl rfl ?_;rintro f w1 r9 ⟨bv,vk,rfl,hS⟩ hE h sq;replace s:=s.add hS;clear hS
 refine nt (au4 (eg (λd A9=>∃ vb:Value,A9=(.sl vb 3 1 (kM l (K.getD kx z3).1 d).length ((kM l (K.getD kx z3).1 d).map (Value.int .i64))::.blk b4 (.cells #[vb] 106)::.blk b3 (.cells #[.map (some bm)] 233)::.sl vq 63 68 K.length (au K)::.grp ks (eI K)::.blk bm (jE nos)::B9)) (.sl (Value.slice none 0 0) 3 1 (kM l (K.getD kx z3).1 0).length ((kM l (K.getD kx z3).1 0).map (Value.int .i64))::.blk b4 (.cells #[(Value.slice none 0 0)] 106)::.blk b3 (.cells #[.map (some bm)] 233)::.sl vq 63 68 K.length (au K)::.grp ks (eI K)::.blk bm (jE nos)::B9) [.blk bv (.cells #[vk] 61),.sl vk 60 33 (aO (K.getD kx z3).1).length (aj (aO (K.getD kx z3).1))] ((aO (K.getD kx z3).1).length) (λ_=>false) (λd=>[Value.agg (ar ((aO (K.getD kx z3).1).getD d aS))]) h s rfl Bk (List.Perm.refl _) (⟨_,rfl⟩) (λ_=>rfl) ?_ ?_ ?_ ?_))
 ·intro lp w2 GG g0 hg0 s2 hY;exact sV (aO (K.getD kx z3).1) hkx vk lp bv (λ_=>false) GG g0 w0 w2 s2 hg0 hY
 ·intro lp D9 d9 rc R9 A9 w2 hd9 hq9 hJ9 s
  obtain ⟨vb,rfl⟩:=hJ9
  have h:=Sl.round1 (p:=10) (V:=.agg (ar ((aO (K.getD kx z3).1).getD d9 aS))) h rfl
  have hdl9:=hd9
  refine aC (aK (ar aS) h s cQ rfl rfl λf w1 b5 h s=>am 0 h s aI rfl rfl rfl (ae _) (ae _) (aP _) λw1 s=>nt (⟨_,s.perm (ax2 (l₁:=[_])),λw3 s=>?_⟩))
  refine au4 (ag ?_)
  refine aC (bT 5 h s yb rfl rfl (rfl) rfl λf h=>ap ac 1 h rfl λf h=>ai (ah (aX.of_own s 1 rfl) 0 (bH _)) h bQ rfl rfl λf h=>SW (bu l ((aO (K.getD kx z3).1).getD d9 aS).1) h s Lm (DQ nos bm ((aO (K.getD kx z3).1).getD d9 aS).1 _ (s.get 8 rfl)) ((hal _)) rfl rfl (λl1 f w1 h s=>?_) (λl1 f w1 h s=>?_))
  ·refine e9 ac 1 h rfl λf h=>dF h rfl (aC (bT 4 h s nc rfl rfl (rfl) rfl λf h=>ap ac 1 h rfl λf h=>ai (ah (aX.of_own s 1 rfl) 0 (bH _)) h bQ rfl rfl λf h=>ef (vs:=[.int .i64 ((aO (K.getD kx z3).1).getD d9 aS).1]) [.tmp 18] h s aB1 Vu rfl rfl (by simp [Value.cells]) rfl rfl rfl λf w1 v19 h s=>jS 4 0 h s aB1 Vu rfl rfl rfl rfl (by decide) (by simp [Value.oneCell',Value.cells]) (by have h9:=xJ l (K.getD kx z3).1 d9;unfold maxLen;omega) (by have h9:=xJ l (K.getD kx z3).1 d9;omega) rfl λf w1 v20 h s=>?_))
   replace s:=s.pick _ (as2 _ _)
   replace s:=s.resl (m:=(kM l (K.getD kx z3).1 (d9+1)).length) (ys:=(kM l (K.getD kx z3).1 (d9+1)).map (Value.int .i64)) 3 rfl (by rw [L3 hdl9 l1,aq7];rfl) (by rw [L3 hdl9 l1,ax5];simp [Value.cells])
   refine aB 4 h s nc rfl rfl rfl (by simp) (aZ (s.getSl 3 rfl)) λw1 s=>aE (aW (⟨rfl,_,⟨v20,rfl⟩,s.pick _ ?_⟩))
   exact ap7 _ (ap8 _ (List.Sublist.refl _))
  ·refine e9 ac 1 h rfl λf h=>mx h rfl (wpIn_skip (aW ?_))
   replace s:=s.resl (m:=(kM l (K.getD kx z3).1 (d9+1)).length) (ys:=(kM l (K.getD kx z3).1 (d9+1)).map (Value.int .i64)) 3 rfl (by rw [KC hdl9 l1]) (by rw [KC hdl9 l1])
   refine ⟨rfl,_,⟨vb,rfl⟩,s.pick _ ?_⟩
   exact ap7 _ (ap8 _ (List.Sublist.refl _))
 ·intro D9 A9 w2 hJ9 hq9 s
  obtain ⟨vb,rfl⟩:=hJ9
  replace h:Sl _ {f with defers:={target:=.collected D9,args:=#[]}::f.defers} _ [{target:=.collected D9,args:=#[]}]:=⟨h.size,by rw [h.defers],h.holds⟩
  rw [zl] at s
  have hdw:(mu l (K.getD kx z3).1).length<=1000:=by have h9:=xJ l (K.getD kx z3).1 (aO (K.getD kx z3).1).length;rw [zl] at h9;omega
  refine aW (aG ?_)
  replace s:=s.bring 6 rfl
  replace s:St w0 (.sl vq 63 68 K.length (au K)::.blk D9 (.deferred (some []))::.blk bv (.cells (#[vk]) 61)::.sl vk 60 33 (aO (K.getD kx z3).1).length (aj (aO (K.getD kx z3).1))::.sl vb 3 1 (mu l (K.getD kx z3).1).length ((mu l (K.getD kx z3).1).map (Value.int .i64))::.blk b4 (.cells (#[vb]) 106)::.blk b3 (.cells (#[.map (some bm)]) 233)::(.grp ks (eI K))::.blk bm (jE nos)::B9) _:=s
  have hrr:=kl.2 hrn
  have htd:V3 (K.getD kx z3).1 (mu l (K.getD kx z3).1)=(cD l (K.getD kx z3).1):=(vW _ hrr).1.trans (pP hrn).symm
  have hde:V4 (K.getD kx z3).1=0:=(vW [] hrr).2
  refine nI 1 [[],[],[1],[1,2],[],[1,2,3,4],[1,2,3,4,5],[1,2,3,4,5,6],[1,2,3,4,5,6],[0,1,2,3,4,5,6,7],[0,1,2,3,4,5,6,7,9]] [[],[],[],[11],[],[],[],[],[],[],[3]] [[_]] [.v _,.v _,.v _,.w (λv=>[.sl vq 63 68 K.length (au K)]) (.agg (aR (K.getD kx z3).1.me (K.getD kx z3).1.pr (K.getD kx z3).2.1 (K.getD kx z3).2.2)),.v vb,.r (λv=>[.sl (bh 66 (v 5)) 60 33 (cD l (K.getD kx z3).1).sc.length (aj (cD l (K.getD kx z3).1).sc),.sl (bh 67 (v 5)) 60 33 (cD l (K.getD kx z3).1).fg.length (aj (cD l (K.getD kx z3).1).fg)]) (λv=>v 5=.tuple #[.agg (aR (cD l (K.getD kx z3).1).me (cD l (K.getD kx z3).1).pr (bh 66 (v 5)) (bh 67 (v 5))),.int .i64 0]),.f (λv=>v 6=.tuple #[.agg (aR (cD l (K.getD kx z3).1).me (cD l (K.getD kx z3).1).pr (bh 66 (v 5)) (bh 67 (v 5))),.int .i64 0]),.f (λv=>v 7=.agg (aR (cD l (K.getD kx z3).1).me (cD l (K.getD kx z3).1).pr (bh 66 (v 5)) (bh 67 (v 5)))),.v (.int .i64 0),.v _,.m (λv=>[.sl vq 63 68 (K.set kx (((cD l (K.getD kx z3).1),(bh 66 (v 5)),(bh 67 (v 5))):N3)).length (au (K.set kx (((cD l (K.getD kx z3).1),(bh 66 (v 5)),(bh 67 (v 5))):N3)))])] _ h s rfl (by kernel_rfl) (by kernel_rfl) (by kernel_rfl) (iG ac h rfl rfl rfl (iG ac h rfl rfl rfl (iG ac h rfl rfl rfl (cq ?_ (cq ?_ (cq ?_ (cq ?_ (cq ?_ (cq ?_ (iG ac h rfl rfl rfl (cq ?_ (trivial)))))))))))) [0,1,2,4,5,6,7,8,9,10] (by kernel_rfl) ?_
  ·intro f9 w2 vl6 E9 hs9 hd9 hl hF s
   have h:=cJ [(24,_)] h hs9 hd9 ⟨bp hl 24 2 (by kernel_rfl) (hF 2 (by decide)),trivial⟩
   refine ax ((a7.of_own (s.getSl 0 rfl)).el (kx) (by omega) (by decide) (D:=aR (K.getD kx z3).1.me (K.getD kx z3).1.pr (K.getD kx z3).2.1 (K.getD kx z3).2.2) (eZ K kx hk)) h bI rfl (ao _ _ _ _) rfl λf h=>aE ⟨_,bq 25 h rfl rfl,rfl,s⟩
  ·intro f9 w2 vl6 E9 hs9 hd9 hl hF s
   have h:=cJ [(4,_)] h hs9 hd9 ⟨gp hl 4 (by kernel_rfl) (h.holds 4 _ rfl),trivial⟩
   refine bT 4 h s nc rfl rfl (rfl) rfl λf h=>aE ⟨_,bq 26 h rfl rfl,rfl,s⟩
  ·intro f9 w2 vl6 E9 hs9 hd9 hl hF s
   have h:=cJ [(25,_),(26,_)] h hs9 hd9 ⟨bp hl 25 3 (by kernel_rfl) (hF 3 (by decide)),bp hl 26 4 (by kernel_rfl) (hF 4 (by decide)),trivial⟩
   refine bg h s TZ (FP (K.getD kx z3).1 (K.getD kx z3).2.1 (K.getD kx z3).2.2 (mu l (K.getD kx z3).1) vb _ (s.getG 6 rfl _ (bE hk)).1 (s.getG 6 rfl _ (bE hk)).2 (by omega) (by omega) (a7.of_own (s.getSl 3 rfl)) (by omega)) rfl rfl ?_;rintro f w1 v27 ⟨cu,cv,hv9,hS⟩ hE h sq;rw [htd,hde] at hv9;rw [htd] at hS;replace s:=s.add hS
   have h66:cu=bh 66 v27:=by rw [hv9];exact(ud (a7.of_own (hS.getSl 0 rfl))).symm
   have h67:cv=bh 67 v27:=by rw [hv9];exact(sC (a7.of_own (hS.getSl 1 rfl))).symm
   clear hS
   subst h66;subst h67
   exact aE ⟨_,bq 27 h rfl rfl,hv9,s⟩
  ·intro f9 w2 vl6 E9 hs9 hd9 hl hF s
   have h:=cJ [(27,.tuple #[.agg (aR (cD l (K.getD kx z3).1).me (cD l (K.getD kx z3).1).pr (bh 66 (vl6 5)) (bh 67 (vl6 5))),.int .i64 0])] h hs9 hd9 ⟨bp hl 27 5 (by kernel_rfl) (hF 5 (by decide)),trivial⟩
   refine ap ac 1 h rfl λf h=>aE ⟨_,bq 21 h rfl rfl,rfl,s⟩
  ·intro f9 w2 vl6 E9 hs9 hd9 hl hF s
   have h:=cJ [(21,.tuple #[.agg (aR (cD l (K.getD kx z3).1).me (cD l (K.getD kx z3).1).pr (bh 66 (vl6 5)) (bh 67 (vl6 5))),.int .i64 0])] h hs9 hd9 ⟨bp hl 21 6 (by kernel_rfl) (hF 6 (by decide)),trivial⟩
   refine ap ac 1 h rfl λf h=>aE ⟨_,bq 28 h rfl rfl,rfl,s⟩
  ·intro f9 w2 vl6 E9 hs9 hd9 hl hF s
   have h:=cJ [(21,.tuple #[.agg (aR (cD l (K.getD kx z3).1).me (cD l (K.getD kx z3).1).pr (bh 66 (vl6 5)) (bh 67 (vl6 5))),.int .i64 0])] h hs9 hd9 ⟨bp hl 21 6 (by kernel_rfl) (hF 6 (by decide)),trivial⟩
   refine ap ac 1 h rfl λf h=>aE ⟨_,bq 29 h rfl rfl,rfl,s⟩
  ·intro f9 w2 vl6 E9 hs9 hd9 hl hF s
   have h:=cJ [(30,_),(28,.agg (aR (cD l (K.getD kx z3).1).me (cD l (K.getD kx z3).1).pr (bh 66 (vl6 5)) (bh 67 (vl6 5))))] h hs9 hd9 ⟨bp hl 30 9 (by kernel_rfl) (hF 9 (by decide)),bp hl 28 7 (by kernel_rfl) (hF 7 (by decide)),trivial⟩
   refine fX 0 (kx) h s bI rfl rfl rfl (ao _ _ _ _) (by omega) (bL (gT _ _) (gT _ _)) (show _=au (K.set kx (((cD l (K.getD kx z3).1),(bh 66 (vl6 5)),(bh 67 (vl6 5))):N3)) from sJ hk (((cD l (K.getD kx z3).1),(bh 66 (vl6 5)),(bh 67 (vl6 5))):N3)) λw1 s=>?_
   replace s:=s.resl (m:=(K.set kx (((cD l (K.getD kx z3).1),(bh 66 (vl6 5)),(bh 67 (vl6 5))):N3)).length) (ys:=au (K.set kx (((cD l (K.getD kx z3).1),(bh 66 (vl6 5)),(bh 67 (vl6 5))):N3))) 0 rfl (by rw [List.length_set]) rfl
   exact aE ⟨undef,gO rfl,trivial,s⟩
  intro f w1 vl6 hs9 hd9 hv hr hF s
  replace h:=mT (ops:=_) [(22,_),(23,_),(24,_),(25,_),(26,_),(27,.tuple #[.agg (aR (cD l (K.getD kx z3).1).me (cD l (K.getD kx z3).1).pr (bh 66 (vl6 5)) (bh 67 (vl6 5))),.int .i64 0]),(21,.tuple #[.agg (aR (cD l (K.getD kx z3).1).me (cD l (K.getD kx z3).1).pr (bh 66 (vl6 5)) (bh 67 (vl6 5))),.int .i64 0]),(28,.agg (aR (cD l (K.getD kx z3).1).me (cD l (K.getD kx z3).1).pr (bh 66 (vl6 5)) (bh 67 (vl6 5)))),(29,_),(30,_)] h hs9 hd9 hr ⟨(hv 0 22 rfl).trans (hF 0 rfl),(hv 1 23 rfl).trans (hF 1 rfl),(hv 2 24 rfl).trans (hF 2 rfl),(hv 3 25 rfl).trans (hF 3 rfl),(hv 4 26 rfl).trans (hF 4 rfl),(hv 5 27 rfl).trans (hF 5 rfl),(hv 6 21 rfl).trans (hF 6 rfl),(hv 7 28 rfl).trans (hF 7 rfl),(hv 8 29 rfl).trans (hF 8 rfl),(hv 9 30 rfl).trans (hF 9 rfl),trivial⟩ (by kernel_rfl)
  replace s:St w0 (.sl (bh 66 (vl6 5)) 60 33 (cD l (K.getD kx z3).1).sc.length (aj (cD l (K.getD kx z3).1).sc)::.sl (bh 67 (vl6 5)) 60 33 (cD l (K.getD kx z3).1).fg.length (aj (cD l (K.getD kx z3).1).fg)::.sl vq 63 68 (K.set kx (((cD l (K.getD kx z3).1),(bh 66 (vl6 5)),(bh 67 (vl6 5))):N3)).length (au (K.set kx (((cD l (K.getD kx z3).1),(bh 66 (vl6 5)),(bh 67 (vl6 5))):N3)))::.blk D9 (.deferred (some []))::.blk bv (.cells (#[vk]) 61)::.sl vk 60 33 (aO (K.getD kx z3).1).length (aj (aO (K.getD kx z3).1))::.sl vb 3 1 (mu l (K.getD kx z3).1).length ((mu l (K.getD kx z3).1).map (Value.int .i64))::.blk b4 (.cells (#[vb]) 106)::.blk b3 (.cells (#[.map (some bm)]) 233)::(.grp ks (eI K))::.blk bm (jE nos)::B9) _:=s
  replace s:=s.bring 9 rfl
  replace s:=s.bring 2 rfl
  replace s:=s.bring 2 rfl
  replace s:St w0 (.sl (bh 66 (vl6 5)) 60 33 (cD l (K.getD kx z3).1).sc.length (aj (cD l (K.getD kx z3).1).sc)::.sl (bh 67 (vl6 5)) 60 33 (cD l (K.getD kx z3).1).fg.length (aj (cD l (K.getD kx z3).1).fg)::(.grp ks (eI K))::.sl vq 63 68 (K.set kx (((cD l (K.getD kx z3).1),(bh 66 (vl6 5)),(bh 67 (vl6 5))):N3)).length (au (K.set kx (((cD l (K.getD kx z3).1),(bh 66 (vl6 5)),(bh 67 (vl6 5))):N3)))::.blk D9 (.deferred (some []))::.blk bv (.cells (#[vk]) 61)::.sl vk 60 33 (aO (K.getD kx z3).1).length (aj (aO (K.getD kx z3).1))::.sl vb 3 1 (mu l (K.getD kx z3).1).length ((mu l (K.getD kx z3).1).map (Value.int .i64))::.blk b4 (.cells (#[vb]) 106)::.blk b3 (.cells (#[.map (some bm)]) 233)::.blk bm (jE nos)::B9) _:=s
  obtain ⟨kn,s⟩:=s.grpR (S':=eI (K.set kx (((cD l (K.getD kx z3).1),(bh 66 (vl6 5)),(bh 67 (vl6 5))):N3))) (λw9 h1 h2 h3=>ot h3 ⟨h1,h2⟩)
  replace s:=s.bring 8 rfl
  replace s:=s.bring 1 rfl
  replace s:=s.bring 2 rfl
  replace s:St w0 (.sl vq 63 68 (K.set kx (((cD l (K.getD kx z3).1),(bh 66 (vl6 5)),(bh 67 (vl6 5))):N3)).length (au (K.set kx (((cD l (K.getD kx z3).1),(bh 66 (vl6 5)),(bh 67 (vl6 5))):N3)))::(.grp kn (eI (K.set kx (((cD l (K.getD kx z3).1),(bh 66 (vl6 5)),(bh 67 (vl6 5))):N3))))::.blk bm (jE nos)::.blk D9 (.deferred (some []))::.blk bv (.cells (#[vk]) 61)::.sl vk 60 33 (aO (K.getD kx z3).1).length (aj (aO (K.getD kx z3).1))::.sl vb 3 1 (mu l (K.getD kx z3).1).length ((mu l (K.getD kx z3).1).map (Value.int .i64))::.blk b4 (.cells (#[vb]) 106)::.blk b3 (.cells (#[.map (some bm)]) 233)::B9) _:=s
  exact wU 3 rfl h s rfl (λw9 s9=>⟨_,rfl,_,_,kn,(s9.pick _ (ap7 _ (ap7 _ (ap7 _ (ap8 _ (ap8 _ (ap8 _ (ap8 _ (ap8 _ (ap8 _ (List.Sublist.refl _)))))))))))⟩)
 ·intro D9 d9 A9 w2 hd9 hqd9 hq9 hJ9 s
  cases hqd9
end Go.Proofs.YthmlflaiidhoiaaGreatDoor
