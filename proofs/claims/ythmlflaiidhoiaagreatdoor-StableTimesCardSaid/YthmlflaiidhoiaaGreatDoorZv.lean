/- Package chord and what it stands on, so far as it is wanted: what each function answers. -/
import Derived.Test.YthmlflaiidhoiaaGreatDoorZa
import Derived.Test.YthmlflaiidhoiaaGreatDoorZs
import Derived.Test.YthmlflaiidhoiaaGreatDoorZo
set_option linter.unusedVariables false
set_option linter.unusedSimpArgs false
set_option linter.unusedSectionVars false
namespace Go.Proofs.YthmlflaiidhoiaaGreatDoor
open Go.RowKit
theorem Uj (l:List Mb) (vh:Value) (m:Mb) (w:World) (hR:a7 w vh 33 l.length (aj l)) (hln:l.length<=1000) (hg:Rg l) (hm:m∈l):Calls Tryz.prog 34 [vh,.agg (ar m)].toArray w (bW w (NbP w 60 l m)):=by
 refine bG Tryz.func34 rfl Tryz.ntmps34 rfl λf h s=>qr (ba ((ar m)) h s rfl rfl rfl λf w1 b3 h s=>aK (ar aS) h s cQ rfl rfl λf w1 b4 h s=>e9 ac 1 h rfl λf h=>cw ac 1 h rfl λf h=>cb h (hR.keep s.ext) aA6 rfl rfl λf h=>ak h (fp (h.ev rfl) (h.ev rfl) (by omega)) rfl λf h=>e9 ac 1 h rfl λf h=>ag (bD ac 2 h rfl λf h=>cT h rfl (λhc=>?_) (λhc=>?_)))
 ·have h1:l.length=1:=by have:=ap9 hc;omega
  refine ag (nI 1 [[],[],[1],[0],[0,1,2,3]] [[],[],[],[5],[]] [[_]] [.v (.agg (ar fj)),.v (.agg (ar m)),.m (λv=>[.sl (v 2) 60 33 [m].length (aj [m])]),.m (λv=>[.blk b4 (.cells (ar fj) 60)]),.f (λv=>v 4=(v 2))] _ h s rfl (by kernel_rfl) (by kernel_rfl) (by kernel_rfl) (cq ?_ (cq ?_ (cq ?_ (cq ?_ (cq ?_ (trivial)))))) [0,1,2,3,4] (by kernel_rfl) ?_)
  ·intro f9 w2 vl3 E9 hs9 hd9 hl hF s
   have h:=dU [] (hs9.trans h.size) (hd9.trans h.defers) (holds_lk trivial)
   refine fP h s Q7 (u4 _) rfl rfl λf w1 h s=>aE ⟨_,bq 16 h rfl rfl,rfl,s⟩
  ·intro f9 w2 vl3 E9 hs9 hd9 hl hF s
   have h:=cJ [(3,_)] h hs9 hd9 ⟨gp hl 3 (by kernel_rfl) (h.holds 3 _ rfl),trivial⟩
   refine al 0 h s aI rfl rfl (ae _) rfl λf h=>aE ⟨_,bq 17 h rfl rfl,rfl,s⟩
  ·intro f9 w2 vl3 E9 hs9 hd9 hl hF s
   have h:=cJ [(17,_)] h hs9 hd9 ⟨bp hl 17 1 (by kernel_rfl) (hF 1 (by decide)),trivial⟩
   refine ef (vs:=[.agg (ar m)]) [.tmp 17] h s aA6 im rfl rfl (vy _) rfl rfl rfl λf w1 v18 h s=>?_
   replace s:=s.resl (m:=[m].length) (ys:=aj [m]) 0 rfl rfl (by rw [lF,gX])
   exact aE ⟨_,bq 18 h rfl rfl,trivial,s⟩
  ·intro f9 w2 vl3 E9 hs9 hd9 hl hF s
   have h:=cJ [(4,_),(16,_)] h hs9 hd9 ⟨gp hl 4 (by kernel_rfl) (h.holds 4 _ rfl),bp hl 16 0 (by kernel_rfl) (hF 0 (by decide)),trivial⟩
   refine am 0 h s aI rfl rfl rfl (ae _) (ae _) (aP _) λw1 s=>aE ⟨undef,gO rfl,trivial,s⟩
  ·intro f9 w2 vl3 E9 hs9 hd9 hl hF s
   have e18:f9.tmps.getD 18 undef=(vl3 2):=eN hl 18 2 (by kernel_rfl) (by kernel_rfl)
   have h:=dU [(18,(vl3 2))] (hs9.trans h.size) (hd9.trans h.defers) (holds_lk ⟨e18,trivial⟩)
   refine ap ac 1 h rfl λf h=>aE ⟨_,bq 5 h rfl rfl,rfl,s⟩
  intro f w1 vl3 hs9 hd9 hv hr hF s
  replace h:=mT (ops:=_) [(16,_),(17,_),(18,(vl3 2)),(5,(vl3 2))] h hs9 hd9 hr ⟨(hv 0 16 rfl).trans (hF 0 rfl),(hv 1 17 rfl).trans (hF 1 rfl),hv 2 18 rfl,(hv 4 5 rfl).trans (hF 4 rfl),trivial⟩ (by kernel_rfl)
  replace s:St w [.sl (vl3 2) 60 33 [m].length (aj [m]),.blk b4 (.cells (ar fj) 60),.blk b3 (.cells ((ar m)) 60)] _:=s
  refine aG (rt (cc 1 rfl h s aI rfl rfl (ae _) rfl (ND h1 (s.getSl 0 rfl))))
 ·have h1:¬ l.length=1:=by have:=aq0 hc;omega
  have hpos:=gP hm
  refine kt (cw ac 2 h rfl λf h=>ai (ah (aX.of_own s 1 rfl) 0 (bH _)) h bQ rfl rfl λf h=>bg h s XQ (BC l vh m.1 _ (hR.keep s.ext) hln) rfl rfl ?_);intro f w1 v9 hT hE h s;obtain rfl:=hT
  refine ap ac 3 h rfl λf h=>aK (ar aS) h s cQ rfl rfl λf w1 b7 h s=>am 0 h s aI rfl rfl rfl (ae _) (ae _) (aP _) λw1 s=>e9 ac 1 h rfl λf h=>cw ac 2 h rfl λf h=>ai (ah (aX.of_own s 2 rfl) 0 (bH _)) h bQ rfl rfl λf h=>ap ac 1 h rfl λf h=>ak h (bk (.int .i64 ((min (l.length - 1) 4:Nat):Int)) (Hy (h.ev rfl) (h.ev rfl)) (aq3 (Value.int .i64) (by omega))) rfl λf h=>?_
  have haf:=TO hg hm (n:=min (l.length - 1) 4) (by omega)
  refine bg h s Wl (Fm l vh m.1 ((min (l.length - 1) 4:Nat):Int) _ (hR.keep s.ext) hln) rfl rfl ?_;rintro f w1 v9 ⟨va,rfl,hT⟩ hE h sq;rw [haf.2] at hT;replace s:=s.sl_new hE hT
  refine e9 ac 5 h rfl λf h=>qr (al 1 h s aI rfl rfl (ae _) rfl λf h=>ap ac 1 h rfl λf h=>am 2 h s aI rfl rfl rfl (ae _) (ae _) (aP _) λw1 s=>e9 ac 1 h rfl λf h=>au3 (cc 2 rfl h s aI rfl rfl (ae _) rfl ((by rw [UG hg hm];exact P5 h1 (s.getSl 0 rfl)))))
theorem qM (L:List N3) (vo:Value) (w:World) (hO:qC w vo L) (hL:L.length<=40) (hb:RwB L):Calls Tryz.prog 17 [.agg #[vo]].toArray w (bW w (is (.bool (cV L)))):=by
 have hml:(av L).length<=1000:=by rw [au1];omega
 refine eh Tryz.func17 rfl Tryz.ntmps17 rfl [(0,.agg #[vo])] (by simp) λf h=>?_
 have s:=St.start w
 refine qr (ba (#[vo]) h s rfl rfl rfl λf w1 b1 h s=>aK (#[.bool false]) h s zD rfl rfl λf w1 b2 h s=>nt (ag (ag ?_)))
 cases r0:(iv L:Bool)
 ·refine aC (al 1 h s cH rfl rfl (rfl) rfl λf h=>jX false h s zz (iU L vo _ (hO.keep s.ext) hL hb) (r0) rfl rfl λf w1 h s=>e9 ac 1 h rfl λf h=>dF h rfl (qr (aB 0 h s ez rfl rfl rfl (by simp) (rfl) λw1 s=>nt (rt ?_))))
  exact g6 0 rfl h s ez rfl rfl rfl (λw9=>by show _=_;rw [QV r0];rfl)
 ·refine aC (al 1 h s cH rfl rfl (rfl) rfl λf h=>bg h s zz (bK (.bool true) (iU L vo _ (hO.keep s.ext) hL hb) (aq3 Value.bool r0)) rfl rfl ?_);intro f w1 v9 hT hE h s;obtain rfl:=hT
  refine e9 ac 1 h rfl λf h=>ry h rfl (qr ?_)
  have hrg:=(qm r0).rs.ring
  refine al 1 h s cH rfl rfl (rfl) rfl λf h=>bg h s Dq (iw L vo _ (hO.keep s.ext) hL) rfl rfl ?_;intro f w1 v11 hT hE h sq;replace s:=s.sl_new hE hT
  refine aK (#[.slice none 0 0]) h s xi rfl rfl λf w1 b3 h s=>aB 0 h s ci rfl rfl rfl (by simp) (aZ (s.getSl 1 rfl)) λw1 s=>nt (ag (qr (al 3 h s cH rfl rfl (rfl) rfl λf h=>df [.agg #[vo]] h rZ (ja vo _ _ _ s) rfl rfl ?_)));rintro f w1 r ⟨bn,rfl,s⟩ h
  refine nt (au4 (eg (λd A9=>A9=[.blk b3 (.cells #[v11] 61),.sl v11 60 33 (av L).length (aj (av L)),.blk b2 (.cells #[.bool false] 4),.blk b1 (.cells #[vo] 24)]) [.blk b3 (.cells #[v11] 61),.sl v11 60 33 (av L).length (aj (av L)),.blk b2 (.cells #[.bool false] 4),.blk b1 (.cells #[vo] 24)] [.blk bn (.cells #[vo] 24)] (L.length) (G3 L) (λd=>[Value.pointer (some (bf vo (d*68)))]) h s rfl sA (List.Perm.refl _) (rfl) (λ_=>rfl) ?_ ?_ ?_ ?_))
  ·intro lp w2 GG g0 hg0 s2 hY;exact gI L.length (by omega) vo _ _ hO.1 lp bn (G3 L) GG g0 w w2 s2 hg0 hY
  ·intro lp D9 d9 rc R9 A9 w2 hd9 hq9 hJ9 s
   obtain rfl:=hJ9
   have h:=Sl.round1 (p:=14) (V:=.pointer (some (bf vo (d9*68)))) h rfl
   have hdl9:=hd9
   refine re ac 1 h rfl λf h=>⟨_,s,λw3 s=>?_⟩
   refine au4 (ag (nI 0 [[],[],[1],[1,2],[1,2,3],[0,1,2,3,4],[0,1,2,3,4,5],[0,1,2,3,4,5,6],[0,1,2,3,4,5,6],[],[0,1,2,3,4,5,6,7,9],[0,1,2,3,4,5,6,7,8,9,10]] [[],[],[],[],[],[],[],[],[],[],[9],[]] [] [.v v11,.v _,.v _,.v (.pointer (some (bf vo (d9*68+0)))),.v (.agg (ar (L.getD d9 z3).1.me)),.r (λv=>[.sl (kO (v 5)) 60 33 (yy (av L) (L.getD d9 z3).1.me).length (aj (yy (av L) (L.getD d9 z3).1.me))]) (λv=>v 5=.tuple #[.agg (ar (rf (av L) (L.getD d9 z3).1.me)),(kO (v 5))]),.f (λv=>v 6=.tuple #[.agg (ar (rf (av L) (L.getD d9 z3).1.me)),(kO (v 5))]),.v (.agg (ar (rf (av L) (L.getD d9 z3).1.me))),.f (λv=>v 8=(kO (v 5))),.q (λv=>[.blk (G4 (v 9)) (.cells (ar aS) 60)]),.m (λv=>[.blk (G4 (v 9)) (.cells (ar (rf (av L) (L.getD d9 z3).1.me)) 60)]),.f (λv=>v 11=(kO (v 5)))] _ h s rfl (by kernel_rfl) (by kernel_rfl) (by kernel_rfl) (cq ?_ (iG ac h rfl rfl rfl (iG ac h rfl rfl rfl (cq ?_ (cq ?_ (cq ?_ (cq ?_ (cq ?_ (cq ?_ (cq ?_ (cq ?_ (cq ?_ (trivial))))))))))))) [0,1,2,3,4,5,6,7,8,10,11] (by kernel_rfl) ?_))
   ·intro f9 w2 vl6 E9 hs9 hd9 hl hF s
    have h:=cJ [(3,_)] h hs9 hd9 ⟨gp hl 3 (by kernel_rfl) (h.holds 3 _ rfl),trivial⟩
    refine bT 2 h s ci rfl rfl (rfl) rfl λf h=>aE ⟨_,bq 16 h rfl rfl,rfl,s⟩
   ·intro f9 w2 vl6 E9 hs9 hd9 hl hF s
    have h:=cJ [(18,_)] h hs9 hd9 ⟨bp hl 18 2 (by kernel_rfl) (hF 2 (by decide)),trivial⟩
    refine ak h (a6 gn (h.ev rfl) ((hO.1.keep s.ext).some (by omega))) rfl λf h=>aE ⟨_,bq 19 h rfl rfl,rfl,s⟩
   ·intro f9 w2 vl6 E9 hs9 hd9 hl hF s
    have h:=cJ [(19,_)] h hs9 hd9 ⟨bp hl 19 3 (by kernel_rfl) (hF 3 (by decide)),trivial⟩
    refine ax (a7.elF (hO.1.keep s.ext) (d9) 0 33 (by omega) (by decide) (C:=aR (L.getD d9 z3).1.me (L.getD d9 z3).1.pr (L.getD d9 z3).2.1 (L.getD d9 z3).2.2) (eZ L d9 hdl9) (D:=ar (L.getD d9 z3).1.me) (dx _ _ _ _)) h aI rfl (ae _) rfl λf h=>aE ⟨_,bq 20 h rfl rfl,rfl,s⟩
   ·intro f9 w2 vl6 E9 hs9 hd9 hl hF s
    have h:=cJ [(16,_),(20,_)] h hs9 hd9 ⟨bp hl 16 0 (by kernel_rfl) (hF 0 (by decide)),bp hl 20 4 (by kernel_rfl) (hF 4 (by decide)),trivial⟩
    refine bg h s YT (Uj (av L) v11 (L.getD d9 z3).1.me _ (a7.of_own (s.getSl 3 rfl)) hml hrg (au9.2 ⟨_,bE hdl9,rfl⟩)) rfl rfl ?_;rintro f w1 v21 ⟨u9,hv9,hO9⟩ hE h sq;replace s:=s.sl_new hE hO9
    have h1v:u9=kO v21:=by rw [hv9];rfl
    clear hO9
    subst h1v
    exact aE ⟨_,bq 21 h rfl rfl,hv9,s⟩
   ·intro f9 w2 vl6 E9 hs9 hd9 hl hF s
    have h:=cJ [(21,.tuple #[.agg (ar (rf (av L) (L.getD d9 z3).1.me)),(kO (vl6 5))])] h hs9 hd9 ⟨bp hl 21 5 (by kernel_rfl) (hF 5 (by decide)),trivial⟩
    refine ap ac 1 h rfl λf h=>aE ⟨_,bq 15 h rfl rfl,rfl,s⟩
   ·intro f9 w2 vl6 E9 hs9 hd9 hl hF s
    have h:=cJ [(15,.tuple #[.agg (ar (rf (av L) (L.getD d9 z3).1.me)),(kO (vl6 5))])] h hs9 hd9 ⟨bp hl 15 6 (by kernel_rfl) (hF 6 (by decide)),trivial⟩
    refine ap ac 1 h rfl λf h=>aE ⟨_,bq 22 h rfl rfl,rfl,s⟩
   ·intro f9 w2 vl6 E9 hs9 hd9 hl hF s
    have h:=cJ [(15,.tuple #[.agg (ar (rf (av L) (L.getD d9 z3).1.me)),(kO (vl6 5))])] h hs9 hd9 ⟨bp hl 15 6 (by kernel_rfl) (hF 6 (by decide)),trivial⟩
    refine ap ac 1 h rfl λf h=>aE ⟨_,bq 23 h rfl rfl,rfl,s⟩
   ·intro f9 w2 vl6 E9 hs9 hd9 hl hF s
    have h:=dU [] (hs9.trans h.size) (hd9.trans h.defers) (holds_lk trivial)
    refine aK (ar aS) h s cQ rfl rfl λf w1 b5 h s=>aE ⟨_,bq 5 h rfl rfl,⟨_,rfl⟩,s⟩
   ·intro f9 w2 vl6 E9 hs9 hd9 hl hF s
    obtain ⟨b5,hb5⟩:∃ b,vl6 9=.pointer (some ⟨b,0,none⟩):=hF 9 (by decide)
    have e5:f9.tmps.getD 5 undef=.pointer (some ⟨b5,0,none⟩):=(eN hl 5 9 (by kernel_rfl) (by kernel_rfl)).trans hb5
    have e22:f9.tmps.getD 22 undef=.agg (ar (rf (av L) (L.getD d9 z3).1.me)):=(eN hl 22 7 (by kernel_rfl) (by kernel_rfl)).trans (hF 7 (by decide))
    have h:=dU [(5,.pointer (some ⟨b5,0,none⟩)),(22,.agg (ar (rf (av L) (L.getD d9 z3).1.me)))] (hs9.trans h.size) (hd9.trans h.defers) (holds_lk ⟨e5,e22,trivial⟩)
    replace s:St w (.blk (G4 (vl6 9)) (.cells (ar aS) 60)::.blk lp (.loop (rc .busy))::.blk D9 (.deferred (some []))::.blk b3 (.cells (#[v11]) 61)::.sl v11 60 33 (av L).length (aj (av L))::.blk b2 (.cells (#[.bool false]) 4)::.blk b1 (.cells (#[vo]) 24)::(R9++E9)) _:=s
    rw [hb5] at s
    replace s:St w (.blk b5 (.cells (ar aS) 60)::.blk lp (.loop (rc .busy))::.blk D9 (.deferred (some []))::.blk b3 (.cells (#[v11]) 61)::.sl v11 60 33 (av L).length (aj (av L))::.blk b2 (.cells (#[.bool false]) 4)::.blk b1 (.cells (#[vo]) 24)::(R9++E9)) _:=s
    refine am 0 h s aI rfl rfl rfl (ae _) (ae _) (aP _) λw1 s=>aE ⟨undef,gO rfl,trivial,?_⟩
    have z:=s
    rw [← show G4 (vl6 9)=b5 from by rw [hb5];rfl] at z
    exact z
   ·intro f9 w2 vl6 E9 hs9 hd9 hl hF s
    have h:=cJ [(23,(kO (vl6 5)))] h hs9 hd9 ⟨bp hl 23 8 (by kernel_rfl) (hF 8 (by decide)),trivial⟩
    refine ap ac 1 h rfl λf h=>aE ⟨_,bq 6 h rfl rfl,rfl,s⟩
   intro f w1 vl6 hs9 hd9 hv hr hF s
   obtain ⟨b5,hb5⟩:∃ b,vl6 9=.pointer (some ⟨b,0,none⟩):=hF 9 (by kernel_rfl)
   replace h:=mT (ops:=_) [(16,_),(17,_),(18,_),(19,_),(20,_),(21,.tuple #[.agg (ar (rf (av L) (L.getD d9 z3).1.me)),(kO (vl6 5))]),(15,.tuple #[.agg (ar (rf (av L) (L.getD d9 z3).1.me)),(kO (vl6 5))]),(22,_),(23,(kO (vl6 5))),(5,.pointer (some ⟨b5,0,none⟩)),(6,(kO (vl6 5)))] h hs9 hd9 hr ⟨(hv 0 16 rfl).trans (hF 0 rfl),(hv 1 17 rfl).trans (hF 1 rfl),(hv 2 18 rfl).trans (hF 2 rfl),(hv 3 19 rfl).trans (hF 3 rfl),(hv 4 20 rfl).trans (hF 4 rfl),(hv 5 21 rfl).trans (hF 5 rfl),(hv 6 15 rfl).trans (hF 6 rfl),(hv 7 22 rfl).trans (hF 7 rfl),(hv 8 23 rfl).trans (hF 8 rfl),(hv 9 5 rfl).trans hb5,(hv 11 6 rfl).trans (hF 11 rfl),trivial⟩ (by kernel_rfl)
   replace s:St w (.sl (kO (vl6 5)) 60 33 (yy (av L) (L.getD d9 z3).1.me).length (aj (yy (av L) (L.getD d9 z3).1.me))::.blk (G4 (vl6 9)) (.cells (ar (rf (av L) (L.getD d9 z3).1.me)) 60)::.blk lp (.loop (rc .busy))::.blk D9 (.deferred (some []))::.blk b3 (.cells (#[v11]) 61)::.sl v11 60 33 (av L).length (aj (av L))::.blk b2 (.cells (#[.bool false]) 4)::.blk b1 (.cells (#[vo]) 24)::R9) _:=s
   rw [hb5] at s
   replace s:St w (.sl (kO (vl6 5)) 60 33 (yy (av L) (L.getD d9 z3).1.me).length (aj (yy (av L) (L.getD d9 z3).1.me))::.blk b5 (.cells (ar (rf (av L) (L.getD d9 z3).1.me)) 60)::.blk lp (.loop (rc .busy))::.blk D9 (.deferred (some []))::.blk b3 (.cells (#[v11]) 61)::.sl v11 60 33 (av L).length (aj (av L))::.blk b2 (.cells (#[.bool false]) 4)::.blk b1 (.cells (#[vo]) 24)::R9) _:=s
   refine aG (ag ?_)
   cases q0:(decide ((L.getD d9 z3).1.pr=(rf (av L) (L.getD d9 z3).1.me)):Bool)
   ·refine cK 15 h (by kernel_rfl) ?_
    have hx9:=hb.each _ (bE hdl9)
    refine aD ac 2 h rfl λf h=>aF h (a6 rk (h.ev rfl) ((hO.1.keep s.ext).some (by omega))) rfl λf h=>aU (a7.elF (hO.1.keep s.ext) (d9) 33 33 (by omega) (by decide) (C:=aR (L.getD d9 z3).1.me (L.getD d9 z3).1.pr (L.getD d9 z3).2.1 (L.getD d9 z3).2.2) (eZ L d9 hdl9) (D:=ar (L.getD d9 z3).1.pr) (fq _ _ _ _)) h aI rfl (ae _) rfl λf h=>aH 1 h s aI rfl rfl (ae _) rfl λf h=>aF h (bk (.bool true) (kj (Bb _ _) (by kernel_rfl) (by decide) (h.ev rfl) (h.ev rfl) (decide ((L.getD d9 z3).1.pr=(rf (av L) (L.getD d9 z3).1.me))) (mm _ _)) (by rw [q0];rfl)) rfl λf h=>aD ac 9 h rfl λf h=>bF s λw1 s=>iz h rfl (qr (aB 6 h s ez rfl rfl rfl (by simp) (rfl) λw1 s=>nt (au3 (aY (⟨(Yo q0),_,rfl,s.pick _ ?_⟩)))))
    exact ap8 _ (ap8 _ (ap7 _ (List.Sublist.refl _)))
   ·skip
    cases q1:(decide ((L.getD d9 z3).1.sc=(yy (av L) (L.getD d9 z3).1.me)):Bool)
    ·refine cK 15 h (by kernel_rfl) ?_
     have hx9:=hb.each _ (bE hdl9)
     refine aD ac 2 h rfl λf h=>aF h (a6 rk (h.ev rfl) ((hO.1.keep s.ext).some (by omega))) rfl λf h=>aU (a7.elF (hO.1.keep s.ext) (d9) 33 33 (by omega) (by decide) (C:=aR (L.getD d9 z3).1.me (L.getD d9 z3).1.pr (L.getD d9 z3).2.1 (L.getD d9 z3).2.2) (eZ L d9 hdl9) (D:=ar (L.getD d9 z3).1.pr) (fq _ _ _ _)) h aI rfl (ae _) rfl λf h=>aH 1 h s aI rfl rfl (ae _) rfl λf h=>aF h (bk (.bool false) (kj (Bb _ _) (by kernel_rfl) (by decide) (h.ev rfl) (h.ev rfl) (decide ((L.getD d9 z3).1.pr=(rf (av L) (L.getD d9 z3).1.me))) (mm _ _)) (by rw [q0];rfl)) rfl λf h=>aD ac 3 h rfl λf h=>cj h rfl (aF h (a6 fU (h.ev rfl) ((hO.1.keep s.ext).some (by omega))) rfl λf h=>cj h rfl (bw (V:=(L.getD d9 z3).2.1) (dt (hO.1.keep s.ext) (d9*68+66) (kc L d9 hdl9)) h ci rfl rfl λf h=>aD ac 1 h rfl λf h=>cj h rfl (bR h Q2 (λw9 hE9=>bK (.bool false) (uM (L.getD d9 z3).1.sc (yy (av L) (L.getD d9 z3).1.me) (L.getD d9 z3).2.1 (kO (vl6 5)) w9 ((hO.2 _ (bE hdl9)).1.keep (s.ext.trans hE9)) ((a7.of_own (s.getSl 0 rfl)).keep hE9) (by omega) (by have:=QN (av L) (L.getD d9 z3).1.me;omega)) (aq3 Value.bool q1)) rfl rfl λf h=>aD ac 2 h rfl λf h=>bF s λw1 s=>iz h rfl (qr (aB 6 h s ez rfl rfl rfl (by simp) (rfl) λw1 s=>nt (au3 (aY (⟨((QO q0).trans (by rw [q1];rfl)),_,rfl,s.pick _ ?_⟩))))))))
     exact ap8 _ (ap8 _ (ap7 _ (List.Sublist.refl _)))
    ·refine cK 15 h (by kernel_rfl) ?_
     have hx9:=hb.each _ (bE hdl9)
     refine aD ac 2 h rfl λf h=>aF h (a6 rk (h.ev rfl) ((hO.1.keep s.ext).some (by omega))) rfl λf h=>aU (a7.elF (hO.1.keep s.ext) (d9) 33 33 (by omega) (by decide) (C:=aR (L.getD d9 z3).1.me (L.getD d9 z3).1.pr (L.getD d9 z3).2.1 (L.getD d9 z3).2.2) (eZ L d9 hdl9) (D:=ar (L.getD d9 z3).1.pr) (fq _ _ _ _)) h aI rfl (ae _) rfl λf h=>aH 1 h s aI rfl rfl (ae _) rfl λf h=>aF h (bk (.bool false) (kj (Bb _ _) (by kernel_rfl) (by decide) (h.ev rfl) (h.ev rfl) (decide ((L.getD d9 z3).1.pr=(rf (av L) (L.getD d9 z3).1.me))) (mm _ _)) (by rw [q0];rfl)) rfl λf h=>aD ac 3 h rfl λf h=>cj h rfl (aF h (a6 fU (h.ev rfl) ((hO.1.keep s.ext).some (by omega))) rfl λf h=>cj h rfl (bw (V:=(L.getD d9 z3).2.1) (dt (hO.1.keep s.ext) (d9*68+66) (kc L d9 hdl9)) h ci rfl rfl λf h=>aD ac 1 h rfl λf h=>cj h rfl (bR h Q2 (λw9 hE9=>bK (.bool true) (uM (L.getD d9 z3).1.sc (yy (av L) (L.getD d9 z3).1.me) (L.getD d9 z3).2.1 (kO (vl6 5)) w9 ((hO.2 _ (bE hdl9)).1.keep (s.ext.trans hE9)) ((a7.of_own (s.getSl 0 rfl)).keep hE9) (by omega) (by have:=QN (av L) (L.getD d9 z3).1.me;omega)) (aq3 Value.bool q1)) rfl rfl λf h=>aD ac 2 h rfl λf h=>bF s λw1 s=>tS h rfl (wpIn_skip (aW (⟨((QO q0).trans (by rw [q1];rfl)),_,rfl,s.pick _ ?_⟩))))))
     exact ap8 _ (ap8 _ (ap7 _ (List.Sublist.refl _)))
  ·intro D9 A9 w2 hJ9 hq9 s
   obtain rfl:=hJ9
   replace h:Sl _ {f with defers:={target:=.collected D9,args:=#[]}::f.defers} _ [{target:=.collected D9,args:=#[]}]:=⟨h.size,by rw [h.defers],h.holds⟩
   refine aW (aG (qr (aB 4 h s ez rfl rfl rfl (by simp) (rfl) λw1 s=>nt (au3 ?_))))
   exact fT 4 0 rfl h s ez rfl rfl rfl rfl rfl (λw9=>(aq3 Value.bool (MA r0 hq9)).symm)
  ·intro D9 d9 A9 w2 hd9 hqd9 hq9 hJ9 s
   obtain rfl:=hJ9
   replace h:Sl _ {f with defers:={target:=.collected D9,args:=#[]}::f.defers} _ [{target:=.collected D9,args:=#[]}]:=⟨h.size,by rw [h.defers],h.holds⟩
   refine aY (aQ ?_)
   exact fT 4 0 rfl h s ez rfl rfl rfl rfl rfl (λw9=>(aq3 Value.bool (Qw r0 hd9 hqd9)).symm)
end Go.Proofs.YthmlflaiidhoiaaGreatDoor
