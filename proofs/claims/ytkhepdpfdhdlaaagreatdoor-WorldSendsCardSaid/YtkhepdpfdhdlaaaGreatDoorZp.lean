/- Package chord and what it stands on, so far as it is wanted: what each function answers. -/
import Derived.Test.YtkhepdpfdhdlaaaGreatDoorZa
import Derived.Test.YtkhepdpfdhdlaaaGreatDoorZl
import Derived.Test.YtkhepdpfdhdlaaaGreatDoorZk
import Derived.Test.YtkhepdpfdhdlaaaGreatDoorZd
set_option linter.unusedVariables false
set_option linter.unusedSimpArgs false
set_option linter.unusedSectionVars false
namespace Go.Proofs.YtkhepdpfdhdlaaaGreatDoor
open Go.RowKit
theorem kN (L:List N3) (vo:Value) (w:World) (hO:kC w vo L) (hL:L.length<=40) (hb:RwB L):Calls Tryz.prog 26 [.agg #[vo]].toArray w (bW w (is (.bool (lD L)))):=by
 have hml:(aI L).length<=1000:=by rw [Y6];omega
 refine gF Tryz.func26 rfl Tryz.ntmps26 rfl [(0,.agg #[vo])] (by simp) λf h=>?_
 have s:=St.start w
 refine qr (bh (#[vo]) h s rfl rfl rfl λf w1 b1 h s=>aS (#[.bool false]) h s AI rfl rfl λf w1 b2 h s=>nt (qr (al 1 h s cv rfl rfl (rfl) rfl λf h=>bB h s GY (iC L vo _ (hO.keep s.ext) hL) rfl rfl ?_)));intro f w1 v6 hT hE h sq;replace s:=s.sl_new hE hT
 refine e9 ac 1 h rfl λf h=>ah (ah ?_)
 refine rs ac 1 h rfl λf h=>eK h s Mt (rX (aI L) v6 _ (bp.of_own (s.getSl 0 rfl)) hml) rfl rfl (λr0 f w1 h s=>?_) (λr0 f w1 h s=>?_)
 ·refine e9 ac 6 h rfl λf h=>dQ h rfl (qr (aR 1 h s cI rfl rfl rfl (by simp) (rfl) λw1 s=>nt (rt ?_)))
  exact jp 1 rfl h s cI rfl rfl rfl (λw9=>(Yu Value.bool (NS r0)).symm)
 ·skip
  refine ap ac 3 h rfl λf h=>bX h rfl (eK h s Tx (sS (aI L) v6 _ (bp.of_own (s.getSl 0 rfl)) hml) rfl rfl (λr1 f w1 h s=>?_) (λr1 f w1 h s=>?_))
  ·refine e9 ac 2 h rfl λf h=>dQ h rfl (qr (aR 1 h s cI rfl rfl rfl (by simp) (rfl) λw1 s=>nt (rt ?_)))
   exact jp 1 rfl h s cI rfl rfl rfl (λw9=>(Yu Value.bool (Pz r1)).symm)
  ·refine e9 ac 2 h rfl λf h=>qC h rfl (ah (qr (al 2 h s cv rfl rfl (rfl) rfl λf h=>dI [.agg #[vo]] h vQ (jO vo _ _ _ s) rfl rfl ?_)));rintro f w1 r ⟨bn,rfl,s⟩ h
   refine nt (Y9 (gC (λd A9=>A9=[.sl v6 69 33 (aI L).length (aw (aI L)),.blk b2 (.cells #[.bool false] 4),.blk b1 (.cells #[vo] 24)]) [.sl v6 69 33 (aI L).length (aw (aI L)),.blk b2 (.cells #[.bool false] 4),.blk b1 (.cells #[vo] 24)] [.blk bn (.cells #[vo] 24)] (L.length) (GT L) (λd=>[Value.pointer (some (bI vo (d*68)))]) h s rfl oD (List.Perm.refl _) (rfl) (λ_=>rfl) ?_ ?_ ?_ ?_))
   ·intro lp w2 GG g0 hg0 s2 hY;exact ir L.length (by omega) vo _ _ hO.1 lp bn (GT L) GG g0 w w2 s2 hg0 hY
   ·intro lp D9 d9 rc R9 A9 w2 hd9 hq9 hJ9 s
    obtain rfl:=hJ9
    have h:=Sl.round1 (p:=17) (V:=.pointer (some (bI vo (d9*68)))) h rfl
    have hdl9:=hd9
    refine re ac 1 h rfl λf h=>⟨_,s,λw3 s=>?_⟩
    refine Y9 (ah ?_)
    cases k0:(dU (L.getD d9 z3).1:Bool)
    ·refine dF 13 h (by kernel_rfl) ?_
     have hx9:=hb.each _ (cF hdl9)
     refine aq ac 2 h rfl λf h=>aY ((hO.1.keep s.ext).el (d9) (by omega) (by decide) (D:=bJ (L.getD d9 z3).1.me (L.getD d9 z3).1.pr (L.getD d9 z3).2.1 (L.getD d9 z3).2.2) (gz L d9 hdl9)) h fU rfl (bN _ _ _ _) rfl λf h=>bj h Fv (λw9 hE9=>aX (.bool false) (lj (L.getD d9 z3).1 (L.getD d9 z3).2.1 (L.getD d9 z3).2.2 w9 ((hO.2 _ (cF hdl9)).1.keep (s.ext.trans hE9)) ((hO.2 _ (cF hdl9)).2.keep (s.ext.trans hE9)) (by omega) (by omega)) (Yu Value.bool k0)) rfl rfl λf h=>aq ac 9 h rfl λf h=>bQ s λw1 s=>ie h rfl (qr (aR 3 h s cI rfl rfl rfl (by simp) (rfl) λw1 s=>nt (Y8 (bo (⟨(Wc k0),_,rfl,s.pick _ ?_⟩)))))
     exact Yo _ (List.Sublist.refl _)
    ·skip
     cases k1:((aM (L.getD d9 z3).1).any (k9 L):Bool)
     ·refine dF 13 h (by kernel_rfl) ?_
      have hx9:=hb.each _ (cF hdl9)
      refine aq ac 2 h rfl λf h=>aY ((hO.1.keep s.ext).el (d9) (by omega) (by decide) (D:=bJ (L.getD d9 z3).1.me (L.getD d9 z3).1.pr (L.getD d9 z3).2.1 (L.getD d9 z3).2.2) (gz L d9 hdl9)) h fU rfl (bN _ _ _ _) rfl λf h=>bj h Fv (λw9 hE9=>aX (.bool true) (lj (L.getD d9 z3).1 (L.getD d9 z3).2.1 (L.getD d9 z3).2.2 w9 ((hO.2 _ (cF hdl9)).1.keep (s.ext.trans hE9)) ((hO.2 _ (cF hdl9)).2.keep (s.ext.trans hE9)) (by omega) (by omega)) (Yu Value.bool k0)) rfl rfl λf h=>aq ac 4 h rfl λf h=>a6 h rfl (aY ((hO.1.keep s.ext).el (d9) (by omega) (by decide) (D:=bJ (L.getD d9 z3).1.me (L.getD d9 z3).1.pr (L.getD d9 z3).2.1 (L.getD d9 z3).2.2) (gz L d9 hdl9)) h fU rfl (bN _ _ _ _) rfl λf h=>a6 h rfl (ba 4 h s cv rfl rfl (rfl) rfl λf h=>a6 h rfl (bj h LW (λw9 hE9=>aX (.bool true) (rY (L.getD d9 z3).1 (L.getD d9 z3).2.1 (L.getD d9 z3).2.2 L vo w9 ((hO.2 _ (cF hdl9)).1.keep (s.ext.trans hE9)) ((hO.2 _ (cF hdl9)).2.keep (s.ext.trans hE9)) (by omega) (by omega) (hO.keep (s.ext.trans hE9)) hL) (by rw [k1];rfl)) rfl rfl λf h=>aq ac 2 h rfl λf h=>bQ s λw1 s=>yV h rfl (wpIn_skip (bw (⟨((Sg k0).trans k1),_,rfl,s.pick _ ?_⟩))))))
      exact Yo _ (List.Sublist.refl _)
     ·refine dF 13 h (by kernel_rfl) ?_
      have hx9:=hb.each _ (cF hdl9)
      refine aq ac 2 h rfl λf h=>aY ((hO.1.keep s.ext).el (d9) (by omega) (by decide) (D:=bJ (L.getD d9 z3).1.me (L.getD d9 z3).1.pr (L.getD d9 z3).2.1 (L.getD d9 z3).2.2) (gz L d9 hdl9)) h fU rfl (bN _ _ _ _) rfl λf h=>bj h Fv (λw9 hE9=>aX (.bool true) (lj (L.getD d9 z3).1 (L.getD d9 z3).2.1 (L.getD d9 z3).2.2 w9 ((hO.2 _ (cF hdl9)).1.keep (s.ext.trans hE9)) ((hO.2 _ (cF hdl9)).2.keep (s.ext.trans hE9)) (by omega) (by omega)) (Yu Value.bool k0)) rfl rfl λf h=>aq ac 4 h rfl λf h=>a6 h rfl (aY ((hO.1.keep s.ext).el (d9) (by omega) (by decide) (D:=bJ (L.getD d9 z3).1.me (L.getD d9 z3).1.pr (L.getD d9 z3).2.1 (L.getD d9 z3).2.2) (gz L d9 hdl9)) h fU rfl (bN _ _ _ _) rfl λf h=>a6 h rfl (ba 4 h s cv rfl rfl (rfl) rfl λf h=>a6 h rfl (bj h LW (λw9 hE9=>aX (.bool false) (rY (L.getD d9 z3).1 (L.getD d9 z3).2.1 (L.getD d9 z3).2.2 L vo w9 ((hO.2 _ (cF hdl9)).1.keep (s.ext.trans hE9)) ((hO.2 _ (cF hdl9)).2.keep (s.ext.trans hE9)) (by omega) (by omega) (hO.keep (s.ext.trans hE9)) hL) (by rw [k1];rfl)) rfl rfl λf h=>aq ac 2 h rfl λf h=>bQ s λw1 s=>ie h rfl (qr (aR 3 h s cI rfl rfl rfl (by simp) (rfl) λw1 s=>nt (Y8 (bo (⟨((Sg k0).trans k1),_,rfl,s.pick _ ?_⟩))))))))
      exact Yo _ (List.Sublist.refl _)
   ·intro D9 A9 w2 hJ9 hq9 s
    obtain rfl:=hJ9
    replace h:Sl _ {f with defers:={target:=.collected D9,args:=#[]}::f.defers} _ [{target:=.collected D9,args:=#[]}]:=⟨h.size,by rw [h.defers],h.holds⟩
    refine bw (aO (qr (aR 3 h s cI rfl rfl rfl (by simp) (rfl) λw1 s=>nt (Y8 ?_))))
    exact fQ 3 0 rfl h s cI rfl rfl rfl rfl rfl (λw9=>(Yu Value.bool (Kb r0 r1 hq9)).symm)
   ·intro D9 d9 A9 w2 hd9 hqd9 hq9 hJ9 s
    obtain rfl:=hJ9
    replace h:Sl _ {f with defers:={target:=.collected D9,args:=#[]}::f.defers} _ [{target:=.collected D9,args:=#[]}]:=⟨h.size,by rw [h.defers],h.holds⟩
    refine bo (aV ?_)
    exact fQ 3 0 rfl h s cI rfl rfl rfl rfl rfl (λw9=>(Yu Value.bool (Lr r0 r1 hd9 hqd9)).symm)
set_option maxHeartbeats 1000000 in
theorem Cz (L:List N3) (vo:Value) (m:Mb) (no:Int) (w:World) (hO:kC w vo L) (hL:L.length<=40) (hb:RwB L):Calls Tryz.prog 72 [.agg #[vo],.agg (az m),.int .i64 no].toArray w (bW w (Q0 w (Em vo L) (ra L m no) (nQ L m no))):=by
 refine bG Tryz.func72 rfl Tryz.ntmps72 rfl λf h s=>qr (bh (#[vo]) h s rfl rfl rfl λf w1 b3 h s=>bh ((az m)) h s rfl rfl rfl λf w1 b4 h s=>aS (#[aj]) h s yH rfl rfl λf w1 b6 h s=>e9 ac 1 h rfl λf h=>ah (ah ?_))
 refine aG (al 2 h s cv rfl rfl (rfl) rfl λf h=>eK h s Gj (kN L vo _ (hO.keep s.ext) hL hb) rfl rfl (λr0 f w1 h s=>?_) (λr0 f w1 h s=>?_))
 ·refine e9 ac 1 h rfl λf h=>dQ h rfl (qr (ai h (gj AG) rfl λf h=>ak 0 h s cv rfl rfl rfl (rfl) (rfl) (fe (rfl)) λw1 s=>e9 ac 1 h rfl λf h=>rt (ct 0 rfl h s cv rfl rfl (rfl) rfl (o4 s (tK (Mm r0)).2 (tK (Mm r0)).1))))
 ·refine e9 ac 1 h rfl λf h=>qC h rfl (ah ?_)
  cases h0:(fy m:Bool)
  ·refine aG (al 1 h s bH rfl rfl (am _) rfl λf h=>bB h s Ex (qW m _) rfl rfl ?_);rintro f w1 v17 ⟨us,uf,rfl,hS⟩ hE h sq;rw [(xH h0).1,(xH h0).2] at h;rw [(xH h0).1] at hS;replace s:=s.add hS;clear hS
   refine ap ac 3 h rfl λf h=>aS (bJ bE bE aj aj) h s uG rfl rfl λf w1 b8 h s=>ak 0 h s fU rfl rfl rfl (bN _ _ _ _) (bN _ _ _ _) (ed (bA (s.getSl 1 rfl)) (bA (s.getSl 2 rfl))) λw1 s=>e9 ac 1 h rfl λf h=>ah (cu ac 1 h rfl λf h=>lL ac (.bool true) h rfl (by rfl) rfl λf h=>ie h rfl (qr (ai h (gj AG) rfl λf h=>ap ac 1 h rfl λf h=>ak 3 h s cv rfl rfl rfl (rfl) (rfl) (fe (rfl)) λw1 s=>e9 ac 1 h rfl λf h=>rt (ct 3 rfl h s cv rfl rfl (rfl) rfl (o4 s (tK (MD h0)).2 (tK (MD h0)).1)))))
  ·refine aG (al 1 h s bH rfl rfl (am _) rfl λf h=>bB h s Ex (qW m _) rfl rfl ?_);rintro f w1 v17 ⟨us,uf,rfl,hS⟩ hE h sq;rw [(wT h0).1,(wT h0).2] at h;rw [(wT h0).1] at hS;replace s:=s.add hS;clear hS
   replace s:=s.resl (m:=1) (ys:=aw [m]) 0 rfl rfl rfl
   refine ap ac 3 h rfl λf h=>aS (bJ bE bE aj aj) h s uG rfl rfl λf w1 b8 h s=>ak 0 h s fU rfl rfl rfl (bN _ _ _ _) (bN _ _ _ _) (ed (bA (s.getSl 1 rfl)) (bA (s.getSl 2 rfl))) λw1 s=>e9 ac 1 h rfl λf h=>ah (cu ac 1 h rfl λf h=>lL ac (.bool false) h rfl (by rfl) rfl λf h=>f7 h rfl (ah (ah ?_)))
   cases j0:(Do L m:Bool)
   ·refine aG ?_
    have hok:=Ni r0 h0
    have hnos:=(ql r0).rs.nos
    refine al 5 h s cv rfl rfl (rfl) rfl λf h=>al 4 h s bH rfl rfl (am _) rfl λf h=>m9 false h s HR (rD L vo m _ (hO.keep s.ext) hL hb) (j0) rfl rfl λf w1 h s=>f7 h rfl (ah (cu ac 1 h rfl λf h=>ag (V:=vo) (ae (aJ.of_own s 5 rfl) 0 rfl) h eG rfl rfl λf h=>ce h (hO.1.keep s.ext) Z8 rfl rfl λf h=>e9 ac 1 h rfl λf h=>cA h rfl (λhc=>?_) (λhc=>?_)))
    ·have hl0:0<L.length:=by have:=Yq hc;omega
     refine ah ?_
     cases l0:(cC (aI L) no:Bool)
     ·refine aG (al 5 h s cv rfl rfl (rfl) rfl λf h=>ap ac 1 h rfl λf h=>da h s sG (aX (.pointer none) (kq L vo no _ (hO.keep s.ext) hL) (FB (Yr ((qu hnos).trans l0)))) rfl rfl λf w1 h s=>e9 ac 1 h rfl λf h=>ah (cu ac 1 h rfl λf h=>ai h (bq (.bool true) (eX aa9 (h.ev rfl) (h.ev rfl)) (rfl)) rfl λf h=>ie h rfl (qr (ai h (gj AG) rfl λf h=>ak 3 h s cv rfl rfl rfl (rfl) (rfl) (fe (rfl)) λw1 s=>e9 ac 1 h rfl λf h=>rt (aV (ct 3 rfl h s cv rfl rfl (rfl) rfl (o4 s ((qv hok).2.trans (Mh (Mk j0 hl0 l0) (by decide))) ((qv hok).1.trans (Mk j0 hl0 l0)))))))))
     ·refine aG (al 5 h s cv rfl rfl (rfl) rfl λf h=>ap ac 1 h rfl λf h=>da h s sG (aX (.pointer (some (bI vo (eY L no*68)))) (kq L vo no _ (hO.keep s.ext) hL) (EE (Yq ((qu hnos).trans l0)))) rfl rfl λf w1 h s=>e9 ac 1 h rfl λf h=>ah (qr ?_))
      have hix:eY L no<L.length:=Yq ((qu hnos).trans l0)
      refine ap ac 1 h rfl λf h=>ai h (bq (.bool false) (eX aa9 (h.ev rfl) (h.ev rfl)) (rfl)) rfl λf h=>f7 h rfl (dF 7 h (by kernel_rfl) (aq ac 1 h rfl λf h=>ao (V:=us) (ae (aJ.of_own s 0 rfl) 66 (mx _ _ _ _)) h eO rfl rfl λf h=>aq ac 2 h rfl λf h=>ar h (aW fu (h.ev rfl) ((hO.1.keep s.ext).some (by omega))) rfl λf h=>aY (bp.elF (hO.1.keep s.ext) (eY L no) 0 33 (by omega) (by decide) (C:=bJ (L.getD (eY L no) z3).1.me (L.getD (eY L no) z3).1.pr (L.getD (eY L no) z3).2.1 (L.getD (eY L no) z3).2.2) (gz L _ hix) (D:=az (L.getD (eY L no) z3).1.me) (fY _ _ _ _)) h bH rfl (am _) rfl λf h=>ar h (bz (bp.of_own (s.getSl 1 rfl)) (0) aa8 fp (h.ev rfl) (h.ev rfl) (by omega) (by omega)) rfl λf h=>bQ s λw1 s=>yj 1 (0) h s bH rfl rfl rfl (am _) (by omega) (cz _) (show _=aw [(L.getD (eY L no) z3).1.me] from PB (l:=[m]) _ Nat.zero_lt_one) λw1 s=>nt (qr (al 5 h s cv rfl rfl (rfl) rfl λf h=>bB h s EA (nK L vo _ (hO.keep s.ext) hL hb) rfl rfl ?_))));rintro f w1 v46 ⟨vq,K,ks,rfl,hnk,hS⟩ hE h sq;replace s:=s.add hS;clear hS
      have hlk:K.length=L.length:=by have h9:=Yu List.length hnk;simpa [nds] using h9
      refine ak 7 h s cv rfl rfl rfl (rfl) (rfl) (fe (bA (s.getSl 0 rfl))) λw1 s=>nt (cu ac 1 h rfl λf h=>ag (V:=vq) (ae (aJ.of_own s 7 rfl) 0 rfl) h eG rfl rfl λf h=>al 2 h s fU rfl rfl (bN _ _ _ _) rfl λf h=>?_)
      have ho1:=bA (s.getSl 3 rfl)
      have ho2:=bA (s.getSl 4 rfl)
      refine cT (vs:=[.agg (bJ m fc us uf)]) [.tmp 49] h s Z8 rh rfl rfl (AW ((⟨m,fc,[(L.getD (eY L no) z3).1.me],[]⟩,us,uf):N3)) rfl rfl rfl λf w1 v50 h s=>?_
      replace s:=s.resl (m:=1) (ys:=yX ((⟨m,fc,[(L.getD (eY L no) z3).1.me],[]⟩,us,uf):N3)) 0 rfl rfl (EP ((⟨m,fc,[(L.getD (eY L no) z3).1.me],[]⟩,us,uf):N3))
      refine ei 1 0 h s Z8 rh rfl rfl rfl rfl (by decide) (ed ho1 ho2) (by unfold maxLen;omega) (by omega) rfl λf w1 v51 h s=>?_
      replace s:=s.pick _ (YN _ _)
      replace s:=s.resl (m:=(K++[((⟨m,fc,[(L.getD (eY L no) z3).1.me],[]⟩,us,uf):N3)]).length) (ys:=aK (K++[((⟨m,fc,[(L.getD (eY L no) z3).1.me],[]⟩,us,uf):N3)])) 0 rfl (by rw [Yy];rfl) (AY _ _)
      refine ap ac 1 h rfl λf h=>aR 7 h s eG rfl rfl rfl (by show 0<1;decide) (bA (s.getSl 0 rfl)) λw1 s=>?_
      replace s:=s.recell (D:=#[v51]) 7 rfl rfl
      refine nt (cu ac 1 h rfl λf h=>ag (V:=v51) (ae (aJ.of_own s 7 rfl) 0 rfl) h eG rfl rfl λf h=>?_)
      have hrs:=(ql r0).rs
      have ho9:∀ y∈K++[((⟨m,fc,[(L.getD (eY L no) z3).1.me],[]⟩,us,uf):N3)],y.2.1.oneCell'=true/\y.2.2.oneCell'=true:=λy hy=>by rcases Y4.1 hy with hy|hy;exact(s.getG 1 rfl y hy).ones;rw [YF] at hy;subst hy;exact ⟨ho1,ho2⟩
      refine dI [v51,.func (.func 129) #[] #[]] h Gk (wj (K++[((⟨m,fc,[(L.getD (eY L no) z3).1.me],[]⟩,us,uf):N3)]) (by rw [Yy];show K.length+1<=1000;omega) ho9 (Ai hrs j0 hnk rfl) v51 _ _ _ s) rfl rfl ?_;rintro f w1 r ⟨K2,hkp,hks,s⟩ h
      replace s:=s.bring 1 rfl
      replace s:=s.bring 4 rfl
      replace s:=s.bring 4 rfl
      replace s:St w [.sl us 69 33 1 (aw [(L.getD (eY L no) z3).1.me]),.sl uf 69 33 ([]:List Mb).length (aw []),(.grp ks (jM K)),.sl v51 72 68 K2.length (aK K2),.blk b8 (.cells (bJ m fc us uf) 72),.blk b6 (.cells (#[aj]) 24),.blk b4 (.cells ((az m)) 69),.blk b3 (.cells (#[v51]) 24)] _:=s
      obtain ⟨kn,s⟩:=s.grpR (S':=jM K2) (λw9 h1 h2 h3 y hy=>by rcases Y4.1 (hkp.mem_iff.1 hy) with hy|hy;exact h3 y hy;rw [YF] at hy;subst hy;exact ⟨h1,h2⟩)
      refine nt (qr (al 5 h s cv rfl rfl (rfl) rfl λf h=>ak 3 h s cv rfl rfl rfl (rfl) (rfl) (fe (bA (s.getSl 1 rfl))) λw1 s=>e9 ac 1 h rfl λf h=>Y8 (ct 3 rfl h s cv rfl rfl (rfl) rfl (yd ((qv hok).1.trans (Kv j0 (.inr l0))) (FM (E4 hok hrs j0 (Kv j0 (.inr l0)) hnk (by rw [Wo hl0,← (FO hix).1]) hkp hks) (s.sel [1,0] rfl (by decide)))))))
    ·have hl0:¬ 0<L.length:=by have:=Yr hc;omega
     refine kt (qr (al 5 h s cv rfl rfl (rfl) rfl λf h=>bB h s EA (nK L vo _ (hO.keep s.ext) hL hb) rfl rfl ?_));rintro f w1 v46 ⟨vq,K,ks,rfl,hnk,hS⟩ hE h sq;replace s:=s.add hS;clear hS
     have hlk:K.length=L.length:=by have h9:=Yu List.length hnk;simpa [nds] using h9
     refine ak 7 h s cv rfl rfl rfl (rfl) (rfl) (fe (bA (s.getSl 0 rfl))) λw1 s=>nt (cu ac 1 h rfl λf h=>ag (V:=vq) (ae (aJ.of_own s 7 rfl) 0 rfl) h eG rfl rfl λf h=>al 2 h s fU rfl rfl (bN _ _ _ _) rfl λf h=>?_)
     have ho1:=bA (s.getSl 3 rfl)
     have ho2:=bA (s.getSl 4 rfl)
     refine cT (vs:=[.agg (bJ m fc us uf)]) [.tmp 49] h s Z8 rh rfl rfl (AW ((⟨m,fc,[m],[]⟩,us,uf):N3)) rfl rfl rfl λf w1 v50 h s=>?_
     replace s:=s.resl (m:=1) (ys:=yX ((⟨m,fc,[m],[]⟩,us,uf):N3)) 0 rfl rfl (EP ((⟨m,fc,[m],[]⟩,us,uf):N3))
     refine ei 1 0 h s Z8 rh rfl rfl rfl rfl (by decide) (ed ho1 ho2) (by unfold maxLen;omega) (by omega) rfl λf w1 v51 h s=>?_
     replace s:=s.pick _ (YN _ _)
     replace s:=s.resl (m:=(K++[((⟨m,fc,[m],[]⟩,us,uf):N3)]).length) (ys:=aK (K++[((⟨m,fc,[m],[]⟩,us,uf):N3)])) 0 rfl (by rw [Yy];rfl) (AY _ _)
     refine ap ac 1 h rfl λf h=>aR 7 h s eG rfl rfl rfl (by show 0<1;decide) (bA (s.getSl 0 rfl)) λw1 s=>?_
     replace s:=s.recell (D:=#[v51]) 7 rfl rfl
     refine nt (cu ac 1 h rfl λf h=>ag (V:=v51) (ae (aJ.of_own s 7 rfl) 0 rfl) h eG rfl rfl λf h=>?_)
     have hrs:=(ql r0).rs
     have ho9:∀ y∈K++[((⟨m,fc,[m],[]⟩,us,uf):N3)],y.2.1.oneCell'=true/\y.2.2.oneCell'=true:=λy hy=>by rcases Y4.1 hy with hy|hy;exact(s.getG 1 rfl y hy).ones;rw [YF] at hy;subst hy;exact ⟨ho1,ho2⟩
     refine dI [v51,.func (.func 129) #[] #[]] h Gk (wj (K++[((⟨m,fc,[m],[]⟩,us,uf):N3)]) (by rw [Yy];show K.length+1<=1000;omega) ho9 (Ai hrs j0 hnk rfl) v51 _ _ _ s) rfl rfl ?_;rintro f w1 r ⟨K2,hkp,hks,s⟩ h
     replace s:=s.bring 1 rfl
     replace s:=s.bring 4 rfl
     replace s:=s.bring 4 rfl
     replace s:St w [.sl us 69 33 1 (aw [m]),.sl uf 69 33 ([]:List Mb).length (aw []),(.grp ks (jM K)),.sl v51 72 68 K2.length (aK K2),.blk b8 (.cells (bJ m fc us uf) 72),.blk b6 (.cells (#[aj]) 24),.blk b4 (.cells ((az m)) 69),.blk b3 (.cells (#[v51]) 24)] _:=s
     obtain ⟨kn,s⟩:=s.grpR (S':=jM K2) (λw9 h1 h2 h3 y hy=>by rcases Y4.1 (hkp.mem_iff.1 hy) with hy|hy;exact h3 y hy;rw [YF] at hy;subst hy;exact ⟨h1,h2⟩)
     refine nt (qr (al 5 h s cv rfl rfl (rfl) rfl λf h=>ak 3 h s cv rfl rfl rfl (rfl) (rfl) (fe (bA (s.getSl 1 rfl))) λw1 s=>e9 ac 1 h rfl λf h=>Y8 (ct 3 rfl h s cv rfl rfl (rfl) rfl (yd ((qv hok).1.trans (Kv j0 (.inl hl0))) (FM (E4 hok hrs j0 (Kv j0 (.inl hl0)) hnk (by rw [U5 hl0]) hkp hks) (s.sel [1,0] rfl (by decide)))))))
   ·refine aG ?_
    have hok:=Ni r0 h0
    have hnos:=(ql r0).rs.nos
    refine al 5 h s cv rfl rfl (rfl) rfl λf h=>al 4 h s bH rfl rfl (am _) rfl λf h=>m9 true h s HR (rD L vo m _ (hO.keep s.ext) hL hb) (j0) rfl rfl λf w1 h s=>ie h rfl (qr (ai h (gj AG) rfl λf h=>ak 3 h s cv rfl rfl rfl (rfl) (rfl) (fe (rfl)) λw1 s=>e9 ac 1 h rfl λf h=>rt (ct 3 rfl h s cv rfl rfl (rfl) rfl (o4 s ((qv hok).2.trans (Mh (TE j0) (by decide))) ((qv hok).1.trans (TE j0))))))
end Go.Proofs.YtkhepdpfdhdlaaaGreatDoor
