/- Package chord: what its functions answer. -/
import Derived.Test.YthmlflaiidhoiaaGreatDoorZl
import Derived.Test.YthmlflaiidhoiaaGreatDoorZk
import Derived.Test.YthmlflaiidhoiaaGreatDoorSh
set_option linter.unusedVariables false
namespace Go.Proofs.YthmlflaiidhoiaaGreatDoor
open Go.RowKit
theorem kW (L:List N3) (vo:Value) (w:World) (hO:kr w vo L) (hL:L.length<=40) (hb:RwB L):Calls Tryz.prog 32 [.agg #[vo]].toArray w (cb w (is (.bool (kK L)))):=by
 have hml:(aN L).length<=1000:=by rw [aL1];omega
 refine go Tryz.func32 rfl Tryz.ntmps32 rfl [(0,.agg #[vo])] (by simp) λf h=>?_
 have s:=St.start w
 refine qr (aV (#[vo]) h s rfl rfl rfl λf w1 b1 h s=>aK (#[.bool false]) h s ET rfl rfl λf w1 b2 h s=>nt (qr (ak 1 h s bN rfl rfl (rfl) rfl λf h=>aY h s AO (hQ L vo _ (hO.keep s.ext) hL) rfl rfl ?_)));intro f w1 v6 hT hE h sq;replace s:=s.sl_new hE hT
 refine e9 ac 1 h rfl λf h=>ah (ah ?_)
 refine rs ac 1 h rfl λf h=>fh h s Oa (qu (aN L) v6 _ (bs.of_own (s.getSl 0 rfl)) hml) rfl rfl (λr0 f w1 h s=>?_) (λr0 f w1 h s=>?_)
 ·refine e9 ac 6 h rfl λf h=>dG h rfl (qr (aM 1 h s dq rfl rfl rfl (by simp) (rfl) λw1 s=>nt (rt ?_)))
  exact lZ 1 rfl h s dq rfl rfl rfl (λw9=>(aH3 Value.bool (Vc r0)).symm)
 ·skip
  refine am ac 3 h rfl λf h=>cy h rfl (fh h s Y1 (ya (aN L) v6 _ (bs.of_own (s.getSl 0 rfl)) hml) rfl rfl (λr1 f w1 h s=>?_) (λr1 f w1 h s=>?_))
  ·refine e9 ac 2 h rfl λf h=>dG h rfl (qr (aM 1 h s dq rfl rfl rfl (by simp) (rfl) λw1 s=>nt (rt ?_)))
   exact lZ 1 rfl h s dq rfl rfl rfl (λw9=>(aH3 Value.bool (VH r1)).symm)
  ·refine e9 ac 2 h rfl λf h=>nH h rfl (ah (qr (ak 2 h s bN rfl rfl (rfl) rfl λf h=>cM [.agg #[vo]] h ub (jH vo _ _ _ s) rfl rfl ?_)));rintro f w1 r ⟨bn,rfl,s⟩ h
   refine nt (aL4 (gr (λd A9=>A9=[.sl v6 60 33 (aN L).length (aq (aN L)),.blk b2 (.cells #[.bool false] 4),.blk b1 (.cells #[vo] 24)]) [.sl v6 60 33 (aN L).length (aq (aN L)),.blk b2 (.cells #[.bool false] 4),.blk b1 (.cells #[vo] 24)] [.blk bn (.cells #[vo] 24)] (L.length) (KJ L) (λd=>[Value.pointer (some (bO vo (d*68)))]) h s rfl uA (List.Perm.refl _) (rfl) (λ_=>rfl) ?_ ?_ ?_ ?_))
   ·intro lp w2 GG g0 hg0 s2 hY;exact iD L.length (by omega) vo _ _ hO.1 lp bn (KJ L) GG g0 w w2 s2 hg0 hY
   ·intro lp D9 d9 rc R9 A9 w2 hd9 hq9 hJ9 s
    obtain rfl:=hJ9
    have h:=Sl.round1 (p:=17) (V:=.pointer (some (bO vo (d9*68)))) h rfl
    have hdl9:=hd9
    refine re ac 1 h rfl λf h=>⟨_,s,λw3 s=>?_⟩
    refine aL4 (ah ?_)
    cases k0:(ex (L.getD d9 z3).1:Bool)
    ·refine dJ 13 h (by kernel_rfl) ?_
     have hx9:=hb.each _ (ci hdl9)
     refine ay ac 2 h rfl λf h=>bh ((hO.1.keep s.ext).el (d9) (by omega) (by decide) (D:=bu (L.getD d9 z3).1.me (L.getD d9 z3).1.pr (L.getD d9 z3).2.1 (L.getD d9 z3).2.2) (g5 L d9 hdl9)) h dl rfl (aP _ _ _ _) rfl λf h=>bF h EV (λw9 hE9=>aR (.bool false) (ld (L.getD d9 z3).1 (L.getD d9 z3).2.1 (L.getD d9 z3).2.2 w9 ((hO.2 _ (ci hdl9)).1.keep (s.ext.trans hE9)) ((hO.2 _ (ci hdl9)).2.keep (s.ext.trans hE9)) (by omega) (by omega)) (aH3 Value.bool k0)) rfl rfl λf h=>ay ac 9 h rfl λf h=>bY s λw1 s=>iY h rfl (qr (aM 3 h s dq rfl rfl rfl (by simp) (rfl) λw1 s=>nt (aL3 (bA (⟨(at7 k0),_,rfl,s.pick _ ?_⟩)))))
     exact aG7 _ (List.Sublist.refl _)
    ·skip
     cases k1:((bp (L.getD d9 z3).1).any (oG L):Bool)
     ·refine dJ 13 h (by kernel_rfl) ?_
      have hx9:=hb.each _ (ci hdl9)
      refine ay ac 2 h rfl λf h=>bh ((hO.1.keep s.ext).el (d9) (by omega) (by decide) (D:=bu (L.getD d9 z3).1.me (L.getD d9 z3).1.pr (L.getD d9 z3).2.1 (L.getD d9 z3).2.2) (g5 L d9 hdl9)) h dl rfl (aP _ _ _ _) rfl λf h=>bF h EV (λw9 hE9=>aR (.bool true) (ld (L.getD d9 z3).1 (L.getD d9 z3).2.1 (L.getD d9 z3).2.2 w9 ((hO.2 _ (ci hdl9)).1.keep (s.ext.trans hE9)) ((hO.2 _ (ci hdl9)).2.keep (s.ext.trans hE9)) (by omega) (by omega)) (aH3 Value.bool k0)) rfl rfl λf h=>ay ac 4 h rfl λf h=>bL h rfl (bh ((hO.1.keep s.ext).el (d9) (by omega) (by decide) (D:=bu (L.getD d9 z3).1.me (L.getD d9 z3).1.pr (L.getD d9 z3).2.1 (L.getD d9 z3).2.2) (g5 L d9 hdl9)) h dl rfl (aP _ _ _ _) rfl λf h=>bL h rfl (aT 4 h s bN rfl rfl (rfl) rfl λf h=>bL h rfl (bF h TE (λw9 hE9=>aR (.bool true) (wT (L.getD d9 z3).1 (L.getD d9 z3).2.1 (L.getD d9 z3).2.2 L vo w9 ((hO.2 _ (ci hdl9)).1.keep (s.ext.trans hE9)) ((hO.2 _ (ci hdl9)).2.keep (s.ext.trans hE9)) (by omega) (by omega) (hO.keep (s.ext.trans hE9)) hL) (by rw [k1];rfl)) rfl rfl λf h=>ay ac 2 h rfl λf h=>bY s λw1 s=>wV h rfl (wpIn_skip (aW (⟨((ac0 k0).trans k1),_,rfl,s.pick _ ?_⟩))))))
      exact aG7 _ (List.Sublist.refl _)
     ·refine dJ 13 h (by kernel_rfl) ?_
      have hx9:=hb.each _ (ci hdl9)
      refine ay ac 2 h rfl λf h=>bh ((hO.1.keep s.ext).el (d9) (by omega) (by decide) (D:=bu (L.getD d9 z3).1.me (L.getD d9 z3).1.pr (L.getD d9 z3).2.1 (L.getD d9 z3).2.2) (g5 L d9 hdl9)) h dl rfl (aP _ _ _ _) rfl λf h=>bF h EV (λw9 hE9=>aR (.bool true) (ld (L.getD d9 z3).1 (L.getD d9 z3).2.1 (L.getD d9 z3).2.2 w9 ((hO.2 _ (ci hdl9)).1.keep (s.ext.trans hE9)) ((hO.2 _ (ci hdl9)).2.keep (s.ext.trans hE9)) (by omega) (by omega)) (aH3 Value.bool k0)) rfl rfl λf h=>ay ac 4 h rfl λf h=>bL h rfl (bh ((hO.1.keep s.ext).el (d9) (by omega) (by decide) (D:=bu (L.getD d9 z3).1.me (L.getD d9 z3).1.pr (L.getD d9 z3).2.1 (L.getD d9 z3).2.2) (g5 L d9 hdl9)) h dl rfl (aP _ _ _ _) rfl λf h=>bL h rfl (aT 4 h s bN rfl rfl (rfl) rfl λf h=>bL h rfl (bF h TE (λw9 hE9=>aR (.bool false) (wT (L.getD d9 z3).1 (L.getD d9 z3).2.1 (L.getD d9 z3).2.2 L vo w9 ((hO.2 _ (ci hdl9)).1.keep (s.ext.trans hE9)) ((hO.2 _ (ci hdl9)).2.keep (s.ext.trans hE9)) (by omega) (by omega) (hO.keep (s.ext.trans hE9)) hL) (by rw [k1];rfl)) rfl rfl λf h=>ay ac 2 h rfl λf h=>bY s λw1 s=>iY h rfl (qr (aM 3 h s dq rfl rfl rfl (by simp) (rfl) λw1 s=>nt (aL3 (bA (⟨((ac0 k0).trans k1),_,rfl,s.pick _ ?_⟩))))))))
      exact aG7 _ (List.Sublist.refl _)
   ·intro D9 A9 w2 hJ9 hq9 s
    obtain rfl:=hJ9
    replace h:Sl _ {f with defers:={target:=.collected D9,args:=#[]}::f.defers} _ [{target:=.collected D9,args:=#[]}]:=⟨h.size,by rw [h.defers],h.holds⟩
    refine aW (aD (qr (aM 3 h s dq rfl rfl rfl (by simp) (rfl) λw1 s=>nt (aL3 ?_))))
    exact iK 3 0 rfl h s dq rfl rfl rfl rfl rfl (λw9=>(aH3 Value.bool (Ry r0 r1 hq9)).symm)
   ·intro D9 d9 A9 w2 hd9 hqd9 hq9 hJ9 s
    obtain rfl:=hJ9
    replace h:Sl _ {f with defers:={target:=.collected D9,args:=#[]}::f.defers} _ [{target:=.collected D9,args:=#[]}]:=⟨h.size,by rw [h.defers],h.holds⟩
    refine bA (aS ?_)
    exact iK 3 0 rfl h s dq rfl rfl rfl rfl rfl (λw9=>(aH3 Value.bool (Pc r0 r1 hd9 hqd9)).symm)
set_option maxHeartbeats 1000000 in
theorem Ik (L:List N3) (vo:Value) (m:Mb) (no:Int) (w:World) (hO:kr w vo L) (hL:L.length<=40) (hb:RwB L):Calls Tryz.prog 95 [.agg #[vo],.agg (ar m),.int .i64 no].toArray w (cb w (OvE w (wZ vo L) (nB L m no) (lG L m no))):=by
 refine bK Tryz.func95 rfl Tryz.ntmps95 rfl λf h s=>qr (aV (#[vo]) h s rfl rfl rfl λf w1 b3 h s=>aV ((ar m)) h s rfl rfl rfl λf w1 b4 h s=>aK (#[ax]) h s j5 rfl rfl λf w1 b6 h s=>e9 ac 1 h rfl λf h=>ah (ah ?_))
 refine aw (ak 2 h s bN rfl rfl (rfl) rfl λf h=>fh h s FJ (kW L vo _ (hO.keep s.ext) hL hb) rfl rfl (λr0 f w1 h s=>?_) (λr0 f w1 h s=>?_))
 ·refine e9 ac 1 h rfl λf h=>dG h rfl (qr (ai h (d6 nL) rfl λf h=>al 0 h s bN rfl rfl rfl (rfl) (rfl) (cN (rfl)) λw1 s=>e9 ac 1 h rfl λf h=>rt (cc 0 rfl h s bN rfl rfl (rfl) rfl (qy s (y9 (Te r0)).2 (y9 (Te r0)).1))))
 ·refine e9 ac 1 h rfl λf h=>nH h rfl (ah ?_)
  cases h0:(im m:Bool)
  ·refine aw (ak 1 h s aQ rfl rfl (aj _) rfl λf h=>aY h s M9 (vM m _) rfl rfl ?_);rintro f w1 v17 ⟨us,uf,rfl,hS⟩ hE h sq;rw [(B5 h0).1,(B5 h0).2] at h;rw [(B5 h0).1] at hS;replace s:=s.add hS;clear hS
   refine am ac 3 h rfl λf h=>aK (bu bH bH ax ax) h s kJ rfl rfl λf w1 b8 h s=>al 0 h s dl rfl rfl rfl (aP _ _ _ _) (aP _ _ _ _) (cI (bk (s.getSl 1 rfl)) (bk (s.getSl 2 rfl))) λw1 s=>e9 ac 1 h rfl λf h=>ah (bU ac 1 h rfl λf h=>gW ac (.bool true) h rfl (by rfl) rfl λf h=>iY h rfl (qr (ai h (d6 nL) rfl λf h=>am ac 1 h rfl λf h=>al 3 h s bN rfl rfl rfl (rfl) (rfl) (cN (rfl)) λw1 s=>e9 ac 1 h rfl λf h=>rt (cc 3 rfl h s bN rfl rfl (rfl) rfl (qy s (y9 (TG h0)).2 (y9 (TG h0)).1)))))
  ·refine aw (ak 1 h s aQ rfl rfl (aj _) rfl λf h=>aY h s M9 (vM m _) rfl rfl ?_);rintro f w1 v17 ⟨us,uf,rfl,hS⟩ hE h sq;rw [(B6 h0).1,(B6 h0).2] at h;rw [(B6 h0).1] at hS;replace s:=s.add hS;clear hS
   replace s:=s.resl (m:=1) (ys:=aq [m]) 0 rfl rfl rfl
   refine am ac 3 h rfl λf h=>aK (bu bH bH ax ax) h s kJ rfl rfl λf w1 b8 h s=>al 0 h s dl rfl rfl rfl (aP _ _ _ _) (aP _ _ _ _) (cI (bk (s.getSl 1 rfl)) (bk (s.getSl 2 rfl))) λw1 s=>e9 ac 1 h rfl λf h=>ah (bU ac 1 h rfl λf h=>gW ac (.bool false) h rfl (by rfl) rfl λf h=>gS h rfl (ah (ah ?_)))
   cases j0:(zH L m:Bool)
   ·refine aw ?_
    have hok:=TZ r0 h0
    have hnos:=(jw r0).rs.nos
    refine ak 5 h s bN rfl rfl (rfl) rfl λf h=>ak 4 h s aQ rfl rfl (aj _) rfl λf h=>jD false h s Lf (vL L vo m _ (hO.keep s.ext) hL hb) (j0) rfl rfl λf w1 h s=>gS h rfl (ah (bU ac 1 h rfl λf h=>ag (V:=vo) (ae (aJ.of_own s 5 rfl) 0 rfl) h fE rfl rfl λf h=>ck h (hO.1.keep s.ext) aR5 rfl rfl λf h=>e9 ac 1 h rfl λf h=>bV h rfl (λhc=>?_) (λhc=>?_)))
    ·have hl0:0<L.length:=by have:=aG9 hc;omega
     refine ah ?_
     cases l0:(dd (aN L) no:Bool)
     ·refine aw (ak 5 h s bN rfl rfl (rfl) rfl λf h=>am ac 1 h rfl λf h=>dF h s oh (aR (.pointer none) (iw L vo no _ (hO.keep s.ext) hL) (FI (aH0 ((jy hnos).trans l0)))) rfl rfl λf w1 h s=>e9 ac 1 h rfl λf h=>ah (bU ac 1 h rfl λf h=>ai h (bz (.bool true) (gO aS6 (h.ev rfl) (h.ev rfl)) (rfl)) rfl λf h=>iY h rfl (qr (ai h (d6 nL) rfl λf h=>al 3 h s bN rfl rfl rfl (rfl) (rfl) (cN (rfl)) λw1 s=>e9 ac 1 h rfl λf h=>rt (aS (cc 3 rfl h s bN rfl rfl (rfl) rfl (qy s ((sI hok).2.trans (Ti (Ue j0 hl0 l0) (by decide))) ((sI hok).1.trans (Ue j0 hl0 l0)))))))))
     ·refine aw (ak 5 h s bN rfl rfl (rfl) rfl λf h=>am ac 1 h rfl λf h=>dF h s oh (aR (.pointer (some (bO vo (eQ L no*68)))) (iw L vo no _ (hO.keep s.ext) hL) (AI (aG9 ((jy hnos).trans l0)))) rfl rfl λf w1 h s=>e9 ac 1 h rfl λf h=>ah (qr ?_))
      have hix:eQ L no<L.length:=aG9 ((jy hnos).trans l0)
      refine am ac 1 h rfl λf h=>ai h (bz (.bool false) (gO aS6 (h.ev rfl) (h.ev rfl)) (rfl)) rfl λf h=>gS h rfl (dJ 7 h (by kernel_rfl) (ay ac 1 h rfl λf h=>aB (V:=us) (ae (aJ.of_own s 0 rfl) 66 (gn _ _ _ _)) h dS rfl rfl λf h=>ay ac 2 h rfl λf h=>aF h (bq f5 (h.ev rfl) ((hO.1.keep s.ext).some (by omega))) rfl λf h=>bh (bs.elF (hO.1.keep s.ext) (eQ L no) 0 33 (by omega) (by decide) (C:=bu (L.getD (eQ L no) z3).1.me (L.getD (eQ L no) z3).1.pr (L.getD (eQ L no) z3).2.1 (L.getD (eQ L no) z3).2.2) (g5 L _ hix) (D:=ar (L.getD (eQ L no) z3).1.me) (dE _ _ _ _)) h aQ rfl (aj _) rfl λf h=>aF h (bj (bs.of_own (s.getSl 1 rfl)) (0) aS2 dX (h.ev rfl) (h.ev rfl) (by omega) (by omega)) rfl λf h=>bY s λw1 s=>fI 1 (0) h s aQ rfl rfl rfl (aj _) (by omega) (bD _) (show _=aq [(L.getD (eQ L no) z3).1.me] from DJ (l:=[m]) _ Nat.zero_lt_one) λw1 s=>nt (qr (ak 5 h s bN rfl rfl (rfl) rfl λf h=>aY h s Ez (lR L vo _ (hO.keep s.ext) hL hb) rfl rfl ?_))));rintro f w1 v46 ⟨vq,K,ks,rfl,hnk,hS⟩ hE h sq;replace s:=s.add hS;clear hS
      have hlk:K.length=L.length:=by have h9:=aH3 List.length hnk;simpa [nds] using h9
      refine al 7 h s bN rfl rfl rfl (rfl) (rfl) (cN (bk (s.getSl 0 rfl))) λw1 s=>nt (bU ac 1 h rfl λf h=>ag (V:=vq) (ae (aJ.of_own s 7 rfl) 0 rfl) h fE rfl rfl λf h=>ak 2 h s dl rfl rfl (aP _ _ _ _) rfl λf h=>?_)
      have ho1:=bk (s.getSl 3 rfl)
      have ho2:=bk (s.getSl 4 rfl)
      refine cf (vs:=[.agg (bu m i1 us uf)]) [.tmp 49] h s aR5 xk rfl rfl (GJ ((⟨m,i1,[(L.getD (eQ L no) z3).1.me],[]⟩,us,uf):N3)) rfl rfl rfl λf w1 v50 h s=>?_
      replace s:=s.resl (m:=1) (ys:=za ((⟨m,i1,[(L.getD (eQ L no) z3).1.me],[]⟩,us,uf):N3)) 0 rfl rfl (LJ ((⟨m,i1,[(L.getD (eQ L no) z3).1.me],[]⟩,us,uf):N3))
      refine dD 1 0 h s aR5 xk rfl rfl rfl rfl (by decide) (cI ho1 ho2) (by unfold maxLen;omega) (by omega) rfl λf w1 v51 h s=>?_
      replace s:=s.pick _ (aJ2 _ _)
      replace s:=s.resl (m:=(K++[((⟨m,i1,[(L.getD (eQ L no) z3).1.me],[]⟩,us,uf):N3)]).length) (ys:=aI (K++[((⟨m,i1,[(L.getD (eQ L no) z3).1.me],[]⟩,us,uf):N3)])) 0 rfl (by rw [aH7];rfl) (FX _ _)
      refine am ac 1 h rfl λf h=>aM 7 h s fE rfl rfl rfl (by show 0<1;decide) (bk (s.getSl 0 rfl)) λw1 s=>?_
      replace s:=s.recell (D:=#[v51]) 7 rfl rfl
      refine nt (bU ac 1 h rfl λf h=>ag (V:=v51) (ae (aJ.of_own s 7 rfl) 0 rfl) h fE rfl rfl λf h=>?_)
      have hrs:=(jw r0).rs
      have ho9:∀ y∈K++[((⟨m,i1,[(L.getD (eQ L no) z3).1.me],[]⟩,us,uf):N3)],y.2.1.oneCell'=true/\y.2.2.oneCell'=true:=λy hy=>by rcases aK9.1 hy with hy|hy;exact(s.getG 1 rfl y hy).ones;rw [aI4] at hy;subst hy;exact ⟨ho1,ho2⟩
      refine cM [v51,.func (.func 150) #[] #[]] h MR (Be (K++[((⟨m,i1,[(L.getD (eQ L no) z3).1.me],[]⟩,us,uf):N3)]) (by rw [aH7];show K.length+1<=1000;omega) ho9 (Gy hrs j0 hnk rfl) v51 _ _ _ s) rfl rfl ?_;rintro f w1 r ⟨K2,hkp,hks,s⟩ h
      replace s:=s.bring 1 rfl
      replace s:=s.bring 4 rfl
      replace s:=s.bring 4 rfl
      obtain ⟨kn,s⟩:=s.grpR (S':=iZ K2) (λw9 h1 h2 h3 y hy=>by rcases aK9.1 (hkp.mem_iff.1 hy) with hy|hy;exact h3 y hy;rw [aI4] at hy;subst hy;exact ⟨h1,h2⟩)
      refine nt (qr (ak 5 h s bN rfl rfl (rfl) rfl λf h=>al 3 h s bN rfl rfl rfl (rfl) (rfl) (cN (bk (s.getSl 1 rfl))) λw1 s=>e9 ac 1 h rfl λf h=>aL3 (cc 3 rfl h s bN rfl rfl (rfl) rfl (DR ((sI hok).1.trans (PA j0 (.inr l0))) (Lx (JS hok hrs j0 (PA j0 (.inr l0)) hnk (by rw [as6 hl0,← (Cu hix).1]) hkp hks) (s.sel [1,0] rfl (by decide)))))))
    ·have hl0:¬ 0<L.length:=by have:=aH0 hc;omega
     refine kt (qr (ak 5 h s bN rfl rfl (rfl) rfl λf h=>aY h s Ez (lR L vo _ (hO.keep s.ext) hL hb) rfl rfl ?_));rintro f w1 v46 ⟨vq,K,ks,rfl,hnk,hS⟩ hE h sq;replace s:=s.add hS;clear hS
     have hlk:K.length=L.length:=by have h9:=aH3 List.length hnk;simpa [nds] using h9
     refine al 7 h s bN rfl rfl rfl (rfl) (rfl) (cN (bk (s.getSl 0 rfl))) λw1 s=>nt (bU ac 1 h rfl λf h=>ag (V:=vq) (ae (aJ.of_own s 7 rfl) 0 rfl) h fE rfl rfl λf h=>ak 2 h s dl rfl rfl (aP _ _ _ _) rfl λf h=>?_)
     have ho1:=bk (s.getSl 3 rfl)
     have ho2:=bk (s.getSl 4 rfl)
     refine cf (vs:=[.agg (bu m i1 us uf)]) [.tmp 49] h s aR5 xk rfl rfl (GJ ((⟨m,i1,[m],[]⟩,us,uf):N3)) rfl rfl rfl λf w1 v50 h s=>?_
     replace s:=s.resl (m:=1) (ys:=za ((⟨m,i1,[m],[]⟩,us,uf):N3)) 0 rfl rfl (LJ ((⟨m,i1,[m],[]⟩,us,uf):N3))
     refine dD 1 0 h s aR5 xk rfl rfl rfl rfl (by decide) (cI ho1 ho2) (by unfold maxLen;omega) (by omega) rfl λf w1 v51 h s=>?_
     replace s:=s.pick _ (aJ2 _ _)
     replace s:=s.resl (m:=(K++[((⟨m,i1,[m],[]⟩,us,uf):N3)]).length) (ys:=aI (K++[((⟨m,i1,[m],[]⟩,us,uf):N3)])) 0 rfl (by rw [aH7];rfl) (FX _ _)
     refine am ac 1 h rfl λf h=>aM 7 h s fE rfl rfl rfl (by show 0<1;decide) (bk (s.getSl 0 rfl)) λw1 s=>?_
     replace s:=s.recell (D:=#[v51]) 7 rfl rfl
     refine nt (bU ac 1 h rfl λf h=>ag (V:=v51) (ae (aJ.of_own s 7 rfl) 0 rfl) h fE rfl rfl λf h=>?_)
     have hrs:=(jw r0).rs
     have ho9:∀ y∈K++[((⟨m,i1,[m],[]⟩,us,uf):N3)],y.2.1.oneCell'=true/\y.2.2.oneCell'=true:=λy hy=>by rcases aK9.1 hy with hy|hy;exact(s.getG 1 rfl y hy).ones;rw [aI4] at hy;subst hy;exact ⟨ho1,ho2⟩
     refine cM [v51,.func (.func 150) #[] #[]] h MR (Be (K++[((⟨m,i1,[m],[]⟩,us,uf):N3)]) (by rw [aH7];show K.length+1<=1000;omega) ho9 (Gy hrs j0 hnk rfl) v51 _ _ _ s) rfl rfl ?_;rintro f w1 r ⟨K2,hkp,hks,s⟩ h
     replace s:=s.bring 1 rfl
     replace s:=s.bring 4 rfl
     replace s:=s.bring 4 rfl
     obtain ⟨kn,s⟩:=s.grpR (S':=iZ K2) (λw9 h1 h2 h3 y hy=>by rcases aK9.1 (hkp.mem_iff.1 hy) with hy|hy;exact h3 y hy;rw [aI4] at hy;subst hy;exact ⟨h1,h2⟩)
     refine nt (qr (ak 5 h s bN rfl rfl (rfl) rfl λf h=>al 3 h s bN rfl rfl rfl (rfl) (rfl) (cN (bk (s.getSl 1 rfl))) λw1 s=>e9 ac 1 h rfl λf h=>aL3 (cc 3 rfl h s bN rfl rfl (rfl) rfl (DR ((sI hok).1.trans (PA j0 (.inl hl0))) (Lx (JS hok hrs j0 (PA j0 (.inl hl0)) hnk (by rw [aw9 hl0]) hkp hks) (s.sel [1,0] rfl (by decide)))))))
   ·refine aw ?_
    have hok:=TZ r0 h0
    have hnos:=(jw r0).rs.nos
    refine ak 5 h s bN rfl rfl (rfl) rfl λf h=>ak 4 h s aQ rfl rfl (aj _) rfl λf h=>jD true h s Lf (vL L vo m _ (hO.keep s.ext) hL hb) (j0) rfl rfl λf w1 h s=>iY h rfl (qr (ai h (d6 nL) rfl λf h=>al 3 h s bN rfl rfl rfl (rfl) (rfl) (cN (rfl)) λw1 s=>e9 ac 1 h rfl λf h=>rt (cc 3 rfl h s bN rfl rfl (rfl) rfl (qy s ((sI hok).2.trans (Ti (Yx j0) (by decide))) ((sI hok).1.trans (Yx j0))))))
theorem NG (l:List Mb) (vh:Value) (x9:Id) (bx:Nat) (w:World) (hR:bs w vh 33 l.length (aq l)) (hln:l.length<=1000) (hb:gq w bx (aH x9)) (h0:0<l.length):Calls Tryz.prog 137 [vh,.func (.func 87) #[] #[.pointer (some ⟨bx,0,none⟩)]].toArray w (cb w (is (.agg (ar (rQ (oz x9) l (l.length - 1)))))):=by
 refine bK Tryz.func137 rfl Tryz.ntmps137 rfl λf h s=>qr (aK (ar bH) h s em rfl rfl λf w1 b4 h s=>nt (ah (bU ac 1 h rfl λf h=>ck h (hR.keep s.ext) aS2 rfl rfl λf h=>e9 ac 1 h rfl λf h=>bV h rfl (λhc=>?_) (λhc=>?_))))
 ·replace hc:=aG9 hc
  exfalso;omega
 ·refine kt (bU ac 1 h rfl λf h=>ai h (bj (hR.keep s.ext) (0) aS2 dX (h.ev rfl) (h.ev rfl) (by omega) (by omega)) rfl λf h=>ap ((hR.keep s.ext).el (0) (by omega) (by decide) (D:=ar (l.getD 0 bH)) (eM l 0 h0)) h aQ rfl (aj _) rfl λf h=>aK (ar bH) h s em rfl rfl λf w1 b5 h s=>al 0 h s aQ rfl rfl rfl (aj _) (aj _) (bD _) λw1 s=>nt (ah (bE ac 1 h rfl λf h=>aL4 (aL6 (λnn aa ww=>∃ k:Nat,Sl 33 aa [(0,vh),(4,.pointer (some ⟨b4,0,none⟩)),(5,.pointer (some ⟨b5,0,none⟩)),(1,.func (.func 87) #[] #[.pointer (some ⟨bx,0,none⟩)]),(6,.int .i64 ((k:Int)+1))]/\St w [.blk b5 (.cells (ar (rQ (oz x9) l k)) 60),.blk b4 (.cells (ar bH) 60)] ww/\nn=l.length - k/\k+1<=l.length) (l.length - (0)) ⟨0,h.only ⟨rfl,rfl,rfl,rfl,rfl,trivial⟩,s.as ⟨rfl,rfl,trivial⟩,rfl,by omega⟩ ?_))))
  rintro _ f w1 ⟨k,h,s,hnn,hp0⟩
  refine ah (bU ac 2 h rfl λf h=>ck h (hR.keep s.ext) aS2 rfl rfl λf h=>e9 ac 1 h rfl λf h=>cB h rfl (λhc=>?_) (λhc=>?_))
  ·refine kt (ah (aL4 (ah (dJ 8 h (by kernel_rfl) (ay ac 2 h rfl λf h=>?_)))))
   have hkl:k+1<l.length:=by omega
   refine ay ac 1 h rfl λf h=>aF h (bj (hR.keep s.ext) (k+1) aS2 dX (h.ev rfl) (h.ev rfl) (by omega) (by omega)) rfl λf h=>bh ((hR.keep s.ext).el (k+1) (by omega) (by decide) (D:=ar (l.getD (k+1) bH)) (eM l (k+1) hkl)) h aQ rfl (aj _) rfl λf h=>aT 0 h s aQ rfl rfl (aj _) rfl λf h=>jP [.agg (ar (l.getD (k+1) bH)),.agg (ar (rQ (oz x9) l k))] (caps:=[.pointer (some ⟨bx,0,none⟩)]) h T3 rfl (λw9 h9=>og _ _ x9 bx w9 (hb.keep (s.ext.trans h9))) rfl rfl ?_;intro f h
   refine aF h (bz (.bool (decide (fd x9 (rQ (oz x9) l k).2<fd x9 (l.getD (k+1) bH).2))) (Jp (h.ev rfl) (h.ev rfl)) (aH3 Value.bool (Qx _ _ _))) rfl λf h=>bY s λw1 s=>nt (cB h rfl (λhc=>?_) (λhc=>?_))
   ·refine rs ac 2 h rfl λf h=>ai h (bj (hR.keep s.ext) (k+1) aS2 dX (h.ev rfl) (h.ev rfl) (by omega) (by omega)) rfl λf h=>ap ((hR.keep s.ext).el (k+1) (by omega) (by decide) (D:=ar (l.getD (k+1) bH)) (eM l (k+1) hkl)) h aQ rfl (aj _) rfl λf h=>al 0 h s aQ rfl rfl rfl (aj _) (aj _) (bD _) λw1 s=>az (aW (aD (rs ac 1 h rfl λf h=>ai h (bo (h.ev rfl) (h.ev rfl) (by omega)) rfl λf h=>e9 ac 1 h rfl λf h=>?_)))
    exact ⟨_,by omega,⟨k+1,h.only ⟨rfl,rfl,rfl,rfl,ao rfl (by omega),trivial⟩,St.as s ⟨fL (aH3 ar (RL (f:=oz x9) hc).symm),rfl,trivial⟩,rfl,by omega⟩⟩
   ·refine wpIn_skip (aW (aD (rs ac 1 h rfl λf h=>ai h (bo (h.ev rfl) (h.ev rfl) (by omega)) rfl λf h=>e9 ac 1 h rfl λf h=>?_)))
    exact ⟨_,by omega,⟨k+1,h.only ⟨rfl,rfl,rfl,rfl,ao rfl (by omega),trivial⟩,St.as s ⟨fL (aH3 ar (WB (f:=oz x9) hc).symm),rfl,trivial⟩,rfl,by omega⟩⟩
  ·refine aL5 (aO (aO (bS (aD (qr (ak 0 h s aQ rfl rfl (aj _) rfl λf h=>al 1 h s aQ rfl rfl rfl (aj _) (aj _) (bD _) λw1 s=>nt (aL3 (lH 1 rfl h s aQ rfl rfl (aj _) ((by obtain rfl:k=l.length - 1:=(by omega);exact rfl))))))))))
theorem KL (l:List Mb) (hg:Rg l) (x9:Id) (v:Value) (bx:Nat) (B9:List Own) (w0 w:World) (s:St w0 (.sl v 60 33 l.length (aq l)::B9) w) (hb:gq w0 bx (aH x9)):
 Calls Tryz.prog 246 [v,.func (.func 87) #[] #[.pointer (some ⟨bx,0,none⟩)]].toArray w (λe w'=>∃ r,e=.returned r/\St w0 (.sl v 60 33 l.length (aq (gI x9 l))::B9) w'):=by
 by_cases h0:l.length=0
 ·have hl:l=[]:=List.eq_nil_of_length_eq_zero h0
  subst hl
  obtain ⟨a,c,rfl⟩:=d5 (s.getSl 0 rfl)
  refine(Go.Proofs.AnyF.slices_SortFunc_none (P:=Tryz.prog) (ρ:=Tryz.layG_ren) Tryz.layG a c (.func (.func 87) #[] #[.pointer (some ⟨bx,0,none⟩)]) w).mono ?_
  rintro e w' ⟨rfl,rfl⟩
  refine ⟨_,rfl,?_⟩
  rw [Pu]
  exact s
 ·obtain ⟨g,cap,rfl,hlt,hgo,hH,hst⟩:=RU s rfl (by omega)
  have hT:∀ m os d,gq (Go.Proofs.sortWorldK nq 33 w g 0 m d os) bx (aH x9):=λm os d=>by
   obtain ⟨t,fr,h1⟩:=hb
   have h2:=(aO1.1 h1).1
   have h3:=s.ext.le
   refine ⟨t,fr,?_⟩
   rw [ra w g m d os (by omega) (by omega),s.ext.block bx h2]
   exact h1
  have hcon:=Go.Proofs.AnyQ.slices_SortFunc (P:=Tryz.prog) (ρ:=Tryz.layG_ren) Tryz.layG 33 Tryz.isAgg60 Tryz.sizeOf60 nq cD mB (λx y:Mb=>ei (x.2 - x9) (y.2 - x9)) (O9 x9) 87 #[.pointer (some ⟨bx,0,none⟩)] g 0 cap l.toArray w (enters_of Tryz.func87 (by kernel_rfl) rfl) (λm os dk _ x y=>by
   have h9:=og x y x9 bx _ (hT m os dk)
   refine h9.mono ?_
   rintro e w' ⟨v,rfl,hv,hE⟩
   obtain rfl:=hv
   exact ⟨rfl,sA hE⟩) hH hlt (by have:=hg.len;rw [List.size_toArray];omega)
  refine hcon.mono ?_
  rintro e w' ⟨rfl,d',n,os,hp,hs,rfl⟩
  have s2:=hst n os d' hp.1
  rw [EA hg x9 hp hs] at s2
  exact ⟨_,rfl,s2⟩
theorem Bo (l:List Mb) (vh:Value) (bv bx:Nat) (x9:Id) (w:World) (hR:bs w vh 33 l.length (aq l)) (hln:l.length<=1000) (hg:Rg l) (hv:gq w bv #[vh]) (hb:gq w bx (aH x9)):Calls Tryz.prog 208 [.func (.func 243) #[] #[.pointer (some ⟨bv,0,none⟩)],.func (.func 87) #[] #[.pointer (some ⟨bx,0,none⟩)]].toArray w (cb w (λv w'=>cF w' w.heap.size 60 33 v l.length (aq (gI x9 l)))):=by
 refine bK Tryz.func208 rfl Tryz.ntmps208 rfl λf h s=>bE ac 1 h rfl λf h=>bU ac 1 h rfl λf h=>aY h s Vj (zU l vh bv _ (hR.keep s.ext) hln (hv.keep s.ext)) rfl rfl ?_;intro f w1 v7 hT hE h sq;replace s:=s.sl_new hE hT
 refine e9 ac 1 h rfl λf h=>bU ac 2 h rfl λf h=>cM [v7,.func (.func 87) #[] #[.pointer (some ⟨bx,0,none⟩)]] h U9 (KL l hg x9 v7 bx [] _ _ s hb) rfl rfl ?_;rintro f w1 v10 s h
 refine nt (bE ac 2 h rfl λf h=>aL3 (av rfl h s rfl ((s.getSl 0 rfl))))
theorem oO (L:List N3) (vo:Value) (no:Int) (w:World) (hO:kr w vo L) (hL:L.length<=40) (hb:RwB L):Calls Tryz.prog 159 [.agg #[vo],.int .i64 no].toArray w (cb w (ZD w 63 L no)):=by
 refine bK Tryz.func159 rfl Tryz.ntmps159 rfl λf h s=>qr (aV (#[vo]) h s rfl rfl rfl λf w1 b2 h s=>aK (#[ax]) h s j5 rfl rfl λf w1 b4 h s=>e9 ac 2 h rfl λf h=>ah (ah ?_))
 refine aw (ak 1 h s bN rfl rfl (rfl) rfl λf h=>fh h s FJ (kW L vo _ (hO.keep s.ext) hL hb) rfl rfl (λr0 f w1 h s=>?_) (λr0 f w1 h s=>?_))
 ·refine e9 ac 1 h rfl λf h=>dG h rfl (qr (ai h (d6 nL) rfl λf h=>al 0 h s bN rfl rfl rfl (rfl) (rfl) (cN (rfl)) λw1 s=>e9 ac 2 h rfl λf h=>rt ?_))
  exact cY 0 rfl h s bN rfl rfl (rfl) rfl rfl (.inl ⟨1,qq r0,by decide,rfl⟩)
 ·refine e9 ac 1 h rfl λf h=>nH h rfl (qr (ak 1 h s bN rfl rfl (rfl) rfl λf h=>aY h s Ez (lR L vo _ (hO.keep s.ext) hL hb) rfl rfl ?_));rintro f w1 v13 ⟨vq,K,ks,rfl,hnk,hS⟩ hE h sq;replace s:=s.add hS;clear hS
  have hlk:K.length=L.length:=by have h9:=aH3 List.length hnk;simpa [nds] using h9
  refine al 3 h s bN rfl rfl rfl (rfl) (rfl) (cN (bk (s.getSl 0 rfl))) λw1 s=>nt (ah ?_)
  cases l0:(dd (aN L) no:Bool)
  ·refine aw ?_
   have hnos:=(jw r0).rs.nos
   have hixe:=IW hnk no
   refine ak 3 h s bN rfl rfl (rfl) rfl λf h=>am ac 1 h rfl λf h=>dF h s oh (aR (.pointer none) (iw K vq no _ ⟨bs.of_own (s.getSl 0 rfl),s.getG 1 rfl⟩ (by omega)) (FI (by rw [hixe,hlk];exact aH0 ((jy hnos).trans l0)))) rfl rfl λf w1 h s=>e9 ac 1 h rfl λf h=>ah (bU ac 1 h rfl λf h=>ai h (bz (.bool true) (gO aS6 (h.ev rfl) (h.ev rfl)) (rfl)) rfl λf h=>iY h rfl (qr (ai h (d6 nL) rfl λf h=>al 2 h s bN rfl rfl rfl (rfl) (rfl) (cN (rfl)) λw1 s=>e9 ac 2 h rfl λf h=>rt ?_)))
   exact cY 2 rfl h s bN rfl rfl (rfl) rfl rfl (.inl ⟨10,ni r0 l0,by decide,rfl⟩)
  ·refine aw ?_
   have hnos:=(jw r0).rs.nos
   have hixe:=IW hnk no
   refine ak 3 h s bN rfl rfl (rfl) rfl λf h=>am ac 1 h rfl λf h=>dF h s oh (aR (.pointer (some (bO vq (eQ L no*68)))) (iw K vq no _ ⟨bs.of_own (s.getSl 0 rfl),s.getG 1 rfl⟩ (by omega)) (by rw [← hixe];exact AI (by rw [hixe,hlk];exact aG9 ((jy hnos).trans l0)))) rfl rfl λf w1 h s=>e9 ac 1 h rfl λf h=>ah (bU ac 1 h rfl λf h=>ai h (bz (.bool false) (gO aS6 (h.ev rfl) (h.ev rfl)) (rfl)) rfl λf h=>gS h rfl (qr (ak 3 h s bN rfl rfl (rfl) rfl λf h=>am ac 1 h rfl λf h=>al 2 h s bN rfl rfl rfl (rfl) (rfl) (cN (bk (s.getSl 0 rfl))) λw1 s=>e9 ac 2 h rfl λf h=>aL3 ?_)))
   exact cY 2 rfl h s bN rfl rfl (rfl) rfl rfl (.inr ⟨wf r0 l0,vq,K,ks,rfl,hnk,s.sel [0,1] rfl (by decide)⟩)
theorem oS (L:List N3) (vo:Value) (no:Int) (w:World) (hO:kr w vo L) (hL:L.length<=40) (hb:RwB L):Calls Tryz.prog 103 [.agg #[vo],.int .i64 no].toArray w (cb w (ZM w 63 L no)):=by
 refine bK Tryz.func103 rfl Tryz.ntmps103 rfl λf h s=>qr (aV (#[vo]) h s rfl rfl rfl λf w1 b2 h s=>aV (#[.int .i64 no]) h s rfl rfl rfl λf w1 b3 h s=>aK (#[ax]) h s j5 rfl rfl λf w1 b4 h s=>e9 ac 1 h rfl λf h=>ah ?_)
 cases r0:(kK L:Bool)
 ·refine aw (ak 2 h s bN rfl rfl (rfl) rfl λf h=>cz 1 h s bJ rfl rfl (rfl) rfl λf h=>aY h s DE (oO L vo no _ (hO.keep s.ext) hL hb) rfl rfl ?_);intro f w1 v11 hop hE h sq
  obtain rfl:=hop.n (qq r0) (by decide)
  replace s:=sq
  refine am ac 4 h rfl λf h=>al 2 h s bN rfl rfl rfl (rfl) (rfl) (cN (rfl)) λw1 s=>e9 ac 2 h rfl λf h=>ah (bU ac 1 h rfl λf h=>gW ac (.bool true) h rfl (by rfl) rfl λf h=>iY h rfl (qr (ai h (d6 nL) rfl λf h=>am ac 1 h rfl λf h=>al 0 h s bN rfl rfl rfl (rfl) (rfl) (cN (rfl)) λw1 s=>e9 ac 1 h rfl λf h=>rt (cc 0 rfl h s bN rfl rfl (rfl) rfl (.inl ⟨1,qq r0,by decide,rfl⟩)))))
 ·skip
  cases l0:(dd (aN L) no:Bool)
  ·refine aw (ak 2 h s bN rfl rfl (rfl) rfl λf h=>cz 1 h s bJ rfl rfl (rfl) rfl λf h=>aY h s DE (oO L vo no _ (hO.keep s.ext) hL hb) rfl rfl ?_);intro f w1 v11 hop hE h sq
   obtain rfl:=hop.n (ni r0 l0) (by decide)
   replace s:=sq
   refine am ac 4 h rfl λf h=>al 2 h s bN rfl rfl rfl (rfl) (rfl) (cN (rfl)) λw1 s=>e9 ac 2 h rfl λf h=>ah (bU ac 1 h rfl λf h=>gW ac (.bool true) h rfl (by rfl) rfl λf h=>iY h rfl (qr (ai h (d6 nL) rfl λf h=>am ac 1 h rfl λf h=>al 0 h s bN rfl rfl rfl (rfl) (rfl) (cN (rfl)) λw1 s=>e9 ac 1 h rfl λf h=>rt (cc 0 rfl h s bN rfl rfl (rfl) rfl (.inl ⟨10,ni r0 l0,by decide,rfl⟩)))))
  ·refine aw (ak 2 h s bN rfl rfl (rfl) rfl λf h=>cz 1 h s bJ rfl rfl (rfl) rfl λf h=>aY h s DE (oO L vo no _ (hO.keep s.ext) hL hb) rfl rfl ?_);intro f w1 v11 hop hE h sq
   obtain ⟨vq,K,ks,rfl,hnk,hS⟩:=hop.y (wf r0 l0)
   replace s:=s.add hS
   clear hS hop
   have hlk:=SF hnk
   have hrs:=(jw r0).rs
   have hio:eQ L no<L.length:=aG9 ((jy hrs.nos).trans l0)
   have hRSK:=hrs.nds hnk
   refine am ac 4 h rfl λf h=>al 4 h s bN rfl rfl rfl (rfl) (rfl) (cN (bk (s.getSl 0 rfl))) λw1 s=>e9 ac 2 h rfl λf h=>ah (bU ac 1 h rfl λf h=>gW ac (.bool false) h rfl (by rfl) rfl λf h=>gS h rfl (bU ac 1 h rfl λf h=>ag (V:=vq) (ae (aJ.of_own s 4 rfl) 0 rfl) h fE rfl rfl λf h=>ai h (cO [.pointer (some ⟨b3,0,none⟩)] (ke h rfl)) rfl λf h=>?_))
   have ho9:∀ y∈K,y.2.1.oneCell'=true/\y.2.2.oneCell'=true:=λy hy=>(s.getG 1 rfl y hy).ones
   refine cM [vq,.func (.func 161) #[] #[.pointer (some ⟨b3,0,none⟩)]] h Wq (yC K (by omega) vq 161 [.pointer (some ⟨b3,0,none⟩)] (λx=>decide (x.1.me.1=no)) _ _ _ s ho9 XD (λA9 w9 s9 x hx=>HS x no b3 w9 ((s9.pick _ (aI8 A9 _)).get 2 rfl))) rfl rfl ?_;rintro f w1 v22 s h
   replace s:=s.bring 1 rfl
   replace s:=s.weak (S':=iZ (K.filter λx => !decide (x.1.me.1=no))) (λ_ h9=>HI h9)
   refine am ac 1 h rfl λf h=>aM 4 h s fE rfl rfl rfl (by show 0<1;decide) (bk (s.getSl 1 rfl)) λw1 s=>?_
   replace s:=s.recell (D:=#[v22]) 4 rfl rfl
   refine nt (qr (ak 4 h s bN rfl rfl (rfl) rfl λf h=>al 2 h s bN rfl rfl rfl (rfl) (rfl) (cN (bk (s.getSl 1 rfl))) λw1 s=>e9 ac 1 h rfl λf h=>aL3 (cc 2 rfl h s bN rfl rfl (rfl) rfl (.inr ⟨wf r0 l0,v22,_,ks,rfl,RY hnk,s.sel [1,0] rfl (by decide)⟩))))
set_option maxHeartbeats 4000000 in
theorem OO (K:List N3) (ks:List Nat) (nos:List Int) (l:List Mb) (vq:Value) (kx bm:Nat) (B9:List Own) (g:Nd) (us uf:Value) (w0 w:World) (s:St w0 (.sl vq 63 68 K.length (aI K)::.grp ks (iZ K)::.blk bm (HR nos)::B9) w) (hk:kx<K.length) (hkl:K.length<=40) (hrn:RN (K.getD kx z3).1) (hbx:(K.getD kx z3).1.sc.length<=300/\(K.getD kx z3).1.fg.length<=300) (hal:∀ no,decide (no∈nos)=dd l no) (hUs:bs w0 us 33 g.sc.length (aq g.sc)) (hUf:bs w0 uf 33 g.fg.length (aq g.fg)) (hus:g.sc.length<=300):Calls Tryz.prog 156 [.pointer (some (bO vq (kx*68))),.agg (bu g.me g.pr us uf),.map (some bm)].toArray w (λe w9=>∃ r,e=.returned r/\∃ du dv kn,St w0 (.sl vq 63 68 (K.set kx ((Hi l (K.getD kx z3).1 g,du,dv):N3)).length (aI (K.set kx ((Hi l (K.getD kx z3).1 g,du,dv):N3)))::.grp kn (iZ (K.set kx ((Hi l (K.getD kx z3).1 g,du,dv):N3)))::.blk bm (HR nos)::B9) w9):=by
 refine c7 Tryz.func156 rfl Tryz.ntmps156 rfl [(0,.pointer (some (bO vq (kx*68)))),(1,.agg (bu g.me g.pr us uf)),(2,.map (some bm))] (by simp) λf h=>?_
 refine qr (aV (#[.pointer (some (bO vq (kx*68)))]) h s rfl rfl rfl λf w1 b3 h s=>aV (bu g.me g.pr us uf) h s rfl rfl rfl λf w1 b4 h s=>aV (#[.map (some bm)]) h s rfl rfl rfl λf w1 b5 h s=>nt (qr (cz 2 h s lT rfl rfl (rfl) rfl λf h=>am ac 1 h rfl λf h=>ap ((bs.of_own (s.getSl 3 rfl)).el (kx) (by omega) (by decide) (D:=bu (K.getD kx z3).1.me (K.getD kx z3).1.pr (K.getD kx z3).2.1 (K.getD kx z3).2.2) (g5 K kx hk)) h dl rfl (aP _ _ _ _) rfl λf h=>aK (bu bH bH ax ax) h s kJ rfl rfl λf w1 b6 h s=>al 0 h s dl rfl rfl rfl (aP _ _ _ _) (aP _ _ _ _) (cI (bI ((s.getG 5 rfl _ (ci hk)).1)) (bI ((s.getG 5 rfl _ (ci hk)).2))) λw1 s=>nt (ah ?_))))
 replace s:=s.bring 4 rfl
 have hdn:=XT (g:=g) hrn
 refine KQ 1 [[],[],[],[2],[2,3],[2,3,4],[1,2,3,4,5],[1,2,3,4,5,6],[1,2,3,4,5,6,7],[1,2,3,4,5,6,7],[0,1,2,3,4,5,6,7,8],[0,1,2,3,4,5,6,7,8,10]] [[],[],[],[],[],[],[5],[],[],[],[],[12]] [[_]] [.v (.pointer (some (bO vq (kx*68)))),.v (.agg (bu (K.getD kx z3).1.me (K.getD kx z3).1.pr (K.getD kx z3).2.1 (K.getD kx z3).2.2)),.v _,.v _,.v (.int .i64 g.me.1),.m (λv=>[.sl (v 5) 3 1 [g.me.1].length ([g.me.1].map (Value.int .i64))]),.r (λv=>[.sl (dm 66 (v 6)) 60 33 (cR (K.getD kx z3).1 g).sc.length (aq (cR (K.getD kx z3).1 g).sc),.sl (dm 67 (v 6)) 60 33 (cR (K.getD kx z3).1 g).fg.length (aq (cR (K.getD kx z3).1 g).fg)]) (λv=>v 6=.tuple #[.agg (bu (cR (K.getD kx z3).1 g).me (cR (K.getD kx z3).1 g).pr (dm 66 (v 6)) (dm 67 (v 6))),.int .i64 0]),.f (λv=>v 7=.tuple #[.agg (bu (cR (K.getD kx z3).1 g).me (cR (K.getD kx z3).1 g).pr (dm 66 (v 6)) (dm 67 (v 6))),.int .i64 0]),.f (λv=>v 8=.agg (bu (cR (K.getD kx z3).1 g).me (cR (K.getD kx z3).1 g).pr (dm 66 (v 6)) (dm 67 (v 6)))),.v (.int .i64 0),.v _,.m (λv=>[.sl vq 63 68 (K.set kx (((cR (K.getD kx z3).1 g),(dm 66 (v 6)),(dm 67 (v 6))):N3)).length (aI (K.set kx (((cR (K.getD kx z3).1 g),(dm 66 (v 6)),(dm 67 (v 6))):N3)))])] _ h s rfl (by kernel_rfl) (by kernel_rfl) (by kernel_rfl) (cm ?_ (cm ?_ (gL ac h rfl rfl rfl (gL ac h rfl rfl rfl (cm ?_ (cm ?_ (cm ?_ (cm ?_ (cm ?_ (cm ?_ (gL ac h rfl rfl rfl (cm ?_ (trivial))))))))))))) [0,1,2,3,4,6,7,8,9,10,11] (by kernel_rfl) ?_
 ·intro f9 w2 vl2 E9 hs9 hd9 hl hF s
  have h:=cq [(3,_)] h hs9 hd9 ⟨fu hl 3 (by kernel_rfl) (h.holds 3 _ rfl),trivial⟩
  refine cz 3 h s lT rfl rfl (rfl) rfl λf h=>az ⟨_,br 13 h rfl rfl,rfl,s⟩
 ·intro f9 w2 vl2 E9 hs9 hd9 hl hF s
  have h:=cq [(6,_)] h hs9 hd9 ⟨fu hl 6 (by kernel_rfl) (h.holds 6 _ rfl),trivial⟩
  refine ak 0 h s dl rfl rfl (aP _ _ _ _) rfl λf h=>az ⟨_,br 14 h rfl rfl,rfl,s⟩
 ·intro f9 w2 vl2 E9 hs9 hd9 hl hF s
  have h:=cq [(16,_)] h hs9 hd9 ⟨a7 hl 16 3 (by kernel_rfl) (hF 3 (by decide)),trivial⟩
  refine ag (ae (aJ.of_own s 2 rfl) 0 (mz _ _ _ _)) h bJ rfl rfl λf h=>az ⟨_,br 17 h rfl rfl,rfl,s⟩
 ·intro f9 w2 vl2 E9 hs9 hd9 hl hF s
  have h:=cq [(17,_)] h hs9 hd9 ⟨a7 hl 17 4 (by kernel_rfl) (hF 4 (by decide)),trivial⟩
  refine cf (vs:=[.int .i64 g.me.1]) [.tmp 17] h s aS7 ay9 rfl rfl (by simp [Value.cells]) rfl rfl rfl λf w1 v18 h s=>?_
  replace s:=s.resl (m:=[g.me.1].length) (ys:=[g.me.1].map (Value.int .i64)) 0 rfl rfl (by simp [Value.cells])
  exact az ⟨_,br 18 h rfl rfl,trivial,s⟩
 ·intro f9 w2 vl2 E9 hs9 hd9 hl hF s
  have h:=cq [(14,_),(18,_)] h hs9 hd9 ⟨a7 hl 14 1 (by kernel_rfl) (hF 1 (by decide)),ff hl 18 5 (by kernel_rfl) (by kernel_rfl),trivial⟩
  refine aY h s VY (HV (K.getD kx z3).1 (K.getD kx z3).2.1 (K.getD kx z3).2.2 [g.me.1] (vl2 5) _ (s.getG 5 rfl _ (ci hk)).1 (s.getG 5 rfl _ (ci hk)).2 (by omega) (by omega) (bs.of_own (s.getSl 0 rfl)) (by show 1<=1000;omega)) rfl rfl ?_;rintro f w1 v19 ⟨cu,cv,hv9,hS⟩ hE h sq;rw [hdn.1,hdn.2] at hv9;rw [hdn.1] at hS;replace s:=s.add hS
  have h66:cu=dm 66 v19:=by rw [hv9];exact(Xt (bs.of_own (hS.getSl 0 rfl))).symm
  have h67:cv=dm 67 v19:=by rw [hv9];exact(UH (bs.of_own (hS.getSl 1 rfl))).symm
  clear hS
  subst h66;subst h67
  exact az ⟨_,br 19 h rfl rfl,hv9,(s.pick _ (aG7 _ (aG7 _ (aG8 _ (aG7 _ (aG7 _ (aG7 _ (aG7 _ (aG7 _ (aG7 _ (List.Sublist.refl _)))))))))))⟩
 ·intro f9 w2 vl2 E9 hs9 hd9 hl hF s
  have h:=cq [(19,_)] h hs9 hd9 ⟨a7 hl 19 6 (by kernel_rfl) (hF 6 (by decide)),trivial⟩
  refine am ac 1 h rfl λf h=>az ⟨_,br 12 h rfl rfl,rfl,s⟩
 ·intro f9 w2 vl2 E9 hs9 hd9 hl hF s
  have h:=cq [(12,_)] h hs9 hd9 ⟨a7 hl 12 7 (by kernel_rfl) (hF 7 (by decide)),trivial⟩
  refine am ac 1 h rfl λf h=>az ⟨_,br 20 h rfl rfl,rfl,s⟩
 ·intro f9 w2 vl2 E9 hs9 hd9 hl hF s
  have h:=cq [(12,_)] h hs9 hd9 ⟨a7 hl 12 7 (by kernel_rfl) (hF 7 (by decide)),trivial⟩
  refine am ac 1 h rfl λf h=>az ⟨_,br 21 h rfl rfl,rfl,s⟩
 ·intro f9 w2 vl2 E9 hs9 hd9 hl hF s
  have h:=cq [(22,_),(20,_)] h hs9 hd9 ⟨a7 hl 22 10 (by kernel_rfl) (hF 10 (by decide)),a7 hl 20 8 (by kernel_rfl) (hF 8 (by decide)),trivial⟩
  refine fI 0 (kx) h s dl rfl rfl rfl (aP _ _ _ _) (by omega) (cI (ES _ _) (ES _ _)) (show _=aI (K.set kx (((cR (K.getD kx z3).1 g),(dm 66 (vl2 6)),(dm 67 (vl2 6))):N3)) from Nk hk (((cR (K.getD kx z3).1 g),(dm 66 (vl2 6)),(dm 67 (vl2 6))):N3)) λw1 s=>?_
  replace s:=s.resl (m:=(K.set kx (((cR (K.getD kx z3).1 g),(dm 66 (vl2 6)),(dm 67 (vl2 6))):N3)).length) (ys:=aI (K.set kx (((cR (K.getD kx z3).1 g),(dm 66 (vl2 6)),(dm 67 (vl2 6))):N3))) 0 rfl (by rw [List.length_set]) rfl
  exact az ⟨undef,gV rfl,trivial,s⟩
 intro f w1 vl2 hs9 hd9 hv hr hF s
 replace h:=wu (ops:=_) [(13,_),(14,_),(15,_),(16,_),(17,_),(18,(vl2 5)),(19,.tuple #[.agg (bu (cR (K.getD kx z3).1 g).me (cR (K.getD kx z3).1 g).pr (dm 66 (vl2 6)) (dm 67 (vl2 6))),.int .i64 0]),(12,.tuple #[.agg (bu (cR (K.getD kx z3).1 g).me (cR (K.getD kx z3).1 g).pr (dm 66 (vl2 6)) (dm 67 (vl2 6))),.int .i64 0]),(20,.agg (bu (cR (K.getD kx z3).1 g).me (cR (K.getD kx z3).1 g).pr (dm 66 (vl2 6)) (dm 67 (vl2 6)))),(21,_),(22,_)] h hs9 hd9 hr ⟨(hv 0 13 rfl).trans (hF 0 rfl),(hv 1 14 rfl).trans (hF 1 rfl),(hv 2 15 rfl).trans (hF 2 rfl),(hv 3 16 rfl).trans (hF 3 rfl),(hv 4 17 rfl).trans (hF 4 rfl),hv 5 18 rfl,(hv 6 19 rfl).trans (hF 6 rfl),(hv 7 12 rfl).trans (hF 7 rfl),(hv 8 20 rfl).trans (hF 8 rfl),(hv 9 21 rfl).trans (hF 9 rfl),(hv 10 22 rfl).trans (hF 10 rfl),trivial⟩ (by kernel_rfl)
 replace s:St w0 (.sl (dm 66 (vl2 6)) 60 33 (cR (K.getD kx z3).1 g).sc.length (aq (cR (K.getD kx z3).1 g).sc)::.sl (dm 67 (vl2 6)) 60 33 (cR (K.getD kx z3).1 g).fg.length (aq (cR (K.getD kx z3).1 g).fg)::.sl vq 63 68 (K.set kx (((cR (K.getD kx z3).1 g),(dm 66 (vl2 6)),(dm 67 (vl2 6))):N3)).length (aI (K.set kx (((cR (K.getD kx z3).1 g),(dm 66 (vl2 6)),(dm 67 (vl2 6))):N3)))::.blk b6 (.cells (bu (K.getD kx z3).1.me (K.getD kx z3).1.pr (K.getD kx z3).2.1 (K.getD kx z3).2.2) 63)::.blk b5 (.cells (#[.map (some bm)]) 233)::.blk b4 (.cells (bu g.me g.pr us uf) 63)::.blk b3 (.cells (#[.pointer (some (bO vq (kx*68)))]) 97)::(.grp ks (iZ K))::.blk bm (HR nos)::B9) _:=s
 replace s:=s.bring 7 rfl
 replace s:=s.bring 2 rfl
 replace s:=s.bring 2 rfl
 obtain ⟨k2,s⟩:=s.grpR (S':=λw9=>iZ (K.set kx (((cR (K.getD kx z3).1 g),(dm 66 (vl2 6)),(dm 67 (vl2 6))):N3)) w9/\wQ w9 (K.getD kx z3)) (λw9 h1 h2 h3=>⟨Ge h3 ⟨h1,h2⟩,h3 _ (ci hk)⟩)
 have hk1:kx<(K.set kx (((cR (K.getD kx z3).1 g),(dm 66 (vl2 6)),(dm 67 (vl2 6))):N3)).length:=by rw [List.length_set];exact hk
 refine aD (qr (ai h (cO [.pointer (some ⟨b3,0,none⟩),.pointer (some ⟨b5,0,none⟩)] (ke h rfl)) rfl λf h=>e9 ac 1 h rfl λf h=>ah (ah ?_)))
 cases c0:(decide ((K.getD kx z3).1.sc=[g.me]):Bool)
 ·refine rs ac 1 h rfl λf h=>ag (V:=(K.getD kx z3).2.1) (ae (aJ.of_own s 2 rfl) 66 (gn _ _ _ _)) h dS rfl rfl λf h=>am ac 1 h rfl λf h=>ap (aJ.subL (aJ.of_own s 4 rfl) 0 33 (D:=ar g.me) (dE _ _ _ _)) h aQ rfl (aj _) rfl λf h=>cf (vs:=[.agg (ar g.me)]) [.tmp 27] h s aS2 je rfl rfl (rx _) rfl rfl rfl λf w1 v28 h s=>?_
  replace s:=s.resl (m:=[g.me].length) (ys:=aq [g.me]) 0 rfl rfl (by rw [j3,fO])
  refine jD false h s To (wK (K.getD kx z3).1.sc [g.me] (K.getD kx z3).2.1 v28 _ (s.getG 1 rfl).2.1 (bs.of_own (s.getSl 0 rfl)) (by omega) (by show 1<=1000;omega)) (c0) rfl rfl λf w1 h s=>gS h rfl (ah ?_)
  cases q0:(decide ((K.getD kx z3).1.pr=g.me):Bool)
  ·refine rs ac 1 h rfl λf h=>ap (aJ.subL (aJ.of_own s 3 rfl) 33 33 (D:=ar (K.getD kx z3).1.pr) (di _ _ _ _)) h aQ rfl (aj _) rfl λf h=>am ac 1 h rfl λf h=>ap (aJ.subL (aJ.of_own s 5 rfl) 0 33 (D:=ar g.me) (dE _ _ _ _)) h aQ rfl (aj _) rfl λf h=>ai h (bz (.bool false) (ec (x6 _ _) (by kernel_rfl) (by decide) (h.ev rfl) (h.ev rfl) (decide ((K.getD kx z3).1.pr=g.me)) (lg _ _)) (aH3 Value.bool q0)) rfl λf h=>e9 ac 6 h rfl λf h=>kQ h rfl (wpIn_skip ?_)
   replace s:=s.bring 1 rfl
   replace s:=s.weak (S':=iZ (K.set kx (((cR (K.getD kx z3).1 g),(dm 66 (vl2 6)),(dm 67 (vl2 6))):N3))) (λw9 h3=>h3.1)
   replace s:=s.bring 7 rfl
   replace s:=s.bring 1 rfl
   replace s:=s.bring 3 rfl
   exact cX rfl h (⟨_,rfl,(dm 66 (vl2 6)),(dm 67 (vl2 6)),_,(by rw [kV (CZ q0) (DP c0)];exact(s.pick _ (aG7 _ (aG7 _ (aG7 _ (aG8 _ (aG8 _ (aG8 _ (aG8 _ (aG8 _ (List.Sublist.refl _)))))))))))⟩)
  ·skip
   cases q1:(EH l (K.getD kx z3).1.me.1 g.pr:Bool)
   ·refine rs ac 1 h rfl λf h=>ap (aJ.subL (aJ.of_own s 3 rfl) 33 33 (D:=ar (K.getD kx z3).1.pr) (di _ _ _ _)) h aQ rfl (aj _) rfl λf h=>am ac 1 h rfl λf h=>ap (aJ.subL (aJ.of_own s 5 rfl) 0 33 (D:=ar g.me) (dE _ _ _ _)) h aQ rfl (aj _) rfl λf h=>ai h (bz (.bool true) (ec (x6 _ _) (by kernel_rfl) (by decide) (h.ev rfl) (h.ev rfl) (decide ((K.getD kx z3).1.pr=g.me)) (lg _ _)) (aH3 Value.bool q0)) rfl λf h=>am ac 3 h rfl λf h=>cy h rfl (ap (aJ.subL (aJ.of_own s 5 rfl) 33 33 (D:=ar g.pr) (di _ _ _ _)) h aQ rfl (aj _) rfl λf h=>cy h rfl ?_)
    have hme5:((K.set kx (((cR (K.getD kx z3).1 g),(dm 66 (vl2 6)),(dm 67 (vl2 6))):N3)).getD kx z3).1.me.1=(K.getD kx z3).1.me.1:=by rw [fD hk];rfl
    refine cJ [.agg (ar g.pr)] (caps:=[.pointer (some ⟨b3,0,none⟩),.pointer (some ⟨b5,0,none⟩)]) h s n7 rfl (aR (.bool false) (iC g.pr (K.set kx (((cR (K.getD kx z3).1 g),(dm 66 (vl2 6)),(dm 67 (vl2 6))):N3)) nos l vq kx bm b3 b5 _ (s.get 6 rfl) (s.get 4 rfl) (bs.of_own (s.getSl 2 rfl)) (s.get 7 rfl) hk1 hal) (by rw [hme5];exact aH3 Value.bool q1)) rfl rfl ?_;intro f w1 v50 hT hE h s;obtain rfl:=hT
    refine e9 ac 1 h rfl λf h=>kQ h rfl (wpIn_skip ?_)
    replace s:=s.bring 1 rfl
    replace s:=s.weak (S':=iZ (K.set kx (((cR (K.getD kx z3).1 g),(dm 66 (vl2 6)),(dm 67 (vl2 6))):N3))) (λw9 h3=>h3.1)
    replace s:=s.bring 7 rfl
    replace s:=s.bring 1 rfl
    replace s:=s.bring 3 rfl
    exact cX rfl h (⟨_,rfl,(dm 66 (vl2 6)),(dm 67 (vl2 6)),_,(by rw [kV (Ef q1) (DP c0)];exact(s.pick _ (aG7 _ (aG7 _ (aG7 _ (aG8 _ (aG8 _ (aG8 _ (aG8 _ (aG8 _ (List.Sublist.refl _)))))))))))⟩)
   ·refine rs ac 1 h rfl λf h=>ap (aJ.subL (aJ.of_own s 3 rfl) 33 33 (D:=ar (K.getD kx z3).1.pr) (di _ _ _ _)) h aQ rfl (aj _) rfl λf h=>am ac 1 h rfl λf h=>ap (aJ.subL (aJ.of_own s 5 rfl) 0 33 (D:=ar g.me) (dE _ _ _ _)) h aQ rfl (aj _) rfl λf h=>ai h (bz (.bool true) (ec (x6 _ _) (by kernel_rfl) (by decide) (h.ev rfl) (h.ev rfl) (decide ((K.getD kx z3).1.pr=g.me)) (lg _ _)) (aH3 Value.bool q0)) rfl λf h=>am ac 3 h rfl λf h=>cy h rfl (ap (aJ.subL (aJ.of_own s 5 rfl) 33 33 (D:=ar g.pr) (di _ _ _ _)) h aQ rfl (aj _) rfl λf h=>cy h rfl ?_)
    have hme5:((K.set kx (((cR (K.getD kx z3).1 g),(dm 66 (vl2 6)),(dm 67 (vl2 6))):N3)).getD kx z3).1.me.1=(K.getD kx z3).1.me.1:=by rw [fD hk];rfl
    refine cJ [.agg (ar g.pr)] (caps:=[.pointer (some ⟨b3,0,none⟩),.pointer (some ⟨b5,0,none⟩)]) h s n7 rfl (aR (.bool true) (iC g.pr (K.set kx (((cR (K.getD kx z3).1 g),(dm 66 (vl2 6)),(dm 67 (vl2 6))):N3)) nos l vq kx bm b3 b5 _ (s.get 6 rfl) (s.get 4 rfl) (bs.of_own (s.getSl 2 rfl)) (s.get 7 rfl) hk1 hal) (by rw [hme5];exact aH3 Value.bool q1)) rfl rfl ?_;intro f w1 v50 hT hE h s;obtain rfl:=hT
    refine e9 ac 1 h rfl λf h=>dG h rfl (aw (cz 6 h s lT rfl rfl (rfl) rfl λf h=>am ac 1 h rfl λf h=>ap (aJ.subL (aJ.of_own s 5 rfl) 33 33 (D:=ar g.pr) (di _ _ _ _)) h aQ rfl (aj _) rfl λf h=>am ac 1 h rfl λf h=>ai h (bq sd (h.ev rfl) ((bs.of_own (s.getSl 2 rfl)).some (by omega))) rfl λf h=>mh 2 h s aQ rfl rfl rfl (aj _) (by decide) (by omega) (bD _) (s33 hk (cR (K.getD kx z3).1 g) (dm 66 (vl2 6)) (dm 67 (vl2 6)) g.pr) λw1 s=>?_))
    replace s:=s.resl (m:=(K.set kx (((⟨(cR (K.getD kx z3).1 g).me,g.pr,(cR (K.getD kx z3).1 g).sc,(cR (K.getD kx z3).1 g).fg⟩:Nd),(dm 66 (vl2 6)),(dm 67 (vl2 6))):N3)).length) (ys:=aI (K.set kx (((⟨(cR (K.getD kx z3).1 g).me,g.pr,(cR (K.getD kx z3).1 g).sc,(cR (K.getD kx z3).1 g).fg⟩:Nd),(dm 66 (vl2 6)),(dm 67 (vl2 6))):N3))) 2 rfl (by rw [List.length_set,List.length_set]) rfl
    replace s:=s.bring 1 rfl
    replace s:=s.weak (S':=λw9=>iZ (K.set kx (((⟨(cR (K.getD kx z3).1 g).me,g.pr,(cR (K.getD kx z3).1 g).sc,(cR (K.getD kx z3).1 g).fg⟩:Nd),(dm 66 (vl2 6)),(dm 67 (vl2 6))):N3)) w9/\wQ w9 (K.getD kx z3)) (λw9 h3=>⟨su h3.1 (xZ (T:=(cR (K.getD kx z3).1 g)) (u:=(dm 66 (vl2 6))) (v:=(dm 67 (vl2 6))) h3.1 hk1 (fD hk _)),h3.2⟩)
    refine az ?_
    replace s:=s.weak (S':=iZ (K.set kx (((⟨(cR (K.getD kx z3).1 g).me,g.pr,(cR (K.getD kx z3).1 g).sc,(cR (K.getD kx z3).1 g).fg⟩:Nd),(dm 66 (vl2 6)),(dm 67 (vl2 6))):N3))) (λw9 h3=>h3.1)
    replace s:=s.bring 7 rfl
    replace s:=s.bring 1 rfl
    replace s:=s.bring 3 rfl
    exact cX rfl h (⟨_,rfl,(dm 66 (vl2 6)),(dm 67 (vl2 6)),_,(by rw [kV (Oc q0 q1) (DP c0)];exact(s.pick _ (aG7 _ (aG7 _ (aG7 _ (aG8 _ (aG8 _ (aG8 _ (aG8 _ (aG8 _ (List.Sublist.refl _)))))))))))⟩)
 ·refine rs ac 1 h rfl λf h=>ag (V:=(K.getD kx z3).2.1) (ae (aJ.of_own s 2 rfl) 66 (gn _ _ _ _)) h dS rfl rfl λf h=>am ac 1 h rfl λf h=>ap (aJ.subL (aJ.of_own s 4 rfl) 0 33 (D:=ar g.me) (dE _ _ _ _)) h aQ rfl (aj _) rfl λf h=>cf (vs:=[.agg (ar g.me)]) [.tmp 27] h s aS2 je rfl rfl (rx _) rfl rfl rfl λf w1 v28 h s=>?_
  replace s:=s.resl (m:=[g.me].length) (ys:=aq [g.me]) 0 rfl rfl (by rw [j3,fO])
  refine aY h s To (aR (.bool true) (wK (K.getD kx z3).1.sc [g.me] (K.getD kx z3).2.1 v28 _ (s.getG 1 rfl).2.1 (bs.of_own (s.getSl 0 rfl)) (by omega) (by show 1<=1000;omega)) (aH3 Value.bool c0)) rfl rfl ?_;intro f w1 v9 hT hE h s;obtain rfl:=hT
  refine iY h rfl (bU ac 1 h rfl λf h=>ag (V:=us) (ae (aJ.of_own s 5 rfl) 66 (gn _ _ _ _)) h dS rfl rfl λf h=>am ac 1 h rfl λf h=>?_)
  have hme:((K.set kx (((cR (K.getD kx z3).1 g),(dm 66 (vl2 6)),(dm 67 (vl2 6))):N3)).getD kx z3).1.me.1=(K.getD kx z3).1.me.1:=by rw [fD hk];rfl
  refine aY h s Uy (Ig g.sc us 215 [.pointer (some ⟨b3,0,none⟩),.pointer (some ⟨b5,0,none⟩)] (EH l ((K.set kx (((cR (K.getD kx z3).1 g),(dm 66 (vl2 6)),(dm 67 (vl2 6))):N3)).getD kx z3).1.me.1) _ (hUs.keep s.ext) (by omega) n7 (λw9 h9 x _=>iC x (K.set kx (((cR (K.getD kx z3).1 g),(dm 66 (vl2 6)),(dm 67 (vl2 6))):N3)) nos l vq kx bm b3 b5 w9 (fy (s.get 6 rfl) h9) (fy (s.get 4 rfl) h9) ((bs.of_own (s.getSl 2 rfl)).keep h9) (fy (s.get 7 rfl) h9) hk1 hal)) rfl rfl ?_;intro f w1 v33 hT hE h sq;rw [hme] at hT;replace s:=s.sl_new hE hT;replace s:=s.resl (m:=(fU l (K.getD kx z3).1 g).length) (ys:=aq (fU l (K.getD kx z3).1 g)) 0 rfl rfl rfl
  refine e9 ac 1 h rfl λf h=>bU ac 1 h rfl λf h=>eK 0 h s aS2 rfl rfl rfl λf h=>e9 ac 1 h rfl λf h=>bV h rfl (λhc=>?_) (λhc=>?_)
  ·have hc1:0<(fU l (K.getD kx z3).1 g).length:=by have:=aG9 hc;omega
   refine aw (cz 7 h s lT rfl rfl (rfl) rfl λf h=>am ac 2 h rfl λf h=>ai h (bq nz (h.ev rfl) ((bs.of_own (s.getSl 3 rfl)).some (by omega))) rfl λf h=>eD 3 h s dS rfl rfl rfl (by omega) (bk (s.getSl 0 rfl)) (s66 hk (cR (K.getD kx z3).1 g) (dm 66 (vl2 6)) (dm 67 (vl2 6)) v33 (fU l (K.getD kx z3).1 g)) λw1 s=>?_)
   replace s:=s.resl (m:=(K.set kx (((⟨(cR (K.getD kx z3).1 g).me,(cR (K.getD kx z3).1 g).pr,(fU l (K.getD kx z3).1 g),(cR (K.getD kx z3).1 g).fg⟩:Nd),v33,(dm 67 (vl2 6))):N3)).length) (ys:=aI (K.set kx (((⟨(cR (K.getD kx z3).1 g).me,(cR (K.getD kx z3).1 g).pr,(fU l (K.getD kx z3).1 g),(cR (K.getD kx z3).1 g).fg⟩:Nd),v33,(dm 67 (vl2 6))):N3))) 3 rfl (by rw [List.length_set,List.length_set]) rfl
   replace s:=s.bring 2 rfl
   replace s:=s.bring 1 rfl
   replace s:=s.nilSl 60 33
   obtain ⟨k3,s⟩:=s.grpR (S':=λw9=>iZ (K.set kx (((⟨(cR (K.getD kx z3).1 g).me,(cR (K.getD kx z3).1 g).pr,(fU l (K.getD kx z3).1 g),(cR (K.getD kx z3).1 g).fg⟩:Nd),v33,(dm 67 (vl2 6))):N3)) w9/\wQ w9 (K.getD kx z3)) (λw9 h1 h2 h3=>⟨su h3.1 ⟨h2,(xZ h3.1 hk1 (fD hk _)).2⟩,h3.2⟩)
   replace hk1:kx<(K.set kx (((⟨(cR (K.getD kx z3).1 g).me,(cR (K.getD kx z3).1 g).pr,(fU l (K.getD kx z3).1 g),(cR (K.getD kx z3).1 g).fg⟩:Nd),v33,(dm 67 (vl2 6))):N3)).length:=by rw [List.length_set];exact hk
   refine nt (ah ?_)
   cases q0:(decide ((K.getD kx z3).1.pr=g.me):Bool)
   ·refine rs ac 1 h rfl λf h=>ap (aJ.subL (aJ.of_own s 3 rfl) 33 33 (D:=ar (K.getD kx z3).1.pr) (di _ _ _ _)) h aQ rfl (aj _) rfl λf h=>am ac 1 h rfl λf h=>ap (aJ.subL (aJ.of_own s 5 rfl) 0 33 (D:=ar g.me) (dE _ _ _ _)) h aQ rfl (aj _) rfl λf h=>ai h (bz (.bool false) (ec (x6 _ _) (by kernel_rfl) (by decide) (h.ev rfl) (h.ev rfl) (decide ((K.getD kx z3).1.pr=g.me)) (lg _ _)) (aH3 Value.bool q0)) rfl λf h=>e9 ac 6 h rfl λf h=>kQ h rfl (wpIn_skip ?_)
    replace s:=s.weak (S':=iZ (K.set kx (((⟨(cR (K.getD kx z3).1 g).me,(cR (K.getD kx z3).1 g).pr,(fU l (K.getD kx z3).1 g),(cR (K.getD kx z3).1 g).fg⟩:Nd),v33,(dm 67 (vl2 6))):N3))) (λw9 h3=>h3.1)
    replace s:=s.bring 7 rfl
    replace s:=s.bring 1 rfl
    replace s:=s.bring 3 rfl
    exact cX rfl h (⟨_,rfl,v33,(dm 67 (vl2 6)),_,(by rw [kV (CZ q0) (Ko c0 hc1)];exact(s.pick _ (aG7 _ (aG7 _ (aG7 _ (aG8 _ (aG8 _ (aG8 _ (aG8 _ (aG8 _ (List.Sublist.refl _)))))))))))⟩)
   ·skip
    cases q1:(EH l (K.getD kx z3).1.me.1 g.pr:Bool)
    ·refine rs ac 1 h rfl λf h=>ap (aJ.subL (aJ.of_own s 3 rfl) 33 33 (D:=ar (K.getD kx z3).1.pr) (di _ _ _ _)) h aQ rfl (aj _) rfl λf h=>am ac 1 h rfl λf h=>ap (aJ.subL (aJ.of_own s 5 rfl) 0 33 (D:=ar g.me) (dE _ _ _ _)) h aQ rfl (aj _) rfl λf h=>ai h (bz (.bool true) (ec (x6 _ _) (by kernel_rfl) (by decide) (h.ev rfl) (h.ev rfl) (decide ((K.getD kx z3).1.pr=g.me)) (lg _ _)) (aH3 Value.bool q0)) rfl λf h=>am ac 3 h rfl λf h=>cy h rfl (ap (aJ.subL (aJ.of_own s 5 rfl) 33 33 (D:=ar g.pr) (di _ _ _ _)) h aQ rfl (aj _) rfl λf h=>cy h rfl ?_)
     have hme5:((K.set kx (((⟨(cR (K.getD kx z3).1 g).me,(cR (K.getD kx z3).1 g).pr,(fU l (K.getD kx z3).1 g),(cR (K.getD kx z3).1 g).fg⟩:Nd),v33,(dm 67 (vl2 6))):N3)).getD kx z3).1.me.1=(K.getD kx z3).1.me.1:=by rw [fD hk];rfl
     refine cJ [.agg (ar g.pr)] (caps:=[.pointer (some ⟨b3,0,none⟩),.pointer (some ⟨b5,0,none⟩)]) h s n7 rfl (aR (.bool false) (iC g.pr (K.set kx (((⟨(cR (K.getD kx z3).1 g).me,(cR (K.getD kx z3).1 g).pr,(fU l (K.getD kx z3).1 g),(cR (K.getD kx z3).1 g).fg⟩:Nd),v33,(dm 67 (vl2 6))):N3)) nos l vq kx bm b3 b5 _ (s.get 6 rfl) (s.get 4 rfl) (bs.of_own (s.getSl 2 rfl)) (s.get 7 rfl) hk1 hal) (by rw [hme5];exact aH3 Value.bool q1)) rfl rfl ?_;intro f w1 v50 hT hE h s;obtain rfl:=hT
     refine e9 ac 1 h rfl λf h=>kQ h rfl (wpIn_skip ?_)
     replace s:=s.weak (S':=iZ (K.set kx (((⟨(cR (K.getD kx z3).1 g).me,(cR (K.getD kx z3).1 g).pr,(fU l (K.getD kx z3).1 g),(cR (K.getD kx z3).1 g).fg⟩:Nd),v33,(dm 67 (vl2 6))):N3))) (λw9 h3=>h3.1)
     replace s:=s.bring 7 rfl
     replace s:=s.bring 1 rfl
     replace s:=s.bring 3 rfl
     exact cX rfl h (⟨_,rfl,v33,(dm 67 (vl2 6)),_,(by rw [kV (Ef q1) (Ko c0 hc1)];exact(s.pick _ (aG7 _ (aG7 _ (aG7 _ (aG8 _ (aG8 _ (aG8 _ (aG8 _ (aG8 _ (List.Sublist.refl _)))))))))))⟩)
    ·refine rs ac 1 h rfl λf h=>ap (aJ.subL (aJ.of_own s 3 rfl) 33 33 (D:=ar (K.getD kx z3).1.pr) (di _ _ _ _)) h aQ rfl (aj _) rfl λf h=>am ac 1 h rfl λf h=>ap (aJ.subL (aJ.of_own s 5 rfl) 0 33 (D:=ar g.me) (dE _ _ _ _)) h aQ rfl (aj _) rfl λf h=>ai h (bz (.bool true) (ec (x6 _ _) (by kernel_rfl) (by decide) (h.ev rfl) (h.ev rfl) (decide ((K.getD kx z3).1.pr=g.me)) (lg _ _)) (aH3 Value.bool q0)) rfl λf h=>am ac 3 h rfl λf h=>cy h rfl (ap (aJ.subL (aJ.of_own s 5 rfl) 33 33 (D:=ar g.pr) (di _ _ _ _)) h aQ rfl (aj _) rfl λf h=>cy h rfl ?_)
     have hme5:((K.set kx (((⟨(cR (K.getD kx z3).1 g).me,(cR (K.getD kx z3).1 g).pr,(fU l (K.getD kx z3).1 g),(cR (K.getD kx z3).1 g).fg⟩:Nd),v33,(dm 67 (vl2 6))):N3)).getD kx z3).1.me.1=(K.getD kx z3).1.me.1:=by rw [fD hk];rfl
     refine cJ [.agg (ar g.pr)] (caps:=[.pointer (some ⟨b3,0,none⟩),.pointer (some ⟨b5,0,none⟩)]) h s n7 rfl (aR (.bool true) (iC g.pr (K.set kx (((⟨(cR (K.getD kx z3).1 g).me,(cR (K.getD kx z3).1 g).pr,(fU l (K.getD kx z3).1 g),(cR (K.getD kx z3).1 g).fg⟩:Nd),v33,(dm 67 (vl2 6))):N3)) nos l vq kx bm b3 b5 _ (s.get 6 rfl) (s.get 4 rfl) (bs.of_own (s.getSl 2 rfl)) (s.get 7 rfl) hk1 hal) (by rw [hme5];exact aH3 Value.bool q1)) rfl rfl ?_;intro f w1 v50 hT hE h s;obtain rfl:=hT
     refine e9 ac 1 h rfl λf h=>dG h rfl (aw (cz 6 h s lT rfl rfl (rfl) rfl λf h=>am ac 1 h rfl λf h=>ap (aJ.subL (aJ.of_own s 5 rfl) 33 33 (D:=ar g.pr) (di _ _ _ _)) h aQ rfl (aj _) rfl λf h=>am ac 1 h rfl λf h=>ai h (bq sd (h.ev rfl) ((bs.of_own (s.getSl 2 rfl)).some (by omega))) rfl λf h=>mh 2 h s aQ rfl rfl rfl (aj _) (by decide) (by omega) (bD _) (s33 hk (⟨(cR (K.getD kx z3).1 g).me,(cR (K.getD kx z3).1 g).pr,(fU l (K.getD kx z3).1 g),(cR (K.getD kx z3).1 g).fg⟩:Nd) v33 (dm 67 (vl2 6)) g.pr) λw1 s=>?_))
     replace s:=s.resl (m:=(K.set kx (((⟨(⟨(cR (K.getD kx z3).1 g).me,(cR (K.getD kx z3).1 g).pr,(fU l (K.getD kx z3).1 g),(cR (K.getD kx z3).1 g).fg⟩:Nd).me,g.pr,(⟨(cR (K.getD kx z3).1 g).me,(cR (K.getD kx z3).1 g).pr,(fU l (K.getD kx z3).1 g),(cR (K.getD kx z3).1 g).fg⟩:Nd).sc,(⟨(cR (K.getD kx z3).1 g).me,(cR (K.getD kx z3).1 g).pr,(fU l (K.getD kx z3).1 g),(cR (K.getD kx z3).1 g).fg⟩:Nd).fg⟩:Nd),v33,(dm 67 (vl2 6))):N3)).length) (ys:=aI (K.set kx (((⟨(⟨(cR (K.getD kx z3).1 g).me,(cR (K.getD kx z3).1 g).pr,(fU l (K.getD kx z3).1 g),(cR (K.getD kx z3).1 g).fg⟩:Nd).me,g.pr,(⟨(cR (K.getD kx z3).1 g).me,(cR (K.getD kx z3).1 g).pr,(fU l (K.getD kx z3).1 g),(cR (K.getD kx z3).1 g).fg⟩:Nd).sc,(⟨(cR (K.getD kx z3).1 g).me,(cR (K.getD kx z3).1 g).pr,(fU l (K.getD kx z3).1 g),(cR (K.getD kx z3).1 g).fg⟩:Nd).fg⟩:Nd),v33,(dm 67 (vl2 6))):N3))) 2 rfl (by rw [List.length_set,List.length_set]) rfl
     replace s:=s.weak (S':=λw9=>iZ (K.set kx (((⟨(⟨(cR (K.getD kx z3).1 g).me,(cR (K.getD kx z3).1 g).pr,(fU l (K.getD kx z3).1 g),(cR (K.getD kx z3).1 g).fg⟩:Nd).me,g.pr,(⟨(cR (K.getD kx z3).1 g).me,(cR (K.getD kx z3).1 g).pr,(fU l (K.getD kx z3).1 g),(cR (K.getD kx z3).1 g).fg⟩:Nd).sc,(⟨(cR (K.getD kx z3).1 g).me,(cR (K.getD kx z3).1 g).pr,(fU l (K.getD kx z3).1 g),(cR (K.getD kx z3).1 g).fg⟩:Nd).fg⟩:Nd),v33,(dm 67 (vl2 6))):N3)) w9/\wQ w9 (K.getD kx z3)) (λw9 h3=>⟨su h3.1 (xZ (T:=(⟨(cR (K.getD kx z3).1 g).me,(cR (K.getD kx z3).1 g).pr,(fU l (K.getD kx z3).1 g),(cR (K.getD kx z3).1 g).fg⟩:Nd)) (u:=v33) (v:=(dm 67 (vl2 6))) h3.1 hk1 (fD hk _)),h3.2⟩)
     refine az ?_
     replace s:=s.weak (S':=iZ (K.set kx (((⟨(⟨(cR (K.getD kx z3).1 g).me,(cR (K.getD kx z3).1 g).pr,(fU l (K.getD kx z3).1 g),(cR (K.getD kx z3).1 g).fg⟩:Nd).me,g.pr,(⟨(cR (K.getD kx z3).1 g).me,(cR (K.getD kx z3).1 g).pr,(fU l (K.getD kx z3).1 g),(cR (K.getD kx z3).1 g).fg⟩:Nd).sc,(⟨(cR (K.getD kx z3).1 g).me,(cR (K.getD kx z3).1 g).pr,(fU l (K.getD kx z3).1 g),(cR (K.getD kx z3).1 g).fg⟩:Nd).fg⟩:Nd),v33,(dm 67 (vl2 6))):N3))) (λw9 h3=>h3.1)
     replace s:=s.bring 7 rfl
     replace s:=s.bring 1 rfl
     replace s:=s.bring 3 rfl
     exact cX rfl h (⟨_,rfl,v33,(dm 67 (vl2 6)),_,(by rw [kV (Oc q0 q1) (Ko c0 hc1)];exact(s.pick _ (aG7 _ (aG7 _ (aG7 _ (aG8 _ (aG8 _ (aG8 _ (aG8 _ (aG8 _ (List.Sublist.refl _)))))))))))⟩)
  ·have hc1:¬ 0<(fU l (K.getD kx z3).1 g).length:=by have:=aH0 hc;omega
   refine kt (ah ?_)
   cases q0:(decide ((K.getD kx z3).1.pr=g.me):Bool)
   ·refine rs ac 1 h rfl λf h=>ap (aJ.subL (aJ.of_own s 4 rfl) 33 33 (D:=ar (K.getD kx z3).1.pr) (di _ _ _ _)) h aQ rfl (aj _) rfl λf h=>am ac 1 h rfl λf h=>ap (aJ.subL (aJ.of_own s 6 rfl) 0 33 (D:=ar g.me) (dE _ _ _ _)) h aQ rfl (aj _) rfl λf h=>ai h (bz (.bool false) (ec (x6 _ _) (by kernel_rfl) (by decide) (h.ev rfl) (h.ev rfl) (decide ((K.getD kx z3).1.pr=g.me)) (lg _ _)) (aH3 Value.bool q0)) rfl λf h=>e9 ac 6 h rfl λf h=>kQ h rfl (wpIn_skip ?_)
    replace s:=s.bring 2 rfl
    replace s:=s.weak (S':=iZ (K.set kx (((cR (K.getD kx z3).1 g),(dm 66 (vl2 6)),(dm 67 (vl2 6))):N3))) (λw9 h3=>h3.1)
    replace s:=s.bring 8 rfl
    replace s:=s.bring 1 rfl
    replace s:=s.bring 4 rfl
    exact cX rfl h (⟨_,rfl,(dm 66 (vl2 6)),(dm 67 (vl2 6)),_,(by rw [kV (CZ q0) (Ex hc1)];exact(s.pick _ (aG7 _ (aG7 _ (aG7 _ (aG8 _ (aG8 _ (aG8 _ (aG8 _ (aG8 _ (aG8 _ (List.Sublist.refl _))))))))))))⟩)
   ·skip
    cases q1:(EH l (K.getD kx z3).1.me.1 g.pr:Bool)
    ·refine rs ac 1 h rfl λf h=>ap (aJ.subL (aJ.of_own s 4 rfl) 33 33 (D:=ar (K.getD kx z3).1.pr) (di _ _ _ _)) h aQ rfl (aj _) rfl λf h=>am ac 1 h rfl λf h=>ap (aJ.subL (aJ.of_own s 6 rfl) 0 33 (D:=ar g.me) (dE _ _ _ _)) h aQ rfl (aj _) rfl λf h=>ai h (bz (.bool true) (ec (x6 _ _) (by kernel_rfl) (by decide) (h.ev rfl) (h.ev rfl) (decide ((K.getD kx z3).1.pr=g.me)) (lg _ _)) (aH3 Value.bool q0)) rfl λf h=>am ac 3 h rfl λf h=>cy h rfl (ap (aJ.subL (aJ.of_own s 6 rfl) 33 33 (D:=ar g.pr) (di _ _ _ _)) h aQ rfl (aj _) rfl λf h=>cy h rfl ?_)
     have hme5:((K.set kx (((cR (K.getD kx z3).1 g),(dm 66 (vl2 6)),(dm 67 (vl2 6))):N3)).getD kx z3).1.me.1=(K.getD kx z3).1.me.1:=by rw [fD hk];rfl
     refine cJ [.agg (ar g.pr)] (caps:=[.pointer (some ⟨b3,0,none⟩),.pointer (some ⟨b5,0,none⟩)]) h s n7 rfl (aR (.bool false) (iC g.pr (K.set kx (((cR (K.getD kx z3).1 g),(dm 66 (vl2 6)),(dm 67 (vl2 6))):N3)) nos l vq kx bm b3 b5 _ (s.get 7 rfl) (s.get 5 rfl) (bs.of_own (s.getSl 3 rfl)) (s.get 8 rfl) hk1 hal) (by rw [hme5];exact aH3 Value.bool q1)) rfl rfl ?_;intro f w1 v50 hT hE h s;obtain rfl:=hT
     refine e9 ac 1 h rfl λf h=>kQ h rfl (wpIn_skip ?_)
     replace s:=s.bring 2 rfl
     replace s:=s.weak (S':=iZ (K.set kx (((cR (K.getD kx z3).1 g),(dm 66 (vl2 6)),(dm 67 (vl2 6))):N3))) (λw9 h3=>h3.1)
     replace s:=s.bring 8 rfl
     replace s:=s.bring 1 rfl
     replace s:=s.bring 4 rfl
     exact cX rfl h (⟨_,rfl,(dm 66 (vl2 6)),(dm 67 (vl2 6)),_,(by rw [kV (Ef q1) (Ex hc1)];exact(s.pick _ (aG7 _ (aG7 _ (aG7 _ (aG8 _ (aG8 _ (aG8 _ (aG8 _ (aG8 _ (aG8 _ (List.Sublist.refl _))))))))))))⟩)
    ·refine rs ac 1 h rfl λf h=>ap (aJ.subL (aJ.of_own s 4 rfl) 33 33 (D:=ar (K.getD kx z3).1.pr) (di _ _ _ _)) h aQ rfl (aj _) rfl λf h=>am ac 1 h rfl λf h=>ap (aJ.subL (aJ.of_own s 6 rfl) 0 33 (D:=ar g.me) (dE _ _ _ _)) h aQ rfl (aj _) rfl λf h=>ai h (bz (.bool true) (ec (x6 _ _) (by kernel_rfl) (by decide) (h.ev rfl) (h.ev rfl) (decide ((K.getD kx z3).1.pr=g.me)) (lg _ _)) (aH3 Value.bool q0)) rfl λf h=>am ac 3 h rfl λf h=>cy h rfl (ap (aJ.subL (aJ.of_own s 6 rfl) 33 33 (D:=ar g.pr) (di _ _ _ _)) h aQ rfl (aj _) rfl λf h=>cy h rfl ?_)
     have hme5:((K.set kx (((cR (K.getD kx z3).1 g),(dm 66 (vl2 6)),(dm 67 (vl2 6))):N3)).getD kx z3).1.me.1=(K.getD kx z3).1.me.1:=by rw [fD hk];rfl
     refine cJ [.agg (ar g.pr)] (caps:=[.pointer (some ⟨b3,0,none⟩),.pointer (some ⟨b5,0,none⟩)]) h s n7 rfl (aR (.bool true) (iC g.pr (K.set kx (((cR (K.getD kx z3).1 g),(dm 66 (vl2 6)),(dm 67 (vl2 6))):N3)) nos l vq kx bm b3 b5 _ (s.get 7 rfl) (s.get 5 rfl) (bs.of_own (s.getSl 3 rfl)) (s.get 8 rfl) hk1 hal) (by rw [hme5];exact aH3 Value.bool q1)) rfl rfl ?_;intro f w1 v50 hT hE h s;obtain rfl:=hT
     refine e9 ac 1 h rfl λf h=>dG h rfl (aw (cz 7 h s lT rfl rfl (rfl) rfl λf h=>am ac 1 h rfl λf h=>ap (aJ.subL (aJ.of_own s 6 rfl) 33 33 (D:=ar g.pr) (di _ _ _ _)) h aQ rfl (aj _) rfl λf h=>am ac 1 h rfl λf h=>ai h (bq sd (h.ev rfl) ((bs.of_own (s.getSl 3 rfl)).some (by omega))) rfl λf h=>mh 3 h s aQ rfl rfl rfl (aj _) (by decide) (by omega) (bD _) (s33 hk (cR (K.getD kx z3).1 g) (dm 66 (vl2 6)) (dm 67 (vl2 6)) g.pr) λw1 s=>?_))
     replace s:=s.resl (m:=(K.set kx (((⟨(cR (K.getD kx z3).1 g).me,g.pr,(cR (K.getD kx z3).1 g).sc,(cR (K.getD kx z3).1 g).fg⟩:Nd),(dm 66 (vl2 6)),(dm 67 (vl2 6))):N3)).length) (ys:=aI (K.set kx (((⟨(cR (K.getD kx z3).1 g).me,g.pr,(cR (K.getD kx z3).1 g).sc,(cR (K.getD kx z3).1 g).fg⟩:Nd),(dm 66 (vl2 6)),(dm 67 (vl2 6))):N3))) 3 rfl (by rw [List.length_set,List.length_set]) rfl
     replace s:=s.bring 2 rfl
     replace s:=s.weak (S':=λw9=>iZ (K.set kx (((⟨(cR (K.getD kx z3).1 g).me,g.pr,(cR (K.getD kx z3).1 g).sc,(cR (K.getD kx z3).1 g).fg⟩:Nd),(dm 66 (vl2 6)),(dm 67 (vl2 6))):N3)) w9/\wQ w9 (K.getD kx z3)) (λw9 h3=>⟨su h3.1 (xZ (T:=(cR (K.getD kx z3).1 g)) (u:=(dm 66 (vl2 6))) (v:=(dm 67 (vl2 6))) h3.1 hk1 (fD hk _)),h3.2⟩)
     refine az ?_
     replace s:=s.weak (S':=iZ (K.set kx (((⟨(cR (K.getD kx z3).1 g).me,g.pr,(cR (K.getD kx z3).1 g).sc,(cR (K.getD kx z3).1 g).fg⟩:Nd),(dm 66 (vl2 6)),(dm 67 (vl2 6))):N3))) (λw9 h3=>h3.1)
     replace s:=s.bring 8 rfl
     replace s:=s.bring 1 rfl
     replace s:=s.bring 4 rfl
     exact cX rfl h (⟨_,rfl,(dm 66 (vl2 6)),(dm 67 (vl2 6)),_,(by rw [kV (Oc q0 q1) (Ex hc1)];exact(s.pick _ (aG7 _ (aG7 _ (aG7 _ (aG8 _ (aG8 _ (aG8 _ (aG8 _ (aG8 _ (aG8 _ (List.Sublist.refl _))))))))))))⟩)
set_option maxHeartbeats 1000000 in
theorem Ds (L:List N3) (vo:Value) (no:Int) (w:World) (hO:kr w vo L) (hL:L.length<=40) (hb:RwB L):Calls Tryz.prog 100 [.agg #[vo],.int .i64 no].toArray w (cb w (OvE w (wZ vo L) (NO L no) (cE L no))):=by
 refine go Tryz.func100 rfl Tryz.ntmps100 rfl [(0,.agg #[vo]),(1,.int .i64 no)] (by simp) λf h=>?_
 have s:=St.start w
 refine qr (aV (#[vo]) h s rfl rfl rfl λf w1 b2 h s=>aV (#[.int .i64 no]) h s rfl rfl rfl λf w1 b3 h s=>aK (#[ax]) h s j5 rfl rfl λf w1 b4 h s=>e9 ac 1 h rfl λf h=>ah ?_)
 cases r0:(kK L:Bool)
 ·refine aw (ak 2 h s bN rfl rfl (rfl) rfl λf h=>cz 1 h s bJ rfl rfl (rfl) rfl λf h=>aY h s CJ (oS L vo no _ (hO.keep s.ext) hL hb) rfl rfl ?_);intro f w1 v13 hop hE h sq
  obtain rfl:=hop.n (qq r0) (by decide)
  replace s:=sq
  refine am ac 3 h rfl λf h=>aK (#[ax]) h s j5 rfl rfl λf w1 b6 h s=>al 0 h s bN rfl rfl rfl (rfl) (rfl) (cN (rfl)) λw1 s=>e9 ac 1 h rfl λf h=>ah (bU ac 1 h rfl λf h=>gW ac (.bool true) h rfl (by rfl) rfl λf h=>iY h rfl (qr (ai h (d6 nL) rfl λf h=>am ac 1 h rfl λf h=>al 1 h s bN rfl rfl rfl (rfl) (rfl) (cN (rfl)) λw1 s=>e9 ac 1 h rfl λf h=>rt ?_)))
  exact nW 1 rfl h s bN rfl rfl rfl (rfl) (qy s (Ud (qq r0) (by decide)) (qq r0))
 ·skip
  cases l0:(dd (aN L) no:Bool)
  ·refine aw (ak 2 h s bN rfl rfl (rfl) rfl λf h=>cz 1 h s bJ rfl rfl (rfl) rfl λf h=>aY h s CJ (oS L vo no _ (hO.keep s.ext) hL hb) rfl rfl ?_);intro f w1 v13 hop hE h sq
   obtain rfl:=hop.n (ni r0 l0) (by decide)
   replace s:=sq
   refine am ac 3 h rfl λf h=>aK (#[ax]) h s j5 rfl rfl λf w1 b6 h s=>al 0 h s bN rfl rfl rfl (rfl) (rfl) (cN (rfl)) λw1 s=>e9 ac 1 h rfl λf h=>ah (bU ac 1 h rfl λf h=>gW ac (.bool true) h rfl (by rfl) rfl λf h=>iY h rfl (qr (ai h (d6 nL) rfl λf h=>am ac 1 h rfl λf h=>al 1 h s bN rfl rfl rfl (rfl) (rfl) (cN (rfl)) λw1 s=>e9 ac 1 h rfl λf h=>rt ?_)))
   exact nW 1 rfl h s bN rfl rfl rfl (rfl) (qy s (Ud (ni r0 l0) (by decide)) (ni r0 l0))
  ·refine aw (ak 2 h s bN rfl rfl (rfl) rfl λf h=>cz 1 h s bJ rfl rfl (rfl) rfl λf h=>aY h s CJ (oS L vo no _ (hO.keep s.ext) hL hb) rfl rfl ?_);intro f w1 v13 hop hE h sq
   obtain ⟨vq,K,ks,rfl,hnk,hS⟩:=hop.y (wf r0 l0)
   replace s:=s.add hS
   clear hS hop
   have hrs:=(jw r0).rs
   obtain ⟨hio,hgo,hgom⟩:=LB hrs l0
   have hRSK:RS K:=hrs.wosn hnk
   have hl16:=hRSK.len
   have hgb:=hb.each _ hgom
   rw [← hgo] at hgb
   refine am ac 3 h rfl λf h=>aK (#[ax]) h s j5 rfl rfl λf w1 b6 h s=>al 0 h s bN rfl rfl rfl (rfl) (rfl) (cN (bk (s.getSl 1 rfl))) λw1 s=>e9 ac 1 h rfl λf h=>ah (bU ac 1 h rfl λf h=>gW ac (.bool false) h rfl (by rfl) rfl λf h=>gS h rfl (qr (ak 0 h s bN rfl rfl (rfl) rfl λf h=>aY h s XG (Dc K vq _ ⟨(bs.of_own (s.getSl 1 rfl)),λy hy=>(s.getG 2 rfl y hy)⟩ (by omega) (Vm hRSK.inc)) rfl rfl ?_)));rintro f w1 v21 ⟨bm,rfl,hS⟩ hE h sq;replace s:=s.add hS;clear hS
   refine aK (#[.map none]) h s GO rfl rfl λf w1 b8 h s=>aM 0 h s oy rfl rfl rfl (by simp) (rfl) λw1 s=>nt (ah (qr (ak 2 h s bN rfl rfl (rfl) rfl λf h=>cM [.agg #[vq]] h ub (jH vq _ _ _ s) rfl rfl ?_)));rintro f w1 r ⟨bn,rfl,s⟩ h
   refine nt (aL4 (gr (λd A9=>∃ (Kd:List N3) (kd:List Nat),nds Kd=tM (nds K) (aN K) (L.getD (eQ L no) z3).1 d/\A9=[.blk b8 (.cells #[.map (some bm)] 233),.blk bm (HR (lJ K)),.blk b6 (.cells #[vq] 24),.sl vq 63 68 Kd.length (aI Kd),.grp kd (iZ Kd),.blk b4 (.cells (#[ax]) 24),.blk b3 (.cells #[.int .i64 no] 3),.blk b2 (.cells #[vo] 24)]) [.blk b8 (.cells #[.map (some bm)] 233),.blk bm (HR (lJ K)),.blk b6 (.cells #[vq] 24),.sl vq 63 68 K.length (aI K),.grp ks (iZ K),.blk b4 (.cells (#[ax]) 24),.blk b3 (.cells #[.int .i64 no] 3),.blk b2 (.cells #[vo] 24)] [.blk bn (.cells #[vq] 24)] (K.length) (λ_=>false) (λd=>[Value.pointer (some (bO vq (d*68)))]) h s rfl uA (List.Perm.refl _) (⟨K,ks,rfl,rfl⟩) (λ_=>rfl) ?_ ?_ ?_ ?_))
   ·intro lp w2 GG g0 hg0 s2 hY;exact iD K.length (by omega) vq _ _ (bs.of_own (s.getSl 4 rfl)) lp bn (λ_=>false) GG g0 w w2 s2 hg0 hY
   ·intro lp D9 d9 rc R9 A9 w2 hd9 hq9 hJ9 s
    obtain ⟨Kd,kd,hkn,rfl⟩:=hJ9
    have h:=Sl.round1 (p:=24) (V:=.pointer (some (bO vq (d9*68)))) h rfl
    have hdl9:=hd9
    have hxd:=Wo hkn hdl9
    have hrn9:RN (K.getD d9 z3).1:=hRSK.rn _ (ci hdl9)
    have hkdl:Kd.length<=16:=by have h9:=aH3 List.length hkn;rw [Gp] at h9;simp only [nds,aL1] at h9;omega
    refine re ac 1 h rfl λf h=>⟨_,s,λw3 s=>?_⟩
    refine aL4 (dJ 7 h (by kernel_rfl) (ay ac 1 h rfl λf h=>aT 9 h s bN rfl rfl (rfl) rfl λf h=>eR 8 h s bJ rfl rfl (rfl) rfl λf h=>bF h oh (λw9 hE9=>aR (.pointer (some (bO vo (eQ L no*68)))) (iw L vo no w9 (hO.keep (s.ext.trans hE9)) hL) (AI hio)) rfl rfl λf h=>ay ac 1 h rfl λf h=>bh ((hO.1.keep s.ext).el (eQ L no) (by omega) (by decide) (D:=bu (L.getD (eQ L no) z3).1.me (L.getD (eQ L no) z3).1.pr (L.getD (eQ L no) z3).2.1 (L.getD (eQ L no) z3).2.2) (g5 L _ hio)) h dl rfl (aP _ _ _ _) rfl λf h=>eR 2 h s oy rfl rfl (rfl) rfl λf h=>bY s λw1 s=>?_))
    replace s:=s.bring 3 rfl
    replace s:=s.bring 6 rfl
    replace s:=s.bring 6 rfl
    refine cM [.pointer (some (bO vq (d9*68))),.agg (bu (L.getD (eQ L no) z3).1.me (L.getD (eQ L no) z3).1.pr (L.getD (eQ L no) z3).2.1 (L.getD (eQ L no) z3).2.2),.map (some bm)] h XQ (OO Kd kd (lJ K) (aN K) vq d9 bm _ (L.getD (eQ L no) z3).1 (L.getD (eQ L no) z3).2.1 (L.getD (eQ L no) z3).2.2 _ _ s hxd.1 (by omega) (by rw [hxd.2];exact hrn9) (by rw [hxd.2];have:=hrn9.len;have:=hrn9.fg.1;omega) (Iu hRSK.nos) (hO.2 _ (ci hio)).1 (hO.2 _ (ci hio)).2 (by omega)) rfl rfl ?_;rintro f w1 r ⟨du,dv,kn,s⟩ h
    refine az (aW ?_)
    replace s:=s.resl (m:=(Kd.set d9 ((Hi (aN K) (Kd.getD d9 z3).1 (L.getD (eQ L no) z3).1,du,dv):N3)).length) (ys:=aI (Kd.set d9 ((Hi (aN K) (Kd.getD d9 z3).1 (L.getD (eQ L no) z3).1,du,dv):N3))) 0 rfl rfl rfl
    replace s:=s.bring 9 rfl
    replace s:=s.bring 9 rfl
    replace s:=s.bring 9 rfl
    replace s:=s.bring 4 rfl
    replace s:=s.bring 4 rfl
    replace s:=s.bring 9 rfl
    replace s:=s.bring 6 rfl
    replace s:=s.bring 9 rfl
    replace s:=s.bring 9 rfl
    replace s:=s.bring 9 rfl
    refine ⟨rfl,_,⟨(Kd.set d9 ((Hi (aN K) (Kd.getD d9 z3).1 (L.getD (eQ L no) z3).1,du,dv):N3)),kn,LD hkn hdl9 (by show Hi _ _ _=_;rw [hxd.2]),rfl⟩,s.pick _ ?_⟩
    exact aG7 _ (List.Sublist.refl _)
   ·intro D9 A9 w2 hJ9 hq9 s
    obtain ⟨Kd,kd,hkn,rfl⟩:=hJ9
    replace h:Sl _ {f with defers:={target:=.collected D9,args:=#[]}::f.defers} _ [{target:=.collected D9,args:=#[]}]:=⟨h.size,by rw [h.defers],h.holds⟩
    refine aW (aD (qr (ak 4 h s bN rfl rfl (rfl) rfl λf h=>al 7 h s bN rfl rfl rfl (rfl) (rfl) (cN (bk (s.getSl 5 rfl))) λw1 s=>e9 ac 1 h rfl λf h=>aL3 ?_)))
    exact yO 7 0 rfl h s bN rfl rfl rfl rfl (rfl) (λw9 s9=>DR (wf r0 l0) (Lx (by rw [Ns (wf r0 l0)];exact W1 hnk (by rw [← hgo];exact hkn)) (s9.sel [5,6] rfl (by decide))))
   ·intro D9 d9 A9 w2 hd9 hqd9 hq9 hJ9 s
    cases hqd9
end Go.Proofs.YthmlflaiidhoiaaGreatDoor
