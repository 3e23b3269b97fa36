/- Package chord and what it stands on, so far as it is wanted: what each function answers. -/
import Derived.Test.YtkhepdpfdhdlaaaGreatDoorZa
import Derived.Test.YtkhepdpfdhdlaaaGreatDoorZm
import Derived.Test.YtkhepdpfdhdlaaaGreatDoorZl
import Derived.Test.YtkhepdpfdhdlaaaGreatDoorZd
set_option linter.unusedVariables false
set_option linter.unusedSimpArgs false
set_option linter.unusedSectionVars false
namespace Go.Proofs.YtkhepdpfdhdlaaaGreatDoor
open Go.RowKit
theorem j9 (L:List N3) (vo:Value) (w:World) (hO:kB w vo L) (hL:L.length<=40) (hb:RwB L):Calls Tryz.prog 26 [.agg #[vo]].toArray w (cd w (is (.bool (kH L)))):=by
 have hml:(aQ L).length<=1000:=by rw [av6];omega
 refine ff Tryz.func26 rfl Tryz.ntmps26 rfl [(0,.agg #[vo])] (by simp) λf h=>?_
 have s:=St.start w
 refine qr (aZ (#[vo]) h s rfl rfl rfl λf w1 b1 h s=>aO (#[.bool false]) h s Ew rfl rfl λf w1 b2 h s=>nt (qr (ak 1 h s cc rfl rfl (rfl) rfl λf h=>bB h s KE (j5 L vo _ (hO.keep s.ext) hL) rfl rfl ?_)));intro f w1 v6 hT hE h sq;replace s:=s.sl_new hE hT
 refine e9 ac 1 h rfl λf h=>ah (ah ?_)
 refine rs ac 1 h rfl λf h=>eC h s Re (uF (aQ L) v6 _ (br.of_own (s.getSl 0 rfl)) hml) rfl rfl (λr0 f w1 h s=>?_) (λr0 f w1 h s=>?_)
 ·refine e9 ac 6 h rfl λf h=>dw h rfl (qr (aJ 1 h s di rfl rfl rfl (by simp) (rfl) λw1 s=>nt (rt ?_)))
  exact kM 1 rfl h s di rfl rfl rfl (λw9=>(ar8 Value.bool (Vt r0)).symm)
 ·skip
  refine al ac 3 h rfl λf h=>bF h rfl (eC h s WY (u5 (aQ L) v6 _ (br.of_own (s.getSl 0 rfl)) hml) rfl rfl (λr1 f w1 h s=>?_) (λr1 f w1 h s=>?_))
  ·refine e9 ac 2 h rfl λf h=>dw h rfl (qr (aJ 1 h s di rfl rfl rfl (by simp) (rfl) λw1 s=>nt (rt ?_)))
   exact kM 1 rfl h s di rfl rfl rfl (λw9=>(ar8 Value.bool (Vg r1)).symm)
  ·refine e9 ac 2 h rfl λf h=>mQ h rfl (ah (qr (ak 2 h s cc rfl rfl (rfl) rfl λf h=>cF [.agg #[vo]] h qP (iG vo _ _ _ s) rfl rfl ?_)));rintro f w1 r ⟨bn,rfl,s⟩ h
   refine nt (av9 (eK (λd A9=>A9=[.sl v6 69 33 (aQ L).length (ap (aQ L)),.blk b2 (.cells #[.bool false] 4),.blk b1 (.cells #[vo] 24)]) [.sl v6 69 33 (aQ L).length (ap (aQ L)),.blk b2 (.cells #[.bool false] 4),.blk b1 (.cells #[vo] 24)] [.blk bn (.cells #[vo] 24)] (L.length) (LT L) (λd=>[Value.pointer (some (bC vo (d*68)))]) h s rfl mU (List.Perm.refl _) (rfl) (λ_=>rfl) ?_ ?_ ?_ ?_))
   ·intro lp w2 GG g0 hg0 s2 hY;exact gT L.length (by omega) vo _ _ hO.1 lp bn (LT L) GG g0 w w2 s2 hg0 hY
   ·intro lp D9 d9 rc R9 A9 w2 hd9 hq9 hJ9 s
    obtain rfl:=hJ9
    have h:=Sl.round1 (p:=17) (V:=.pointer (some (bC vo (d9*68)))) h rfl
    have hdl9:=hd9
    refine re ac 1 h rfl λf h=>⟨_,s,λw3 s=>?_⟩
    refine av9 (ah ?_)
    cases k0:(cY (L.getD d9 z3).1:Bool)
    ·refine cQ 13 h (by kernel_rfl) ?_
     have hx9:=hb.each _ (bU hdl9)
     refine ar ac 2 h rfl λf h=>aE ((hO.1.keep s.ext).el (d9) (by omega) (by decide) (D:=aP (L.getD d9 z3).1.me (L.getD d9 z3).1.pr (L.getD d9 z3).2.1 (L.getD d9 z3).2.2) (eE L d9 hdl9)) h bS rfl (aq _ _ _ _) rfl λf h=>bj h rL (λw9 hE9=>a6 (.bool false) (gi (L.getD d9 z3).1 (L.getD d9 z3).2.1 (L.getD d9 z3).2.2 w9 ((hO.2 _ (bU hdl9)).1.keep (s.ext.trans hE9)) ((hO.2 _ (bU hdl9)).2.keep (s.ext.trans hE9)) (by omega) (by omega)) (ar8 Value.bool k0)) rfl rfl λf h=>ar ac 9 h rfl λf h=>bK s λw1 s=>gh h rfl (qr (aJ 3 h s di rfl rfl rfl (by simp) (rfl) λw1 s=>nt (av8 (bh (⟨(ab3 k0),_,rfl,s.pick _ ?_⟩)))))
     exact ar2 _ (List.Sublist.refl _)
    ·skip
     cases k1:((aN (L.getD d9 z3).1).any (mD L):Bool)
     ·refine cQ 13 h (by kernel_rfl) ?_
      have hx9:=hb.each _ (bU hdl9)
      refine ar ac 2 h rfl λf h=>aE ((hO.1.keep s.ext).el (d9) (by omega) (by decide) (D:=aP (L.getD d9 z3).1.me (L.getD d9 z3).1.pr (L.getD d9 z3).2.1 (L.getD d9 z3).2.2) (eE L d9 hdl9)) h bS rfl (aq _ _ _ _) rfl λf h=>bj h rL (λw9 hE9=>a6 (.bool true) (gi (L.getD d9 z3).1 (L.getD d9 z3).2.1 (L.getD d9 z3).2.2 w9 ((hO.2 _ (bU hdl9)).1.keep (s.ext.trans hE9)) ((hO.2 _ (bU hdl9)).2.keep (s.ext.trans hE9)) (by omega) (by omega)) (ar8 Value.bool k0)) rfl rfl λf h=>ar ac 4 h rfl λf h=>bD h rfl (aE ((hO.1.keep s.ext).el (d9) (by omega) (by decide) (D:=aP (L.getD d9 z3).1.me (L.getD d9 z3).1.pr (L.getD d9 z3).2.1 (L.getD d9 z3).2.2) (eE L d9 hdl9)) h bS rfl (aq _ _ _ _) rfl λf h=>bD h rfl (aX 4 h s cc rfl rfl (rfl) rfl λf h=>bD h rfl (bj h QY (λw9 hE9=>a6 (.bool true) (uV (L.getD d9 z3).1 (L.getD d9 z3).2.1 (L.getD d9 z3).2.2 L vo w9 ((hO.2 _ (bU hdl9)).1.keep (s.ext.trans hE9)) ((hO.2 _ (bU hdl9)).2.keep (s.ext.trans hE9)) (by omega) (by omega) (hO.keep (s.ext.trans hE9)) hL) (by rw [k1];rfl)) rfl rfl λf h=>ar ac 2 h rfl λf h=>bK s λw1 s=>oW h rfl (wpIn_skip (bo (⟨((WM k0).trans k1),_,rfl,s.pick _ ?_⟩))))))
      exact ar2 _ (List.Sublist.refl _)
     ·refine cQ 13 h (by kernel_rfl) ?_
      have hx9:=hb.each _ (bU hdl9)
      refine ar ac 2 h rfl λf h=>aE ((hO.1.keep s.ext).el (d9) (by omega) (by decide) (D:=aP (L.getD d9 z3).1.me (L.getD d9 z3).1.pr (L.getD d9 z3).2.1 (L.getD d9 z3).2.2) (eE L d9 hdl9)) h bS rfl (aq _ _ _ _) rfl λf h=>bj h rL (λw9 hE9=>a6 (.bool true) (gi (L.getD d9 z3).1 (L.getD d9 z3).2.1 (L.getD d9 z3).2.2 w9 ((hO.2 _ (bU hdl9)).1.keep (s.ext.trans hE9)) ((hO.2 _ (bU hdl9)).2.keep (s.ext.trans hE9)) (by omega) (by omega)) (ar8 Value.bool k0)) rfl rfl λf h=>ar ac 4 h rfl λf h=>bD h rfl (aE ((hO.1.keep s.ext).el (d9) (by omega) (by decide) (D:=aP (L.getD d9 z3).1.me (L.getD d9 z3).1.pr (L.getD d9 z3).2.1 (L.getD d9 z3).2.2) (eE L d9 hdl9)) h bS rfl (aq _ _ _ _) rfl λf h=>bD h rfl (aX 4 h s cc rfl rfl (rfl) rfl λf h=>bD h rfl (bj h QY (λw9 hE9=>a6 (.bool false) (uV (L.getD d9 z3).1 (L.getD d9 z3).2.1 (L.getD d9 z3).2.2 L vo w9 ((hO.2 _ (bU hdl9)).1.keep (s.ext.trans hE9)) ((hO.2 _ (bU hdl9)).2.keep (s.ext.trans hE9)) (by omega) (by omega) (hO.keep (s.ext.trans hE9)) hL) (by rw [k1];rfl)) rfl rfl λf h=>ar ac 2 h rfl λf h=>bK s λw1 s=>gh h rfl (qr (aJ 3 h s di rfl rfl rfl (by simp) (rfl) λw1 s=>nt (av8 (bh (⟨((WM k0).trans k1),_,rfl,s.pick _ ?_⟩))))))))
      exact ar2 _ (List.Sublist.refl _)
   ·intro D9 A9 w2 hJ9 hq9 s
    obtain rfl:=hJ9
    replace h:Sl _ {f with defers:={target:=.collected D9,args:=#[]}::f.defers} _ [{target:=.collected D9,args:=#[]}]:=⟨h.size,by rw [h.defers],h.holds⟩
    refine bo (aK (qr (aJ 3 h s di rfl rfl rfl (by simp) (rfl) λw1 s=>nt (av8 ?_))))
    exact g5 3 0 rfl h s di rfl rfl rfl rfl rfl (λw9=>(ar8 Value.bool (Nc r0 r1 hq9)).symm)
   ·intro D9 d9 A9 w2 hd9 hqd9 hq9 hJ9 s
    obtain rfl:=hJ9
    replace h:Sl _ {f with defers:={target:=.collected D9,args:=#[]}::f.defers} _ [{target:=.collected D9,args:=#[]}]:=⟨h.size,by rw [h.defers],h.holds⟩
    refine bh (aU ?_)
    exact g5 3 0 rfl h s di rfl rfl rfl rfl rfl (λw9=>(ar8 Value.bool (M4 r0 r1 hd9 hqd9)).symm)
set_option maxHeartbeats 1000000 in
theorem F4 (L:List N3) (vo:Value) (m:Mb) (no:Int) (w:World) (hO:kB w vo L) (hL:L.length<=40) (hb:RwB L):Calls Tryz.prog 72 [.agg #[vo],.agg (ay m),.int .i64 no].toArray w (cd w (T8 w (EY vo L) (um L m no) (p8 L m no))):=by
 refine bN Tryz.func72 rfl Tryz.ntmps72 rfl λf h s=>qr (aZ (#[vo]) h s rfl rfl rfl λf w1 b3 h s=>aZ ((ay m)) h s rfl rfl rfl λf w1 b4 h s=>aO (#[au]) h s qF rfl rfl λf w1 b6 h s=>e9 ac 1 h rfl λf h=>ah (ah ?_))
 refine aG (ak 2 h s cc rfl rfl (rfl) rfl λf h=>eC h s El (j9 L vo _ (hO.keep s.ext) hL hb) rfl rfl (λr0 f w1 h s=>?_) (λr0 f w1 h s=>?_))
 ·refine e9 ac 1 h rfl λf h=>dw h rfl (qr (am h (gJ yt) rfl λf h=>aj 0 h s cc rfl rfl rfl (rfl) (rfl) (ey (rfl)) λw1 s=>e9 ac 1 h rfl λf h=>rt (bL 0 rfl h s cc rfl rfl (rfl) rfl (o8 s (vR (Rr r0)).2 (vR (Rr r0)).1))))
 ·refine e9 ac 1 h rfl λf h=>mQ h rfl (ah ?_)
  cases h0:(gb m:Bool)
  ·refine aG (ak 1 h s aY rfl rfl (ai _) rfl λf h=>bB h s Ke (tZ m _) rfl rfl ?_);rintro f w1 v17 ⟨us,uf,rfl,hS⟩ hE h sq;rw [(zl h0).1,(zl h0).2] at h;rw [(zl h0).1] at hS;replace s:=s.add hS;clear hS
   refine al ac 3 h rfl λf h=>aO (aP bz bz au au) h s jJ rfl rfl λf w1 b8 h s=>aj 0 h s bS rfl rfl rfl (aq _ _ _ _) (aq _ _ _ _) (bP (aT (s.getSl 1 rfl)) (aT (s.getSl 2 rfl))) λw1 s=>e9 ac 1 h rfl λf h=>ah (cw ac 1 h rfl λf h=>lr ac (.bool true) h rfl (by rfl) rfl λf h=>gh h rfl (qr (am h (gJ yt) rfl λf h=>al ac 1 h rfl λf h=>aj 3 h s cc rfl rfl rfl (rfl) (rfl) (ey (rfl)) λw1 s=>e9 ac 1 h rfl λf h=>rt (bL 3 rfl h s cc rfl rfl (rfl) rfl (o8 s (vR (Ru h0)).2 (vR (Ru h0)).1)))))
  ·refine aG (ak 1 h s aY rfl rfl (ai _) rfl λf h=>bB h s Ke (tZ m _) rfl rfl ?_);rintro f w1 v17 ⟨us,uf,rfl,hS⟩ hE h sq;rw [(yW h0).1,(yW h0).2] at h;rw [(yW h0).1] at hS;replace s:=s.add hS;clear hS
   replace s:=s.resl (m:=1) (ys:=ap [m]) 0 rfl rfl rfl
   refine al ac 3 h rfl λf h=>aO (aP bz bz au au) h s jJ rfl rfl λf w1 b8 h s=>aj 0 h s bS rfl rfl rfl (aq _ _ _ _) (aq _ _ _ _) (bP (aT (s.getSl 1 rfl)) (aT (s.getSl 2 rfl))) λw1 s=>e9 ac 1 h rfl λf h=>ah (cw ac 1 h rfl λf h=>lr ac (.bool false) h rfl (by rfl) rfl λf h=>fL h rfl (ah (ah ?_)))
   cases j0:(GO L m:Bool)
   ·refine aG ?_
    have hok:=Rn r0 h0
    have hnos:=(oO r0).rs.nos
    refine ak 5 h s cc rfl rfl (rfl) rfl λf h=>ak 4 h s aY rfl rfl (ai _) rfl λf h=>jc false h s Jq (uB L vo m _ (hO.keep s.ext) hL hb) (j0) rfl rfl λf w1 h s=>fL h rfl (ah (cw ac 1 h rfl λf h=>ag (V:=vo) (ae (aF.of_own s 5 rfl) 0 rfl) h ew rfl rfl λf h=>bT h (hO.1.keep s.ext) aC0 rfl rfl λf h=>e9 ac 1 h rfl λf h=>cr h rfl (λhc=>?_) (λhc=>?_)))
    ·have hl0:0<L.length:=by have:=ar4 hc;omega
     refine ah ?_
     cases l0:(ck (aQ L) no:Bool)
     ·refine aG (ak 5 h s cc rfl rfl (rfl) rfl λf h=>al ac 1 h rfl λf h=>dM h s jI (a6 (.pointer none) (fK L vo no _ (hO.keep s.ext) hL) (yZ (ar5 ((jt hnos).trans l0)))) rfl rfl λf w1 h s=>e9 ac 1 h rfl λf h=>ah (cw ac 1 h rfl λf h=>am h (a8 (.bool true) (i5 aD2 (h.ev rfl) (h.ev rfl)) (rfl)) rfl λf h=>gh h rfl (qr (am h (gJ yt) rfl λf h=>aj 3 h s cc rfl rfl rfl (rfl) (rfl) (ey (rfl)) λw1 s=>e9 ac 1 h rfl λf h=>rt (aU (bL 3 rfl h s cc rfl rfl (rfl) rfl (o8 s ((rh hok).2.trans (RL (Q3 j0 hl0 l0) (by decide))) ((rh hok).1.trans (Q3 j0 hl0 l0)))))))))
     ·refine aG (ak 5 h s cc rfl rfl (rfl) rfl λf h=>al ac 1 h rfl λf h=>dM h s jI (a6 (.pointer (some (bC vo (fU L no*68)))) (fK L vo no _ (hO.keep s.ext) hL) (uN (ar4 ((jt hnos).trans l0)))) rfl rfl λf w1 h s=>e9 ac 1 h rfl λf h=>ah (qr ?_))
      have hix:fU L no<L.length:=ar4 ((jt hnos).trans l0)
      refine al ac 1 h rfl λf h=>am h (a8 (.bool false) (i5 aD2 (h.ev rfl) (h.ev rfl)) (rfl)) rfl λf h=>fL h rfl (cQ 7 h (by kernel_rfl) (ar ac 1 h rfl λf h=>ao (V:=us) (ae (aF.of_own s 0 rfl) 66 (gc _ _ _ _)) h c7 rfl rfl λf h=>ar ac 2 h rfl λf h=>av h (bf fw (h.ev rfl) ((hO.1.keep s.ext).some (by omega))) rfl λf h=>aE (br.elF (hO.1.keep s.ext) (fU L no) 0 33 (by omega) (by decide) (C:=aP (L.getD (fU L no) z3).1.me (L.getD (fU L no) z3).1.pr (L.getD (fU L no) z3).2.1 (L.getD (fU L no) z3).2.2) (eE L _ hix) (D:=ay (L.getD (fU L no) z3).1.me) (cN _ _ _ _)) h aY rfl (ai _) rfl λf h=>av h (bg (br.of_own (s.getSl 1 rfl)) (0) aD1 ed (h.ev rfl) (h.ev rfl) (by omega) (by omega)) rfl λf h=>bK s λw1 s=>gl 1 (0) h s aY rfl rfl rfl (ai _) (by omega) (bI _) (show _=ap [(L.getD (fU L no) z3).1.me] from KV (l:=[m]) _ Nat.zero_lt_one) λw1 s=>nt (qr (ak 5 h s cc rfl rfl (rfl) rfl λf h=>bB h s Cv (lg L vo _ (hO.keep s.ext) hL hb) rfl rfl ?_))));rintro f w1 v46 ⟨vq,K,ks,rfl,hnk,hS⟩ hE h sq;replace s:=s.add hS;clear hS
      have hlk:K.length=L.length:=by have h9:=ar8 List.length hnk;simpa [nds] using h9
      refine aj 7 h s cc rfl rfl rfl (rfl) (rfl) (ey (aT (s.getSl 0 rfl))) λw1 s=>nt (cw ac 1 h rfl λf h=>ag (V:=vq) (ae (aF.of_own s 7 rfl) 0 rfl) h ew rfl rfl λf h=>ak 2 h s bS rfl rfl (aq _ _ _ _) rfl λf h=>?_)
      have ho1:=aT (s.getSl 3 rfl)
      have ho2:=aT (s.getSl 4 rfl)
      refine cU (vs:=[.agg (aP m fe us uf)]) [.tmp 49] h s aC0 uP rfl rfl (D3 ((⟨m,fe,[(L.getD (fU L no) z3).1.me],[]⟩,us,uf):N3)) rfl rfl rfl λf w1 v50 h s=>?_
      replace s:=s.resl (m:=1) (ys:=x6 ((⟨m,fe,[(L.getD (fU L no) z3).1.me],[]⟩,us,uf):N3)) 0 rfl rfl (Jm ((⟨m,fe,[(L.getD (fU L no) z3).1.me],[]⟩,us,uf):N3))
      refine ez 1 0 h s aC0 uP rfl rfl rfl rfl (by decide) (bP ho1 ho2) (by unfold maxLen;omega) (by omega) rfl λf w1 v51 h s=>?_
      replace s:=s.pick _ (at7 _ _)
      replace s:=s.resl (m:=(K++[((⟨m,fe,[(L.getD (fU L no) z3).1.me],[]⟩,us,uf):N3)]).length) (ys:=ax (K++[((⟨m,fe,[(L.getD (fU L no) z3).1.me],[]⟩,us,uf):N3)])) 0 rfl (by rw [as2];rfl) (DQ _ _)
      refine al ac 1 h rfl λf h=>aJ 7 h s ew rfl rfl rfl (by show 0<1;decide) (aT (s.getSl 0 rfl)) λw1 s=>?_
      replace s:=s.recell (D:=#[v51]) 7 rfl rfl
      refine nt (cw ac 1 h rfl λf h=>ag (V:=v51) (ae (aF.of_own s 7 rfl) 0 rfl) h ew rfl rfl λf h=>?_)
      have hrs:=(oO r0).rs
      have ho9:∀ y∈K++[((⟨m,fe,[(L.getD (fU L no) z3).1.me],[]⟩,us,uf):N3)],y.2.1.oneCell'=true/\y.2.2.oneCell'=true:=λy hy=>by rcases av4.1 hy with hy|hy;exact(s.getG 1 rfl y hy).ones;rw [as9] at hy;subst hy;exact ⟨ho1,ho2⟩
      refine cF [v51,.func (.func 129) #[] #[]] h I5 (yx (K++[((⟨m,fe,[(L.getD (fU L no) z3).1.me],[]⟩,us,uf):N3)]) (by rw [as2];show K.length+1<=1000;omega) ho9 (EA hrs j0 hnk rfl) v51 _ _ _ s) rfl rfl ?_;rintro f w1 r ⟨K2,hkp,hks,s⟩ h
      replace s:=s.bring 1 rfl
      replace s:=s.bring 4 rfl
      replace s:=s.bring 4 rfl
      replace s:St w [.sl us 69 33 1 (ap [(L.getD (fU L no) z3).1.me]),.sl uf 69 33 ([]:List Mb).length (ap []),(.grp ks (eG K)),.sl v51 72 68 K2.length (ax K2),.blk b8 (.cells (aP m fe us uf) 72),.blk b6 (.cells (#[au]) 24),.blk b4 (.cells ((ay m)) 69),.blk b3 (.cells (#[v51]) 24)] _:=s
      obtain ⟨kn,s⟩:=s.grpR (S':=eG K2) (λw9 h1 h2 h3 y hy=>by rcases av4.1 (hkp.mem_iff.1 hy) with hy|hy;exact h3 y hy;rw [as9] at hy;subst hy;exact ⟨h1,h2⟩)
      refine nt (qr (ak 5 h s cc rfl rfl (rfl) rfl λf h=>aj 3 h s cc rfl rfl rfl (rfl) (rfl) (ey (aT (s.getSl 1 rfl))) λw1 s=>e9 ac 1 h rfl λf h=>av8 (bL 3 rfl h s cc rfl rfl (rfl) rfl (wC ((rh hok).1.trans (Nr j0 (.inr l0))) (D7 (Ln hok hrs j0 (Nr j0 (.inr l0)) hnk (by rw [ZL hl0,← (CQ hix).1]) hkp hks) (s.sel [1,0] rfl (by decide)))))))
    ·have hl0:¬ 0<L.length:=by have:=ar5 hc;omega
     refine kt (qr (ak 5 h s cc rfl rfl (rfl) rfl λf h=>bB h s Cv (lg L vo _ (hO.keep s.ext) hL hb) rfl rfl ?_));rintro f w1 v46 ⟨vq,K,ks,rfl,hnk,hS⟩ hE h sq;replace s:=s.add hS;clear hS
     have hlk:K.length=L.length:=by have h9:=ar8 List.length hnk;simpa [nds] using h9
     refine aj 7 h s cc rfl rfl rfl (rfl) (rfl) (ey (aT (s.getSl 0 rfl))) λw1 s=>nt (cw ac 1 h rfl λf h=>ag (V:=vq) (ae (aF.of_own s 7 rfl) 0 rfl) h ew rfl rfl λf h=>ak 2 h s bS rfl rfl (aq _ _ _ _) rfl λf h=>?_)
     have ho1:=aT (s.getSl 3 rfl)
     have ho2:=aT (s.getSl 4 rfl)
     refine cU (vs:=[.agg (aP m fe us uf)]) [.tmp 49] h s aC0 uP rfl rfl (D3 ((⟨m,fe,[m],[]⟩,us,uf):N3)) rfl rfl rfl λf w1 v50 h s=>?_
     replace s:=s.resl (m:=1) (ys:=x6 ((⟨m,fe,[m],[]⟩,us,uf):N3)) 0 rfl rfl (Jm ((⟨m,fe,[m],[]⟩,us,uf):N3))
     refine ez 1 0 h s aC0 uP rfl rfl rfl rfl (by decide) (bP ho1 ho2) (by unfold maxLen;omega) (by omega) rfl λf w1 v51 h s=>?_
     replace s:=s.pick _ (at7 _ _)
     replace s:=s.resl (m:=(K++[((⟨m,fe,[m],[]⟩,us,uf):N3)]).length) (ys:=ax (K++[((⟨m,fe,[m],[]⟩,us,uf):N3)])) 0 rfl (by rw [as2];rfl) (DQ _ _)
     refine al ac 1 h rfl λf h=>aJ 7 h s ew rfl rfl rfl (by show 0<1;decide) (aT (s.getSl 0 rfl)) λw1 s=>?_
     replace s:=s.recell (D:=#[v51]) 7 rfl rfl
     refine nt (cw ac 1 h rfl λf h=>ag (V:=v51) (ae (aF.of_own s 7 rfl) 0 rfl) h ew rfl rfl λf h=>?_)
     have hrs:=(oO r0).rs
     have ho9:∀ y∈K++[((⟨m,fe,[m],[]⟩,us,uf):N3)],y.2.1.oneCell'=true/\y.2.2.oneCell'=true:=λy hy=>by rcases av4.1 hy with hy|hy;exact(s.getG 1 rfl y hy).ones;rw [as9] at hy;subst hy;exact ⟨ho1,ho2⟩
     refine cF [v51,.func (.func 129) #[] #[]] h I5 (yx (K++[((⟨m,fe,[m],[]⟩,us,uf):N3)]) (by rw [as2];show K.length+1<=1000;omega) ho9 (EA hrs j0 hnk rfl) v51 _ _ _ s) rfl rfl ?_;rintro f w1 r ⟨K2,hkp,hks,s⟩ h
     replace s:=s.bring 1 rfl
     replace s:=s.bring 4 rfl
     replace s:=s.bring 4 rfl
     replace s:St w [.sl us 69 33 1 (ap [m]),.sl uf 69 33 ([]:List Mb).length (ap []),(.grp ks (eG K)),.sl v51 72 68 K2.length (ax K2),.blk b8 (.cells (aP m fe us uf) 72),.blk b6 (.cells (#[au]) 24),.blk b4 (.cells ((ay m)) 69),.blk b3 (.cells (#[v51]) 24)] _:=s
     obtain ⟨kn,s⟩:=s.grpR (S':=eG K2) (λw9 h1 h2 h3 y hy=>by rcases av4.1 (hkp.mem_iff.1 hy) with hy|hy;exact h3 y hy;rw [as9] at hy;subst hy;exact ⟨h1,h2⟩)
     refine nt (qr (ak 5 h s cc rfl rfl (rfl) rfl λf h=>aj 3 h s cc rfl rfl rfl (rfl) (rfl) (ey (aT (s.getSl 1 rfl))) λw1 s=>e9 ac 1 h rfl λf h=>av8 (bL 3 rfl h s cc rfl rfl (rfl) rfl (wC ((rh hok).1.trans (Nr j0 (.inl hl0))) (D7 (Ln hok hrs j0 (Nr j0 (.inl hl0)) hnk (by rw [ah3 hl0]) hkp hks) (s.sel [1,0] rfl (by decide)))))))
   ·refine aG ?_
    have hok:=Rn r0 h0
    have hnos:=(oO r0).rs.nos
    refine ak 5 h s cc rfl rfl (rfl) rfl λf h=>ak 4 h s aY rfl rfl (ai _) rfl λf h=>jc true h s Jq (uB L vo m _ (hO.keep s.ext) hL hb) (j0) rfl rfl λf w1 h s=>gh h rfl (qr (am h (gJ yt) rfl λf h=>aj 3 h s cc rfl rfl rfl (rfl) (rfl) (ey (rfl)) λw1 s=>e9 ac 1 h rfl λf h=>rt (bL 3 rfl h s cc rfl rfl (rfl) rfl (o8 s ((rh hok).2.trans (RL (Zd j0) (by decide))) ((rh hok).1.trans (Zd j0))))))
set_option maxHeartbeats 1000000 in
theorem wu (K:List N3) (ks:List Nat) (nos:List Int) (l:List Mb) (vq:Value) (kx bm:Nat) (B9:List Own) (w0 w:World) (s:St w0 (.sl vq 72 68 K.length (ax K)::.grp ks (eG K)::.blk bm (jm nos)::B9) w) (hk:kx<K.length) (hkl:K.length<=40) (hrn:RN (K.getD kx z3).1) (hbx:(K.getD kx z3).1.sc.length<=300/\(K.getD kx z3).1.fg.length<=300) (hal:∀ no,decide (no∈nos)=ck l no):Calls Tryz.prog 212 [.pointer (some (bC vq (kx*68))),.map (some bm)].toArray w (λe w9=>∃ r,e=.returned r/\∃ du dv kn,St w0 (.sl vq 72 68 (K.set kx (((dT l (K.getD kx z3).1),du,dv):N3)).length (ax (K.set kx (((dT l (K.getD kx z3).1),du,dv):N3)))::.grp kn (eG (K.set kx (((dT l (K.getD kx z3).1),du,dv):N3)))::.blk bm (jm nos)::B9) w9):=by
 have hkx:(aN (K.getD kx z3).1).length<=1000:=by simp only [aN,as2,av0];omega
 refine Fl Tryz.func212 rfl Tryz.ntmps212 rfl [(0,.pointer (some (bC vq (kx*68)))),(1,.map (some bm))] (by simp) λf h=>?_
 refine qr (aZ (#[.map (some bm)]) h s rfl rfl rfl λf w1 b3 h s=>nt (qr (aO (#[.slice none 0 0]) h s Uc rfl rfl λf w1 b4 h s=>nt (ah (cw ac 2 h rfl λf h=>az ((br.of_own (s.getSl 2 rfl)).el (kx) (by omega) (by decide) (D:=aP (K.getD kx z3).1.me (K.getD kx z3).1.pr (K.getD kx z3).2.1 (K.getD kx z3).2.2) (eE K kx hk)) h bS rfl (aq _ _ _ _) rfl λf h=>?_)))))
 replace s:=s.nilSl 3 1
 refine bB h s Bg (mV (K.getD kx z3).1 (K.getD kx z3).2.1 (K.getD kx z3).2.2 _ ((s.getG 4 rfl _ (bU hk))).1 ((s.getG 4 rfl _ (bU hk))).2 (by omega) (by omega)) rfl rfl ?_;rintro f w1 r9 ⟨bv,vk,rfl,hS⟩ hE h sq;replace s:=s.add hS;clear hS
 refine nt (av9 (eK (λd A9=>∃ vb:Value,A9=(.sl vb 3 1 (kA l (K.getD kx z3).1 d).length ((kA l (K.getD kx z3).1 d).map (Value.int .i64))::.blk b4 (.cells #[vb] 55)::.blk b3 (.cells #[.map (some bm)] 220)::.sl vq 72 68 K.length (ax K)::.grp ks (eG K)::.blk bm (jm nos)::B9)) (.sl (Value.slice none 0 0) 3 1 (kA l (K.getD kx z3).1 0).length ((kA l (K.getD kx z3).1 0).map (Value.int .i64))::.blk b4 (.cells #[(Value.slice none 0 0)] 55)::.blk b3 (.cells #[.map (some bm)] 220)::.sl vq 72 68 K.length (ax K)::.grp ks (eG K)::.blk bm (jm nos)::B9) [.blk bv (.cells #[vk] 70),.sl vk 69 33 (aN (K.getD kx z3).1).length (ap (aN (K.getD kx z3).1))] ((aN (K.getD kx z3).1).length) (λ_=>false) (λd=>[Value.agg (ay ((aN (K.getD kx z3).1).getD d bz))]) h s rfl Ca (List.Perm.refl _) (⟨_,rfl⟩) (λ_=>rfl) ?_ ?_ ?_ ?_))
 ·intro lp w2 GG g0 hg0 s2 hY;exact mC (aN (K.getD kx z3).1) hkx vk lp bv (λ_=>false) GG g0 w0 w2 s2 hg0 hY
 ·intro lp D9 d9 rc R9 A9 w2 hd9 hq9 hJ9 s
  obtain ⟨vb,rfl⟩:=hJ9
  have h:=Sl.round1 (p:=10) (V:=.agg (ay ((aN (K.getD kx z3).1).getD d9 bz))) h rfl
  have hdl9:=hd9
  refine aG (aO (ay bz) h s eV rfl rfl λf w1 b5 h s=>aj 0 h s aY rfl rfl rfl (ai _) (ai _) (bI _) λw1 s=>nt (⟨_,s.perm (ay7 (l₁:=[_])),λw3 s=>?_⟩))
  refine av9 (ah ?_)
  refine aG (cK 5 h s vA rfl rfl (rfl) rfl λf h=>al ac 1 h rfl λf h=>ag (ae (aF.of_own s 1 rfl) 0 (cf _)) h bu rfl rfl λf h=>S6 (ck l ((aN (K.getD kx z3).1).getD d9 bz).1) h s K4 (Dx nos bm ((aN (K.getD kx z3).1).getD d9 bz).1 _ (s.get 8 rfl)) ((hal _)) rfl rfl (λl1 f w1 h s=>?_) (λl1 f w1 h s=>?_))
  ·refine e9 ac 1 h rfl λf h=>dw h rfl (aG (cK 4 h s D5 rfl rfl (rfl) rfl λf h=>al ac 1 h rfl λf h=>ag (ae (aF.of_own s 1 rfl) 0 (cf _)) h bu rfl rfl λf h=>cU (vs:=[.int .i64 ((aN (K.getD kx z3).1).getD d9 bz).1]) [.tmp 18] h s aC7 SS rfl rfl (by simp [Value.cells]) rfl rfl rfl λf w1 v19 h s=>ez 4 0 h s aC7 SS rfl rfl rfl rfl (by decide) (by simp [Value.oneCell',Value.cells]) (by have h9:=vC l (K.getD kx z3).1 d9;unfold maxLen;omega) (by have h9:=vC l (K.getD kx z3).1 d9;omega) rfl λf w1 v20 h s=>?_))
   replace s:=s.pick _ (at7 _ _)
   replace s:=s.resl (m:=(kA l (K.getD kx z3).1 (d9+1)).length) (ys:=(kA l (K.getD kx z3).1 (d9+1)).map (Value.int .i64)) 3 rfl (by rw [KN hdl9 l1,as2];rfl) (by rw [KN hdl9 l1,az0];simp [Value.cells])
   refine aJ 4 h s D5 rfl rfl rfl (by simp) (aT (s.getSl 3 rfl)) λw1 s=>aw (bo (⟨rfl,_,⟨v20,rfl⟩,s.pick _ ?_⟩))
   exact ar2 _ (ar3 _ (List.Sublist.refl _))
  ·refine e9 ac 1 h rfl λf h=>mM h rfl (wpIn_skip (bo ?_))
   replace s:=s.resl (m:=(kA l (K.getD kx z3).1 (d9+1)).length) (ys:=(kA l (K.getD kx z3).1 (d9+1)).map (Value.int .i64)) 3 rfl (by rw [Jk hdl9 l1]) (by rw [Jk hdl9 l1])
   refine ⟨rfl,_,⟨vb,rfl⟩,s.pick _ ?_⟩
   exact ar2 _ (ar3 _ (List.Sublist.refl _))
 ·intro D9 A9 w2 hJ9 hq9 s
  obtain ⟨vb,rfl⟩:=hJ9
  replace h:Sl _ {f with defers:={target:=.collected D9,args:=#[]}::f.defers} _ [{target:=.collected D9,args:=#[]}]:=⟨h.size,by rw [h.defers],h.holds⟩
  rw [AP] at s
  have hdw:(oz l (K.getD kx z3).1).length<=1000:=by have h9:=vC l (K.getD kx z3).1 (aN (K.getD kx z3).1).length;rw [AP] at h9;omega
  refine bo (aK ?_)
  replace s:=s.bring 6 rfl
  replace s:St w0 (.sl vq 72 68 K.length (ax K)::.blk D9 (.deferred (some []))::.blk bv (.cells (#[vk]) 70)::.sl vk 69 33 (aN (K.getD kx z3).1).length (ap (aN (K.getD kx z3).1))::.sl vb 3 1 (oz l (K.getD kx z3).1).length ((oz l (K.getD kx z3).1).map (Value.int .i64))::.blk b4 (.cells (#[vb]) 55)::.blk b3 (.cells (#[.map (some bm)]) 220)::(.grp ks (eG K))::.blk bm (jm nos)::B9) _:=s
  have hrr:=jM.2 hrn
  have htd:VJ (K.getD kx z3).1 (oz l (K.getD kx z3).1)=(dT l (K.getD kx z3).1):=(uS _ hrr).1.trans (CH hrn).symm
  have hde:Vz (K.getD kx z3).1=0:=(uS [] hrr).2
  refine rM 1 [[],[],[1],[1,2],[],[1,2,3,4],[1,2,3,4,5],[1,2,3,4,5,6],[1,2,3,4,5,6],[0,1,2,3,4,5,6,7],[0,1,2,3,4,5,6,7,9]] [[],[],[],[11],[],[],[],[],[],[],[3]] [[_]] [.v _,.v _,.v _,.w (λv=>[.sl vq 72 68 K.length (ax K)]) (.agg (aP (K.getD kx z3).1.me (K.getD kx z3).1.pr (K.getD kx z3).2.1 (K.getD kx z3).2.2)),.v vb,.r (λv=>[.sl (bG 66 (v 5)) 69 33 (dT l (K.getD kx z3).1).sc.length (ap (dT l (K.getD kx z3).1).sc),.sl (bG 67 (v 5)) 69 33 (dT l (K.getD kx z3).1).fg.length (ap (dT l (K.getD kx z3).1).fg)]) (λv=>v 5=.tuple #[.agg (aP (dT l (K.getD kx z3).1).me (dT l (K.getD kx z3).1).pr (bG 66 (v 5)) (bG 67 (v 5))),.int .i64 0]),.f (λv=>v 6=.tuple #[.agg (aP (dT l (K.getD kx z3).1).me (dT l (K.getD kx z3).1).pr (bG 66 (v 5)) (bG 67 (v 5))),.int .i64 0]),.f (λv=>v 7=.agg (aP (dT l (K.getD kx z3).1).me (dT l (K.getD kx z3).1).pr (bG 66 (v 5)) (bG 67 (v 5)))),.v (.int .i64 0),.v _,.m (λv=>[.sl vq 72 68 (K.set kx (((dT l (K.getD kx z3).1),(bG 66 (v 5)),(bG 67 (v 5))):N3)).length (ax (K.set kx (((dT l (K.getD kx z3).1),(bG 66 (v 5)),(bG 67 (v 5))):N3)))])] _ h s rfl (by kernel_rfl) (by kernel_rfl) (by kernel_rfl) (fJ ac h rfl rfl rfl (fJ ac h rfl rfl rfl (fJ ac h rfl rfl rfl (bW ?_ (bW ?_ (bW ?_ (bW ?_ (bW ?_ (bW ?_ (fJ ac h rfl rfl rfl (bW ?_ (trivial)))))))))))) [0,1,2,4,5,6,7,8,9,10] (by kernel_rfl) ?_
  ·intro f9 w2 vl6 E9 hs9 hd9 hl hF s
   have h:=cb [(24,_)] h hs9 hd9 ⟨aS hl 24 2 (by kernel_rfl) (hF 2 (by decide)),trivial⟩
   refine az ((br.of_own (s.getSl 0 rfl)).el (kx) (by omega) (by decide) (D:=aP (K.getD kx z3).1.me (K.getD kx z3).1.pr (K.getD kx z3).2.1 (K.getD kx z3).2.2) (eE K kx hk)) h bS rfl (aq _ _ _ _) rfl λf h=>aw ⟨_,aV 25 h rfl rfl,rfl,s⟩
  ·intro f9 w2 vl6 E9 hs9 hd9 hl hF s
   have h:=cb [(4,_)] h hs9 hd9 ⟨d5 hl 4 (by kernel_rfl) (h.holds 4 _ rfl),trivial⟩
   refine cK 4 h s D5 rfl rfl (rfl) rfl λf h=>aw ⟨_,aV 26 h rfl rfl,rfl,s⟩
  ·intro f9 w2 vl6 E9 hs9 hd9 hl hF s
   have h:=cb [(25,_),(26,_)] h hs9 hd9 ⟨aS hl 25 3 (by kernel_rfl) (hF 3 (by decide)),aS hl 26 4 (by kernel_rfl) (hF 4 (by decide)),trivial⟩
   refine bB h s Tz (FL (K.getD kx z3).1 (K.getD kx z3).2.1 (K.getD kx z3).2.2 (oz l (K.getD kx z3).1) vb _ (s.getG 6 rfl _ (bU hk)).1 (s.getG 6 rfl _ (bU hk)).2 (by omega) (by omega) (br.of_own (s.getSl 3 rfl)) (by omega)) rfl rfl ?_;rintro f w1 v27 ⟨cu,cv,hv9,hS⟩ hE h sq;rw [htd,hde] at hv9;rw [htd] at hS;replace s:=s.add hS
   have h66:cu=bG 66 v27:=by rw [hv9];exact(rr (br.of_own (hS.getSl 0 rfl))).symm
   have h67:cv=bG 67 v27:=by rw [hv9];exact(sJ (br.of_own (hS.getSl 1 rfl))).symm
   clear hS
   subst h66;subst h67
   exact aw ⟨_,aV 27 h rfl rfl,hv9,s⟩
  ·intro f9 w2 vl6 E9 hs9 hd9 hl hF s
   have h:=cb [(27,.tuple #[.agg (aP (dT l (K.getD kx z3).1).me (dT l (K.getD kx z3).1).pr (bG 66 (vl6 5)) (bG 67 (vl6 5))),.int .i64 0])] h hs9 hd9 ⟨aS hl 27 5 (by kernel_rfl) (hF 5 (by decide)),trivial⟩
   refine al ac 1 h rfl λf h=>aw ⟨_,aV 21 h rfl rfl,rfl,s⟩
  ·intro f9 w2 vl6 E9 hs9 hd9 hl hF s
   have h:=cb [(21,.tuple #[.agg (aP (dT l (K.getD kx z3).1).me (dT l (K.getD kx z3).1).pr (bG 66 (vl6 5)) (bG 67 (vl6 5))),.int .i64 0])] h hs9 hd9 ⟨aS hl 21 6 (by kernel_rfl) (hF 6 (by decide)),trivial⟩
   refine al ac 1 h rfl λf h=>aw ⟨_,aV 28 h rfl rfl,rfl,s⟩
  ·intro f9 w2 vl6 E9 hs9 hd9 hl hF s
   have h:=cb [(21,.tuple #[.agg (aP (dT l (K.getD kx z3).1).me (dT l (K.getD kx z3).1).pr (bG 66 (vl6 5)) (bG 67 (vl6 5))),.int .i64 0])] h hs9 hd9 ⟨aS hl 21 6 (by kernel_rfl) (hF 6 (by decide)),trivial⟩
   refine al ac 1 h rfl λf h=>aw ⟨_,aV 29 h rfl rfl,rfl,s⟩
  ·intro f9 w2 vl6 E9 hs9 hd9 hl hF s
   have h:=cb [(30,_),(28,.agg (aP (dT l (K.getD kx z3).1).me (dT l (K.getD kx z3).1).pr (bG 66 (vl6 5)) (bG 67 (vl6 5))))] h hs9 hd9 ⟨aS hl 30 9 (by kernel_rfl) (hF 9 (by decide)),aS hl 28 7 (by kernel_rfl) (hF 7 (by decide)),trivial⟩
   refine gl 0 (kx) h s bS rfl rfl rfl (aq _ _ _ _) (by omega) (bP (g6 _ _) (g6 _ _)) (show _=ax (K.set kx (((dT l (K.getD kx z3).1),(bG 66 (vl6 5)),(bG 67 (vl6 5))):N3)) from su hk (((dT l (K.getD kx z3).1),(bG 66 (vl6 5)),(bG 67 (vl6 5))):N3)) λw1 s=>?_
   replace s:=s.resl (m:=(K.set kx (((dT l (K.getD kx z3).1),(bG 66 (vl6 5)),(bG 67 (vl6 5))):N3)).length) (ys:=ax (K.set kx (((dT l (K.getD kx z3).1),(bG 66 (vl6 5)),(bG 67 (vl6 5))):N3))) 0 rfl (by rw [List.length_set]) rfl
   exact aw ⟨undef,gd rfl,trivial,s⟩
  intro f w1 vl6 hs9 hd9 hv hr hF s
  replace h:=kj (ops:=_) [(22,_),(23,_),(24,_),(25,_),(26,_),(27,.tuple #[.agg (aP (dT l (K.getD kx z3).1).me (dT l (K.getD kx z3).1).pr (bG 66 (vl6 5)) (bG 67 (vl6 5))),.int .i64 0]),(21,.tuple #[.agg (aP (dT l (K.getD kx z3).1).me (dT l (K.getD kx z3).1).pr (bG 66 (vl6 5)) (bG 67 (vl6 5))),.int .i64 0]),(28,.agg (aP (dT l (K.getD kx z3).1).me (dT l (K.getD kx z3).1).pr (bG 66 (vl6 5)) (bG 67 (vl6 5)))),(29,_),(30,_)] h hs9 hd9 hr ⟨(hv 0 22 rfl).trans (hF 0 rfl),(hv 1 23 rfl).trans (hF 1 rfl),(hv 2 24 rfl).trans (hF 2 rfl),(hv 3 25 rfl).trans (hF 3 rfl),(hv 4 26 rfl).trans (hF 4 rfl),(hv 5 27 rfl).trans (hF 5 rfl),(hv 6 21 rfl).trans (hF 6 rfl),(hv 7 28 rfl).trans (hF 7 rfl),(hv 8 29 rfl).trans (hF 8 rfl),(hv 9 30 rfl).trans (hF 9 rfl),trivial⟩ (by kernel_rfl)
  replace s:St w0 (.sl (bG 66 (vl6 5)) 69 33 (dT l (K.getD kx z3).1).sc.length (ap (dT l (K.getD kx z3).1).sc)::.sl (bG 67 (vl6 5)) 69 33 (dT l (K.getD kx z3).1).fg.length (ap (dT l (K.getD kx z3).1).fg)::.sl vq 72 68 (K.set kx (((dT l (K.getD kx z3).1),(bG 66 (vl6 5)),(bG 67 (vl6 5))):N3)).length (ax (K.set kx (((dT l (K.getD kx z3).1),(bG 66 (vl6 5)),(bG 67 (vl6 5))):N3)))::.blk D9 (.deferred (some []))::.blk bv (.cells (#[vk]) 70)::.sl vk 69 33 (aN (K.getD kx z3).1).length (ap (aN (K.getD kx z3).1))::.sl vb 3 1 (oz l (K.getD kx z3).1).length ((oz l (K.getD kx z3).1).map (Value.int .i64))::.blk b4 (.cells (#[vb]) 55)::.blk b3 (.cells (#[.map (some bm)]) 220)::(.grp ks (eG K))::.blk bm (jm nos)::B9) _:=s
  replace s:=s.bring 9 rfl
  replace s:=s.bring 2 rfl
  replace s:=s.bring 2 rfl
  replace s:St w0 (.sl (bG 66 (vl6 5)) 69 33 (dT l (K.getD kx z3).1).sc.length (ap (dT l (K.getD kx z3).1).sc)::.sl (bG 67 (vl6 5)) 69 33 (dT l (K.getD kx z3).1).fg.length (ap (dT l (K.getD kx z3).1).fg)::(.grp ks (eG K))::.sl vq 72 68 (K.set kx (((dT l (K.getD kx z3).1),(bG 66 (vl6 5)),(bG 67 (vl6 5))):N3)).length (ax (K.set kx (((dT l (K.getD kx z3).1),(bG 66 (vl6 5)),(bG 67 (vl6 5))):N3)))::.blk D9 (.deferred (some []))::.blk bv (.cells (#[vk]) 70)::.sl vk 69 33 (aN (K.getD kx z3).1).length (ap (aN (K.getD kx z3).1))::.sl vb 3 1 (oz l (K.getD kx z3).1).length ((oz l (K.getD kx z3).1).map (Value.int .i64))::.blk b4 (.cells (#[vb]) 55)::.blk b3 (.cells (#[.map (some bm)]) 220)::.blk bm (jm nos)::B9) _:=s
  obtain ⟨kn,s⟩:=s.grpR (S':=eG (K.set kx (((dT l (K.getD kx z3).1),(bG 66 (vl6 5)),(bG 67 (vl6 5))):N3))) (λw9 h1 h2 h3=>nX h3 ⟨h1,h2⟩)
  replace s:=s.bring 8 rfl
  replace s:=s.bring 1 rfl
  replace s:=s.bring 2 rfl
  replace s:St w0 (.sl vq 72 68 (K.set kx (((dT l (K.getD kx z3).1),(bG 66 (vl6 5)),(bG 67 (vl6 5))):N3)).length (ax (K.set kx (((dT l (K.getD kx z3).1),(bG 66 (vl6 5)),(bG 67 (vl6 5))):N3)))::(.grp kn (eG (K.set kx (((dT l (K.getD kx z3).1),(bG 66 (vl6 5)),(bG 67 (vl6 5))):N3))))::.blk bm (jm nos)::.blk D9 (.deferred (some []))::.blk bv (.cells (#[vk]) 70)::.sl vk 69 33 (aN (K.getD kx z3).1).length (ap (aN (K.getD kx z3).1))::.sl vb 3 1 (oz l (K.getD kx z3).1).length ((oz l (K.getD kx z3).1).map (Value.int .i64))::.blk b4 (.cells (#[vb]) 55)::.blk b3 (.cells (#[.map (some bm)]) 220)::B9) _:=s
  exact wX 3 rfl h s rfl (λw9 s9=>⟨_,rfl,_,_,kn,(s9.pick _ (ar2 _ (ar2 _ (ar2 _ (ar3 _ (ar3 _ (ar3 _ (ar3 _ (ar3 _ (ar3 _ (List.Sublist.refl _)))))))))))⟩)
 ·intro D9 d9 A9 w2 hd9 hqd9 hq9 hJ9 s
  cases hqd9
end Go.Proofs.YtkhepdpfdhdlaaaGreatDoor
