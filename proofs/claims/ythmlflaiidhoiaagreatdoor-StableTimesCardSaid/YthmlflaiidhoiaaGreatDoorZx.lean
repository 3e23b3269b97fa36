/- Package stable and what it stands on, so far as it is wanted: what each function answers. -/
import Derived.Test.YthmlflaiidhoiaaGreatDoorZw
import Derived.Test.YthmlflaiidhoiaaGreatDoorZv
import Derived.Test.YthmlflaiidhoiaaGreatDoorZa
import Derived.Test.YthmlflaiidhoiaaGreatDoorZf
import Derived.Test.YthmlflaiidhoiaaGreatDoorZl
import Derived.Test.YthmlflaiidhoiaaGreatDoorZn
import Derived.Test.YthmlflaiidhoiaaGreatDoorZq
import Derived.Test.YthmlflaiidhoiaaGreatDoorZh
set_option linter.unusedVariables false
set_option linter.unusedSimpArgs false
set_option linter.unusedSectionVars false
namespace Go.Proofs.YthmlflaiidhoiaaGreatDoor
open Go.RowKit
set_option maxHeartbeats 1000000 in
theorem oU (X:Wx) (vo vs vh vl:Value)  (w:World) (hX:RdW w vo vs vh vl X) (hb:BdW (aM X)):Calls Tryz.prog 6 [.agg (cY vo vs vh vl X.M.last X.M.now)].toArray w (bW w (is (.bool (iP (aM X))))):=by
 have hml:(av X.L).length=X.L.length:=au1 _
 have hbL:=hb.ox
 refine eh Tryz.func6 rfl Tryz.ntmps6 rfl [(0,.agg (cY vo vs vh vl X.M.last X.M.now))] (by simp) λf h=>?_
 have s:=St.start w
 refine qr (ba (cY vo vs vh vl X.M.last X.M.now) h s rfl rfl rfl λf w1 b1 h s=>aK (#[.bool false]) h s zD rfl rfl λf w1 b2 h s=>nt (ag (ag ?_)))
 refine aC (al 1 h s dC rfl rfl (bo _ _ _ _ _ _) rfl λf h=>fx h s Kz (lM X vo vs vh vl _ (hX.keep s.ext) hb) rfl rfl (λr0 f w1 h s=>?_) (λr0 f w1 h s=>?_))
 ·refine e9 ac 7 h rfl λf h=>dF h rfl (qr (aB 0 h s ez rfl rfl rfl (by simp) (rfl) λw1 s=>nt (rt ?_)))
  exact g6 0 rfl h s ez rfl rfl rfl (λw9=>by show _=_;rw [ST r0];rfl)
 ·skip
  cases r1:(cV X.L:Bool)
  ·refine ap ac 3 h rfl λf h=>cg h rfl (ax (aX.subL (aX.of_own s 1 rfl) 0 1 (D:=#[vo]) (LB _ _ _ _ _ _)) h cH rfl (rfl) rfl λf h=>cg h rfl (jX false h s QI (qM X.L vo _ (hX.keep s.ext).ov hb.ox hb.oe) (r1) rfl rfl λf w1 h s=>e9 ac 2 h rfl λf h=>dF h rfl (qr (aB 0 h s ez rfl rfl rfl (by simp) (rfl) λw1 s=>nt (rt ?_)))))
   exact g6 0 rfl h s ez rfl rfl rfl (λw9=>by show _=_;rw [SS r1];rfl)
  ·refine ap ac 3 h rfl λf h=>cg h rfl (ax (aX.subL (aX.of_own s 1 rfl) 0 1 (D:=#[vo]) (LB _ _ _ _ _ _)) h cH rfl (rfl) rfl λf h=>cg h rfl (bg h s QI (bK (.bool true) (qM X.L vo _ (hX.keep s.ext).ov hb.ox hb.oe) (aq3 Value.bool r1)) rfl rfl ?_));intro f w1 v9 hT hE h s;obtain rfl:=hT
   refine e9 ac 2 h rfl λf h=>ry h rfl (cw ac 1 h rfl λf h=>ax (aX.subL (aX.of_own s 1 rfl) 0 1 (D:=#[vo]) (LB _ _ _ _ _ _)) h cH rfl (rfl) rfl λf h=>bg h s Dq (iw X.L vo _ ((hX.keep s.ext).ov) hb.ox) rfl rfl ?_);intro f w1 v19 hT hE h sq;replace s:=s.sl_new hE hT
   refine aK (#[.slice none 0 0]) h s xi rfl rfl λf w1 b3 h s=>aB 0 h s ci rfl rfl rfl (by simp) (aZ (s.getSl 1 rfl)) λw1 s=>nt (ag (qr (al 3 h s dC rfl rfl (bo _ _ _ _ _ _) rfl λf h=>df [.agg (cY vo vs vh vl X.M.last X.M.now)] h RM (Ea X vo vs vh vl _ hX _ _ _ s) rfl rfl ?_)));rintro f w1 r ⟨bn,rfl,s⟩ h
   refine nt (au4 (eg (λd A9=>A9=[.blk b3 (.cells #[v19] 61),.sl v19 60 33 (av X.L).length (aj (av X.L)),.blk b2 (.cells #[.bool false] 4),.blk b1 (.cells (cY vo vs vh vl X.M.last X.M.now) 31)]) [.blk b3 (.cells #[v19] 61),.sl v19 60 33 (av X.L).length (aj (av X.L)),.blk b2 (.cells #[.bool false] 4),.blk b1 (.cells (cY vo vs vh vl X.M.last X.M.now) 31)] [.blk bn (.cells (cY vo vs vh vl X.M.last X.M.now) 31)] ((mz (aM X)).length) (Rb (aM X)) (λd=>[Value.int .i64 (jF (aM X) d).1,.agg (aV (jF (aM X) d).2)]) h s rfl RE (List.Perm.refl _) (rfl) (λ_=>rfl) ?_ ?_ ?_ ?_))
   ·intro lp w2 GG g0 hg0 s2 hY;exact tv X vo vs vh vl lp bn (Rb (aM X)) GG g0 w w2 s2 hg0 hX hb hY
   ·intro lp D9 d9 rc R9 A9 w2 hd9 hq9 hJ9 s
    obtain rfl:=hJ9
    have h:=Sl.round2 (p:=22) (q:=23) (V:=.int .i64 (jF (aM X) d9).1) (U:=.agg (aV (jF (aM X) d9).2)) h rfl rfl
    have eow:=US r0 r1 hd9
    refine bD ac 1 h rfl λf h=>aC (aK (aV cr) h s nz rfl rfl λf w1 b5 h s=>am 0 h s cO rfl rfl rfl (aN _) (aN _) (ft _) λw1 s=>nt (⟨_,s.perm (ax2 (l₁:=[_])),λw3 s=>?_⟩))
    refine au4 (qr (bT 3 h s ci rfl rfl (rfl) rfl λf h=>ap ac 1 h rfl λf h=>ax (aX.subL (aX.of_own s 1 rfl) 0 32 (D:=aJ (_)) (jJ _)) h bO rfl (by first|exact az _|exact ay _ _) rfl λf h=>fP h s Y5 (GV (av X.L) v19 (jF (aM X) d9).2.1 _ (a7.of_own (s.getSl 4 rfl)) (by omega)) rfl rfl λf w1 h s=>ap ac 3 h rfl λf h=>aK (ar aS) h s cQ rfl rfl λf w1 b6 h s=>am 0 h s aI rfl rfl rfl (ae _) (ae _) (aP _) λw1 s=>e9 ac 1 h rfl λf h=>ag ?_))
    cases q0:(decide ((wC (av X.L) (jF (aM X) d9).2.1).1=(jF (aM X) d9).1):Bool)
    ·refine rs ac 1 h rfl λf h=>ai (ah (aX.of_own s 0 rfl) 0 (bH _)) h bQ rfl rfl λf h=>ap ac 1 h rfl λf h=>jy ac h rfl (by simpa using q0) λf h=>iz h rfl (qr (aB 6 h s ez rfl rfl rfl (by simp) (rfl) λw1 s=>nt (au3 (aY (⟨(eow.trans (by rw [q0];rfl)),_,rfl,s.pick _ ?_⟩)))))
     exact ap8 _ (ap7 _ (ap8 _ (List.Sublist.refl _)))
    ·refine rs ac 1 h rfl λf h=>ai (ah (aX.of_own s 0 rfl) 0 (bH _)) h bQ rfl rfl λf h=>ap ac 1 h rfl λf h=>jd ac h rfl (by simpa using q0) λf h=>tS h rfl (wpIn_skip (aW (⟨(eow.trans (by rw [q0];rfl)),_,rfl,s.pick _ ?_⟩)))
     exact ap8 _ (ap7 _ (ap8 _ (List.Sublist.refl _)))
   ·intro D9 A9 w2 hJ9 hq9 s
    obtain rfl:=hJ9
    replace h:Sl _ {f with defers:={target:=.collected D9,args:=#[]}::f.defers} _ [{target:=.collected D9,args:=#[]}]:=⟨h.size,by rw [h.defers],h.holds⟩
    refine aW (aG (qr (aB 4 h s ez rfl rfl rfl (by simp) (rfl) λw1 s=>nt (au3 ?_))))
    exact fT 4 0 rfl h s ez rfl rfl rfl rfl rfl (λw9=>(aq3 Value.bool (Pj r0 (Xc r1) hq9)).symm)
   ·intro D9 d9 A9 w2 hd9 hqd9 hq9 hJ9 s
    obtain rfl:=hJ9
    replace h:Sl _ {f with defers:={target:=.collected D9,args:=#[]}::f.defers} _ [{target:=.collected D9,args:=#[]}]:=⟨h.size,by rw [h.defers],h.holds⟩
    refine aY (aQ ?_)
    exact fT 4 0 rfl h s ez rfl rfl rfl rfl rfl (λw9=>(aq3 Value.bool (PT hd9 hqd9)).symm)
theorem qw (X:Wx) (vo vs vh vl:Value) (a:Ac) (va:Value) (w:World) (hX:RdW w vo vs vh vl X) (hb:BdW (aM X)) (hr:bN (aM X)=true) (hA:Co w va a.l) (hal:a.l.length<=1000) (hk:a.k=5):Calls Tryz.prog 9 [.agg (cY vo vs vh vl X.M.last X.M.now),.agg (fb a va)].toArray w (bW w (WA w vo vs vh vl X va a.l (bY (aM X) a))):=by
 refine rY X vo vs vh vl a va 51 w hX hb hr hA (by omega) (by omega) ⟨_,by rw [hk];rfl⟩ Xa ?_
 intro po ps ph pl pn Y kk c B9 w0 w1 hY hU s
 have hb9:BdW (aM Y):=by rw [hY];exact hb
 have hr9:bN (aM Y)=true:=by rw [hY];exact hr
 have h:=Bq po ps ph pl pn Y kk c B9 a va w0 w1 s hb9 hU
 rw [hY] at h
 rw [hk]
 exact h
set_option maxHeartbeats 2000000 in
theorem Gl  (w:World):Calls Tryz.prog 21 [.agg (cY aq aq aq aq mB.M.last mB.M.now),aq].toArray w (bW w (ad0 w aq aq aq aq mB (GX (aM mB) []))):=by
 refine eh Tryz.func21 rfl Tryz.ntmps21 rfl [(0,.agg (cY aq aq aq aq mB.M.last mB.M.now)),(1,aq)] (by simp) λf h=>?_
 have s:=St.start w
 refine qr (ba (cY aq aq aq aq mB.M.last mB.M.now) h s rfl rfl rfl λf w1 b2 h s=>aK (cY aq aq aq aq 0 0) h s py rfl rfl λf w1 b4 h s=>aK (#[.slice none 0 0]) h s I5 rfl rfl λf w1 b5 h s=>aK (#[.int .i64 0]) h s IP rfl rfl λf w1 b6 h s=>nt (qr (al 3 h s dC rfl rfl (bo _ _ _ _ _ _) rfl λf h=>ak h (n8 JN rfl) rfl λf h=>bg h s TK (qw mB aq aq aq aq (dG 5 0) aq _ (c7 _) XD SP (bX _) (as3 _) rfl) rfl rfl ?_)));rintro f w1 v18 ⟨oa,sa,ha,la,na,Ya,ka,rfl,qa,hG⟩ hE h sq;replace s:=s.add hG;clear hG
 have ea:aM Ya=A7:=by rw [qa];exact Bj.1
 have fa:(bY (aM mB) (dG 5 0)).e=0:=Bj.2.1
 have na0:(bY (aM mB) (dG 5 0)).n.length=0:=Bj.2.2
 have mla:Ya.M.l.length=0:=by have h9:(aM Ya).ml.l.length=0:=by {rw [ea];rfl};exact h9
 refine ap ac 4 h rfl λf h=>aK (#[.slice none 0 0]) h s I5 rfl rfl λf w1 b7 h s=>am 5 h s dC rfl rfl rfl (bo _ _ _ _ _ _) (bo _ _ _ _ _ _) (gY _ _ (bJ ((s.getG 1 rfl) (c7 _) (bX _)).1.ov.1) (bJ ((s.getG 1 rfl) (c7 _) (bX _)).1.sv) (bJ ((s.getG 1 rfl) (c7 _) (bX _)).1.ho) (bJ ((s.getG 1 rfl) (c7 _) (bX _)).1.ml)) λw1 s=>aB 0 h s zi rfl rfl rfl (by simp) (bJ ((s.getG 1 rfl) (c7 _) (bX _)).2) λw1 s=>e9 ac 1 h rfl λf h=>ag (cw ac 1 h rfl λf h=>jd ac h rfl (by rw [fa];rfl) λf h=>iA h rfl (qr (aK (#[.int .i64 0]) h s Y4 rfl rfl λf w1 b9 h s=>aB 0 h s bQ rfl rfl rfl (by simp) (rfl) λw1 s=>nt (ag (cw ac 1 h rfl λf h=>df [aq] h Wu (NJ _ _ _ s) rfl rfl ?_)))));rintro f w1 r ⟨bn,vr,rfl,s⟩ h
 refine nt (au4 (JS 0 (λ_ A9=>A9=[.blk b9 (.cells #[.int .i64 0] 3),.blk b7 (.cells #[na] 38),.grp ka (λw9=>RdW w9 aq aq aq aq mB->Co w9 aq (dG 5 0).l->RdW w9 oa sa ha la Ya/\a7 w9 na 74 (bY (aM mB) (dG 5 0)).n.length (dB (bY (aM mB) (dG 5 0)).n)),.blk b6 (.cells #[.int .i64 0] 35),.blk b5 (.cells #[aq] 38),.blk b4 (.cells (cY aq aq aq aq 0 0) 31),.blk b2 (.cells (cY oa sa ha la Ya.M.last Ya.M.now) 31)]) [.blk b9 (.cells #[.int .i64 0] 3),.blk b7 (.cells #[na] 38),.grp ka (λw9=>RdW w9 aq aq aq aq mB->Co w9 aq (dG 5 0).l->RdW w9 oa sa ha la Ya/\a7 w9 na 74 (bY (aM mB) (dG 5 0)).n.length (dB (bY (aM mB) (dG 5 0)).n)),.blk b6 (.cells #[.int .i64 0] 35),.blk b5 (.cells #[aq] 38),.blk b4 (.cells (cY aq aq aq aq 0 0) 31),.blk b2 (.cells (cY oa sa ha la Ya.M.last Ya.M.now) 31)] [.sl vr 3 1 1 [.int .i64 0],.blk bn (.cells #[vr] 106)] (1) (λ_=>true) (λ_=>[Value.int .i64 0]) h s rfl XT (List.Perm.refl _) (rfl) (λ_=>rfl) ?_ ?_ ?_ ?_))
 ·intro lp w2 GG g0 hg0 s2 hY;exact Ge vr lp bn (λ_=>true) GG g0 w w2 s2 hg0 rfl hY
 ·intro lp D9 d9 rc R9 A9 w2 hd9 hq9 hJ9 s
  obtain rfl:=hJ9
  have h:=Sl.round1 (p:=28) (V:=.int .i64 0) h rfl
  refine re ac 1 h rfl λf h=>⟨_,s,λw3 s=>?_⟩
  refine au4 (cw ac 2 h rfl λf h=>ai (V:=la) (ah (aX.of_own s 8 rfl) 3 (NS _ _ _ _ _ _)) h mO rfl rfl λf h=>ak h (bk (.int .i64 0) (l9 (((s.getG 4 rfl) (c7 _) (bX _)).1.ml) aA4 (h.ev rfl)) (aq3 (Value.int .i64) (by omega))) rfl λf h=>e9 ac 1 h rfl λf h=>ag (cw ac 1 h rfl λf h=>jy ac h rfl (aq2 (rfl)) λf h=>e9 ac 4 h rfl λf h=>dF h rfl (au5 (aT (xB rfl (⟨⟨rfl,rfl⟩,_,rfl,s.pick _ ?_⟩))))))
  exact ap7 _ (List.Sublist.refl _)
 ·intro D9 A9 w2 hJ9 hq9 s
  obtain rfl:=hJ9
  replace h:Sl _ {f with defers:={target:=.collected D9,args:=#[]}::f.defers} _ [{target:=.collected D9,args:=#[]}]:=⟨h.size,by rw [h.defers],h.holds⟩
  exact ax7 (hq9 0 (by decide)) (by decide)
 ·intro D9 d9 A9 w2 hd9 hqd9 hq9 hJ9 s
  obtain rfl:=hJ9
  replace h:Sl _ {f with defers:={target:=.collected D9,args:=#[]}::f.defers} _ [{target:=.collected D9,args:=#[]}]:=⟨h.size,by rw [h.defers],h.holds⟩
  refine bS (aG (ag (cw ac 2 h rfl λf h=>ai (V:=la) (ah (aX.of_own s 9 rfl) 3 (NS _ _ _ _ _ _)) h mO rfl rfl λf h=>ak h (bk (.int .i64 0) (l9 (((s.getG 5 rfl) (c7 _) (bX _)).1.ml) aA4 (h.ev rfl)) (aq3 (Value.int .i64) (by omega))) rfl λf h=>jd ac h rfl (aq1 (by decide)) λf h=>iA h rfl (ag ?_))))
  replace s:=s.bring 7 rfl
  replace s:=s.bring 8 rfl
  replace s:St w [.blk b4 (.cells (cY aq aq aq aq 0 0) 31),.blk b5 (.cells (#[aq]) 38),.blk D9 (.deferred (some [])),.sl vr 3 1 1 [.int .i64 0],.blk bn (.cells (#[vr]) 106),.blk b9 (.cells (#[.int .i64 0]) 3),.blk b7 (.cells (#[na]) 38),(.grp ka (λw9=>RdW w9 aq aq aq aq mB->Co w9 aq (dG 5 0).l->RdW w9 oa sa ha la Ya/\a7 w9 na 74 (bY (aM mB) (dG 5 0)).n.length (dB (bY (aM mB) (dG 5 0)).n))),.blk b6 (.cells (#[.int .i64 0]) 35),.blk b2 (.cells (cY oa sa ha la Ya.M.last Ya.M.now) 31)] _:=s
  refine jC 1 3 [[],[],[0],[0,1,2],[0,1,2,3]] [[],[],[5],[],[]] [[_]] [.v (.agg (cY oa sa ha la Ya.M.last Ya.M.now)),.v na,.m (λv=>[.blk b4 (.cells (cY oa sa ha la Ya.M.last Ya.M.now) 31)]),.n,.n] _ h s rfl (by kernel_rfl) (by kernel_rfl) (by kernel_rfl) (cq ?_ (cq ?_ (cq ?_ (trivial)))) [0,1,2] (by kernel_rfl) ?_
  ·intro f9 w2 vl16 E9 hs9 hd9 hl hF s
   have h:=cJ [(2,_)] h hs9 hd9 ⟨gp hl 2 (by kernel_rfl) (h.holds 2 _ rfl),trivial⟩
   refine al 8 h s dC rfl rfl (bo _ _ _ _ _ _) rfl λf h=>aE ⟨_,bq 65 h rfl rfl,rfl,s⟩
  ·intro f9 w2 vl16 E9 hs9 hd9 hl hF s
   have h:=cJ [(7,_)] h hs9 hd9 ⟨gp hl 7 (by kernel_rfl) (h.holds 7 _ rfl),trivial⟩
   refine bT 5 h s zi rfl rfl (rfl) rfl λf h=>aE ⟨_,bq 66 h rfl rfl,rfl,s⟩
  ·intro f9 w2 vl16 E9 hs9 hd9 hl hF s
   have h:=cJ [(4,_),(65,_)] h hs9 hd9 ⟨gp hl 4 (by kernel_rfl) (h.holds 4 _ rfl),bp hl 65 0 (by kernel_rfl) (hF 0 (by decide)),trivial⟩
   refine am 0 h s dC rfl rfl rfl (bo _ _ _ _ _ _) (bo _ _ _ _ _ _) (gY _ _ (bJ (((s.getG 7 rfl) (c7 _) (bX _)).1.ov.1)) (bJ (((s.getG 7 rfl) (c7 _) (bX _)).1.sv)) (bJ (((s.getG 7 rfl) (c7 _) (bX _)).1.ho)) (bJ (((s.getG 7 rfl) (c7 _) (bX _)).1.ml))) λw1 s=>aE ⟨undef,gO rfl,trivial,s⟩
  intro f w1 vl16 hs9 hd9 hv hr hF s
  replace hv:=λi d h9=>hv i d (show Nat.blt i 3=true from h9)
  replace h:=jx 3 (ops:=_) [(65,_),(66,_)] h hs9 hd9 hr ⟨(hv 0 65 rfl rfl).trans (hF 0 rfl),(hv 1 66 rfl rfl).trans (hF 1 rfl),trivial⟩ (by kernel_rfl)
  refine aB 1 h s zi rfl rfl rfl (by simp) (bJ ((s.getG 7 rfl) (c7 _) (bX _)).2) λw1 s=>aB 8 h s qs rfl rfl rfl (by simp) (rfl) λw1 s=>nt (au3 ?_)
  exact xP 0 1 8 2 rfl h s dC zi qs rfl rfl rfl rfl rfl rfl rfl (bo _ _ _ _ _ _) rfl rfl (λw9 s9=>⟨oa,sa,ha,la,na,Ya,ka,by rw [u7];rfl,by rw [u7];exact ea,by rw [u7];exact(s9.sel [7] rfl (by decide)).weak (λw9 h9 _=>⟨(h9 (c7 _) (bX _)).1,by have h8:=(h9 (c7 _) (bX _)).2;rwa [show (bY (aM mB) (dG 5 0)).n=[] from List.length_eq_zero_iff.1 na0] at h8⟩)⟩)
set_option maxHeartbeats 2000000 in
theorem lI  (w:World):Calls Tryz.prog 7 [].toArray w (bW w (is (.bool true))):=by
 refine bG Tryz.func7 rfl Tryz.ntmps7 rfl λf h s=>bD ac 1 h rfl λf h=>qr (ak h (oY RF) rfl λf h=>bg h s YO (Gl _) rfl rfl ?_);rintro f w1 v6 ⟨oa,sa,ha,la,na,Ya,ka,rfl,qa,hG⟩ hE h sq;replace s:=s.add hG;clear hG
 have ea:aM Ya=A7:=by rw [qa,u7]
 have fa:(GX (aM mB) []).e=0:=by rw [u7]
 have nal:(GX (aM mB) []).n.length=0:=by rw [u7];rfl
 have sa0:=aa2 ea
 refine ap ac 4 h rfl λf h=>aK (cY aq aq aq aq 0 0) h s py rfl rfl λf w1 b1 h s=>am 0 h s dC rfl rfl rfl (bo _ _ _ _ _ _) (bo _ _ _ _ _ _) (gY _ _ (bJ (((s.getG 1 rfl) (c7 _)).1.ov.1)) (bJ (((s.getG 1 rfl) (c7 _)).1.sv)) (bJ (((s.getG 1 rfl) (c7 _)).1.ho)) (bJ (((s.getG 1 rfl) (c7 _)).1.ml))) λw1 s=>e9 ac 2 h rfl λf h=>cw ac 1 h rfl λf h=>jy ac h rfl (aq2 (by rw [fa])) λf h=>ap ac 2 h rfl λf h=>cg h rfl (cb h (((s.getG 1 rfl) (c7 _)).2) Tryz.underlying38 rfl rfl λf h=>cg h rfl (jy ac h rfl (aq2 (by omega)) λf h=>ap ac 3 h rfl λf h=>cg h rfl (ai (V:=sa) (ah (aX.of_own s 0 rfl) 1 (wK _ _ _ _ _ _)) h mV rfl rfl λf h=>cg h rfl (cb h (((s.getG 1 rfl) (c7 _)).1.sv) aA2 rfl rfl λf h=>cg h rfl (jy ac h rfl (aq2 (by omega)) λf h=>ap ac 2 h rfl λf h=>cg h rfl (al 0 h s dC rfl rfl (bo _ _ _ _ _ _) rfl λf h=>cg h rfl (jX true h s IW (oU Ya oa sa ha la _ ((s.getG 1 rfl) (c7 _)).1 (ah7 ea XD)) (Yl ea) rfl rfl λf w1 h s=>e9 ac 2 h rfl λf h=>au3 (aA rfl h s rfl (rfl)))))))))
set_option maxHeartbeats 1000000 in
theorem zJ (X:Wx) (vo vs vh vl:Value)  (w:World) (hX:RdW w vo vs vh vl X) (hb:BdW (aM X)):Calls Tryz.prog 8 [.agg (cY vo vs vh vl X.M.last X.M.now)].toArray w (bW w (Z3 w vo vs vh vl X (gf (aM X)) (kN (aM X)))):=by
 refine eh Tryz.func8 rfl Tryz.ntmps8 rfl [(0,.agg (cY vo vs vh vl X.M.last X.M.now))] (by simp) λf h=>?_
 have s:=St.start w
 refine qr (ba (cY vo vs vh vl X.M.last X.M.now) h s rfl rfl rfl λf w1 b1 h s=>aK (#[.slice none 0 0]) h s Im rfl rfl λf w1 b2 h s=>aK (#[.int .i64 0]) h s IP rfl rfl λf w1 b3 h s=>nt (ag (ag ?_)))
 refine aC (al 2 h s dC rfl rfl (bo _ _ _ _ _ _) rfl λf h=>fx h s Kz (lM X vo vs vh vl _ (hX.keep s.ext) hb) rfl rfl (λr0 f w1 h s=>?_) (λr0 f w1 h s=>?_))
 ·refine e9 ac 1 h rfl λf h=>dF h rfl (qr (aB 1 h s iu rfl rfl rfl (by simp) (rfl) λw1 s=>aB 0 h s qs rfl rfl rfl (by simp) (rfl) λw1 s=>nt (rt ?_)))
  exact F0 1 0 rfl h s iu qs rfl rfl rfl rfl rfl rfl (by rw [(Ci r0).1,(Ci r0).2];exact ⟨aq,[],rfl,s.sel [] rfl (by decide) |>.grp0 (λw9 _=>rD w9)⟩)
 ·refine e9 ac 1 h rfl λf h=>ry h rfl (qr (aK (#[.slice none 0 0]) h s Im rfl rfl λf w1 b4 h s=>nt (ag (qr ?_))))
  replace s:=s.grp0 (S:=λw9=>ma w9 aq []) (λw9=>rD w9)
  refine al 4 h s dC rfl rfl (bo _ _ _ _ _ _) rfl λf h=>df [.agg (cY vo vs vh vl X.M.last X.M.now)] h RM (Ea X vo vs vh vl _ hX _ _ _ s) rfl rfl ?_;rintro f w1 r ⟨bn,rfl,s⟩ h
  refine nt (au4 (eg (λd A9=>∃ (va:Value) (kd:List Nat) (K:List Tg),((∀ j,j<d->Du (aM X) j=false)->K=mL (aM X) d)/\A9=[.grp kd (λw9=>ma w9 va K),.blk b4 (.cells #[va] 34),.blk b3 (.cells #[.int .i64 (Lw (aM X) d)] 35),.blk b2 (.cells #[aq] 34),.blk b1 (.cells (cY vo vs vh vl X.M.last X.M.now) 31)]) [.grp [] (λw9=>ma w9 aq []),.blk b4 (.cells #[aq] 34),.blk b3 (.cells #[.int .i64 0] 35),.blk b2 (.cells #[aq] 34),.blk b1 (.cells (cY vo vs vh vl X.M.last X.M.now) 31)] [.blk bn (.cells (cY vo vs vh vl X.M.last X.M.now) 31)] ((mz (aM X)).length) (Du (aM X)) (λd=>[Value.int .i64 (jF (aM X) d).1,.agg (aV (jF (aM X) d).2)]) h s rfl RE (List.Perm.refl _) (⟨aq,[],[],λ_=>rfl,rfl⟩) (λ_=>rfl) ?_ ?_ ?_ ?_))
  ·intro lp w2 GG g0 hg0 s2 hY;exact tv X vo vs vh vl lp bn (Du (aM X)) GG g0 w w2 s2 hg0 hX hb hY
  ·intro lp D9 d9 rc R9 A9 w2 hd9 hq9 hJ9 s
   obtain ⟨va,kd,K,hKd,rfl⟩:=hJ9
   have h:=Sl.round2 (p:=14) (q:=15) (V:=.int .i64 (jF (aM X) d9).1) (U:=.agg (aV (jF (aM X) d9).2)) h rfl rfl
   refine aC (aK (aV cr) h s nz rfl rfl λf w1 b6 h s=>am 0 h s cO rfl rfl rfl (aN _) (aN _) (ft _) λw1 s=>nt (⟨_,s.perm (ax2 (l₁:=[_])),λw3 s=>?_⟩))
   refine au4 (qr ?_)
   obtain rfl:=hKd hq9
   have eput:=J6 r0 hd9 hq9
   rw [Oa hq9] at s
   refine bT 4 h s iu rfl rfl (rfl) rfl λf h=>al 1 h s cO rfl rfl (aN _) rfl λf h=>bg h s XN (Kg (mL (aM X) d9) va (jF (aM X) d9).2 _ (s.getG 3 rfl) (av5 (yd hq9) (by decide))) rfl rfl ?_;rintro f w1 v19 ⟨vb,kvb,rfl,hG⟩ hE h sq;replace s:=s.add hG;clear hG
   refine e9 ac 5 h rfl λf h=>ag (ag ?_)
   cases te:(Du (aM X) d9:Bool)
   ·refine rs ac 1 h rfl λf h=>ol ac (.bool false) h rfl (by rw [(eput.1 te).1];rfl) rfl λf h=>iA h rfl (rs ac 1 h rfl λf h=>aB 5 h s iu rfl rfl rfl (by simp) (bJ ((s.getG 0 rfl) (s.getG 4 rfl))) λw1 s=>aE (aW ?_))
    have Y2:=eM hq9 te
    replace s:=s.bring 4 rfl
    replace s:=s.bring 1 rfl
    replace s:St w ((.grp kvb (λw9=>ma w9 va (mL (aM X) d9)->ma w9 vb (mr (mL (aM X) d9) (jF (aM X) d9).2)))::(.grp kd (λw9=>ma w9 va (mL (aM X) d9)))::.blk lp (.loop (rc .busy))::.blk b6 (.cells (aV (jF (aM X) d9).2) 49)::.blk D9 (.deferred (some []))::.blk b4 (.cells (#[vb]) 34)::.blk b3 (.cells (#[.int .i64 0]) 35)::.blk b2 (.cells (#[aq]) 34)::.blk b1 (.cells (cY vo vs vh vl X.M.last X.M.now) 31)::R9) _:=s
    replace s:=s.merge (S:=λw9=>ma w9 vb (mL (aM X) (d9+1))) (λw9 h1 h2=>by rw [← (eput.1 te).2];exact h1 h2)
    replace s:=s.recell (D:=#[.int .i64 (Lw (aM X) (d9+1))]) 5 rfl (by rw [Oa Y2]<;>rfl)
    replace s:=s.bring 3 rfl
    replace s:=s.bring 2 rfl
    replace s:=s.bring 3 rfl
    replace s:St w (.blk b6 (.cells (aV (jF (aM X) d9).2) 49)::.blk lp (.loop (rc .busy))::.blk D9 (.deferred (some []))::(.grp (kvb++kd) (λw9=>ma w9 vb (mL (aM X) (d9+1))))::.blk b4 (.cells (#[vb]) 34)::.blk b3 (.cells (#[.int .i64 (Lw (aM X) (d9+1))]) 35)::.blk b2 (.cells (#[aq]) 34)::.blk b1 (.cells (cY vo vs vh vl X.M.last X.M.now) 31)::R9) _:=s
    refine ⟨(by first|exact te|rfl),_,⟨vb,kvb++kd,_,λ_=>rfl,rfl⟩,s.pick _ ?_⟩
    exact ap8 _ (ap7 _ (List.Sublist.refl _))
   ·refine rs ac 1 h rfl λf h=>ol ac (.bool true) h rfl (by rw [(eput.2 te).1];rfl) rfl λf h=>iz h rfl (cw ac 1 h rfl λf h=>aB 7 h s iu rfl rfl rfl (by simp) (rfl) λw1 s=>aB 6 h s qs rfl rfl rfl (by simp) (rfl) λw1 s=>nt (rt (aY ?_)))
    replace s:=s.bring 4 rfl
    replace s:=s.bring 4 rfl
    replace s:=s.bring 3 rfl
    replace s:=s.bring 4 rfl
    replace s:=s.bring 4 rfl
    replace s:St w ((.grp kvb (λw9=>ma w9 va (mL (aM X) d9)->ma w9 vb (mr (mL (aM X) d9) (jF (aM X) d9).2)))::.blk b6 (.cells (aV (jF (aM X) d9).2) 49)::.blk lp (.loop (rc .busy))::.blk D9 (.deferred (some []))::(.grp kd (λw9=>ma w9 va (mL (aM X) d9)))::.blk b4 (.cells (#[va]) 34)::.blk b3 (.cells (#[.int .i64 (iD (mL (aM X) d9) (jF (aM X) d9).2)]) 35)::.blk b2 (.cells (#[aq]) 34)::.blk b1 (.cells (cY vo vs vh vl X.M.last X.M.now) 31)::R9) _:=s
    replace s:=s.recell (D:=#[.int .i64 (Lw (aM X) (d9+1))]) 6 rfl (by rw [(eput.2 te).2,(eput.2 te).1]<;>rfl)
    refine ⟨(by first|exact te|rfl),_,⟨va,kd,mL (aM X) d9,λh9=>ax7 (h9 d9 (Nat.lt_succ_self _)) (by rw [te];exact Bool.noConfusion),rfl⟩,s.pick _ ?_⟩
    exact ap8 _ (ap8 _ (ap7 _ (List.Sublist.refl _)))
  ·intro D9 A9 w2 hJ9 hq9 s
   obtain ⟨va,kd,K,hKd,rfl⟩:=hJ9
   replace h:Sl _ {f with defers:={target:=.collected D9,args:=#[]}::f.defers} _ [{target:=.collected D9,args:=#[]}]:=⟨h.size,by rw [h.defers],h.holds⟩
   obtain rfl:=hKd hq9
   rw [Oa hq9] at s
   refine aW (aG (qr (bT 3 h s iu rfl rfl (rfl) rfl λf h=>aB 5 h s iu rfl rfl rfl (by simp) (bJ (s.getG 2 rfl)) λw1 s=>aB 4 h s qs rfl rfl rfl (by simp) (rfl) λw1 s=>nt (au3 ?_))))
   exact Ap 5 4 0 rfl h s iu qs rfl rfl rfl rfl rfl rfl rfl (λw9 s9=>by rw [(Er r0 hq9).1,(Er r0 hq9).2];exact ⟨va,kd,rfl,(s9.sel [2] rfl (by decide)).weak (λw9 h9 _=>h9)⟩)
  ·intro D9 d9 A9 w2 hd9 hqd9 hq9 hJ9 s
   obtain ⟨va,kd,K,hKd,rfl⟩:=hJ9
   replace h:Sl _ {f with defers:={target:=.collected D9,args:=#[]}::f.defers} _ [{target:=.collected D9,args:=#[]}]:=⟨h.size,by rw [h.defers],h.holds⟩
   refine aY (aQ ?_)
   exact Ap 5 4 0 rfl h s iu qs rfl rfl rfl rfl rfl rfl rfl (λw9 s9=>by rw [(Dh r0 hd9 hqd9).1,(Dh r0 hd9 hqd9).2];exact ⟨aq,[],aq3 (λx=>Value.tuple #[aq,.int .i64 x]) ((J6 r0 hd9 hq9).2 hqd9).2,(s9.sel [] rfl (by decide)).grp0 (λw9 _=>rD w9)⟩)
set_option maxHeartbeats 6000000 in
theorem AW (X:Wx) (vo vs vh vl:Value) (n:Int) (w:World) (hX:RdW w vo vs vh vl X) (hbL:X.L.length<=maxLen) (hbS:X.S.length<=maxLen) (hbH:X.H.length<=maxLen):Calls Tryz.prog 3 [.agg (cY vo vs vh vl X.M.last X.M.now),.int .i64 n].toArray w (bW w (is (.bool true))):=by
 obtain ⟨hr1,hi9⟩:=OZ n
 have htm:=aa3 n (show (1:Int)<=1000 by decide)
 refine bG Tryz.func3 rfl Tryz.ntmps3 rfl λf h s=>qr (ba (cY vo vs vh vl X.M.last X.M.now) h s rfl rfl rfl λf w1 b2 h s=>e9 ac 1 h rfl λf h=>ag (ag ?_))
 cases b0:(zG (aM X):Bool)
 ·skip
  cases i0:(iP (aM X):Bool)
  ·refine aC (al 0 h s dC rfl rfl (bo _ _ _ _ _ _) rfl λf h=>jX false h s U6 (nJ X vo vs vh vl _ (hX.keep s.ext) hbL hbS hbH) (b0) rfl rfl λf w1 h s=>?_)
   have hbd:=Hh (EZ b0).1
   refine ap ac 1 h rfl λf h=>cg h rfl (al 0 h s dC rfl rfl (bo _ _ _ _ _ _) rfl λf h=>cg h rfl (jX false h s IW (oU X vo vs vh vl _ (hX.keep s.ext) hbd) (i0) rfl rfl λf w1 h s=>e9 ac 2 h rfl λf h=>dF h rfl (qr (jX true h s S8 (lI _) (rfl) rfl rfl λf w1 h s=>e9 ac 1 h rfl λf h=>rt (aA rfl h s rfl (rfl))))))
  ·refine aC (al 0 h s dC rfl rfl (bo _ _ _ _ _ _) rfl λf h=>jX false h s U6 (nJ X vo vs vh vl _ (hX.keep s.ext) hbL hbS hbH) (b0) rfl rfl λf w1 h s=>?_)
   have hbd:=Hh (EZ b0).1
   refine ap ac 1 h rfl λf h=>cg h rfl (al 0 h s dC rfl rfl (bo _ _ _ _ _ _) rfl λf h=>cg h rfl (jX true h s IW (oU X vo vs vh vl _ (hX.keep s.ext) hbd) (i0) rfl rfl λf w1 h s=>e9 ac 2 h rfl λf h=>ry h rfl (qr ?_)))
   obtain ⟨m1,m2,m3,m4,m5,m6,m7⟩:=IH (W:=aM X) (n:=((pC n 1000:Nat):Int)) i0 (Int.natCast_nonneg _)
   refine ap ac 1 h rfl λf h=>ak h (My (h.ev rfl) (h.ev rfl) (by omega)) rfl λf h=>ak h (bB (h.ev rfl) (h.ev rfl) (by omega)) rfl λf h=>ak h (bk (.int .i64 ((pC n 1000:Nat):Int)) (HL (h.ev rfl) (h.ev rfl) (by omega)) (aq3 (Value.int .i64) hr1)) rfl λf h=>e9 ac 1 h rfl λf h=>qr (al 0 h s dC rfl rfl (bo _ _ _ _ _ _) rfl λf h=>bg h s XS (zJ X vo vs vh vl _ (hX.keep s.ext) hbd) rfl rfl ?_);rintro f w1 v31 ⟨va9,kva9,rfl,hG⟩ hE h sq;replace s:=s.add hG;clear hG
   refine e9 ac 5 h rfl λf h=>qr (al 1 h s dC rfl rfl (bo _ _ _ _ _ _) rfl λf h=>ap ac 1 h rfl λf h=>ak h (yo JN rfl (h.ev rfl)) rfl λf h=>bg h s TK (qw X vo vs vh vl (dG 5 ((pC n 1000:Nat):Int)) aq _ (hX.keep s.ext) hbd (jf.1 i0).1 (bX _) (as3 _) rfl) rfl rfl ?_);rintro f w1 v38 ⟨oa,sa,ha,la,na,Ya,ka,rfl,qa,hG⟩ hE h sq;replace s:=s.add hG;clear hG
   have ea:aM Ya=(bY (aM X) (dG 5 ((pC n 1000:Nat):Int))).w:=qa
   have hia:iP (aM Ya)=true:=by rw [ea];exact m2
   have hba:=Kt hia
   refine ap ac 4 h rfl λf h=>aK (cY aq aq aq aq 0 0) h s py rfl rfl λf w1 b7 h s=>am 0 h s dC rfl rfl rfl (bo _ _ _ _ _ _) (bo _ _ _ _ _ _) (gY _ _ (bJ (((s.getG 1 rfl) (hX.keep s.ext) (bX _)).1.ov.1)) (bJ (((s.getG 1 rfl) (hX.keep s.ext) (bX _)).1.sv)) (bJ (((s.getG 1 rfl) (hX.keep s.ext) (bX _)).1.ho)) (bJ (((s.getG 1 rfl) (hX.keep s.ext) (bX _)).1.ml))) λw1 s=>e9 ac 2 h rfl λf h=>qr (al 0 h s dC rfl rfl (bo _ _ _ _ _ _) rfl λf h=>ak h (n8 JN rfl) rfl λf h=>bg h s TK (yO Ya oa sa ha la (dG 4 0) aq _ ((s.getG 1 rfl) (hX.keep s.ext) (bX _)).1 hba (jf.1 hia).1 (bX _) (as3 _) rfl) rfl rfl ?_);rintro f w1 v45 ⟨ob,sb,hb,lb,nb,Yb,kb,rfl,qb,hG⟩ hE h sq;replace s:=s.add hG;clear hG
   have eb:aM Yb=(bY (bY (aM X) (dG 5 ((pC n 1000:Nat):Int))).w (dG 4 0)).w:=by rw [qb,ea]
   have sb9:iP (aM Yb)=true:=by rw [eb];exact m4
   have hbb:=Kt sb9
   refine ap ac 4 h rfl λf h=>aK (cY aq aq aq aq 0 0) h s py rfl rfl λf w1 b10 h s=>am 0 h s dC rfl rfl rfl (bo _ _ _ _ _ _) (bo _ _ _ _ _ _) (gY _ _ (bJ (((s.getG 1 rfl) ((s.getG 3 rfl) (hX.keep s.ext) (bX _)).1 (bX _)).1.ov.1)) (bJ (((s.getG 1 rfl) ((s.getG 3 rfl) (hX.keep s.ext) (bX _)).1 (bX _)).1.sv)) (bJ (((s.getG 1 rfl) ((s.getG 3 rfl) (hX.keep s.ext) (bX _)).1 (bX _)).1.ho)) (bJ (((s.getG 1 rfl) ((s.getG 3 rfl) (hX.keep s.ext) (bX _)).1 (bX _)).1.ml))) λw1 s=>e9 ac 2 h rfl λf h=>qr (al 0 h s dC rfl rfl (bo _ _ _ _ _ _) rfl λf h=>bg h s XS (zJ Yb ob sb hb lb _ ((s.getG 1 rfl) ((s.getG 3 rfl) (hX.keep s.ext) (bX _)).1 (bX _)).1 hbb) rfl rfl ?_);rintro f w1 v51 ⟨vb9,kvb9,rfl,hG⟩ hE h sq;replace s:=s.add hG;clear hG
   refine e9 ac 5 h rfl λf h=>ag (cw ac 1 h rfl λf h=>jd ac h rfl (by rw [m1];rfl) λf h=>ap ac 2 h rfl λf h=>cg h rfl (jd ac h rfl (by rw [ea,m3];rfl) λf h=>ap ac 2 h rfl λf h=>cg h rfl (al 3 h s dC rfl rfl (bo _ _ _ _ _ _) rfl λf h=>cg h rfl (jX true h s IW (oU Ya oa sa ha la _ ((s.getG 4 rfl) (hX.keep s.ext) (bX _)).1 hba) (by rw [ea];exact m2) rfl rfl λf w1 h s=>ap ac 3 h rfl λf h=>cg h rfl (al 1 h s dC rfl rfl (bo _ _ _ _ _ _) rfl λf h=>cg h rfl (jX true h s IW (oU Yb ob sb hb lb _ ((s.getG 2 rfl) ((s.getG 4 rfl) (hX.keep s.ext) (bX _)).1 (bX _)).1 hbb) (sb9) rfl rfl λf w1 h s=>ap ac 3 h rfl λf h=>cg h rfl (jX true h s S8 (lI _) (rfl) rfl rfl λf w1 h s=>e9 ac 2 h rfl λf h=>ry h rfl (ag (ag ?_)))))))))
   cases e0:(decide (kN (aM X)=0):Bool)
   ·refine rs ac 1 h rfl λf h=>jy ac h rfl (by simpa using e0) λf h=>iz h rfl (bD ac 1 h rfl λf h=>rt (aA rfl h s rfl (rfl)))
   ·refine rs ac 1 h rfl λf h=>jd ac h rfl (by simpa using e0) λf h=>iA h rfl (ag (qr ?_))
    obtain ⟨o1,o2,o3,o4⟩:=T3 (W:=aM X) (Y:=aM Yb) (ap9 e0) sb9 m7 (by rw [eb];exact m6) (by rw [eb];exact m5)
    refine ap ac 1 h rfl λf h=>cb h (((s.getG 0 rfl) ((s.getG 2 rfl) ((s.getG 4 rfl) (hX.keep s.ext) (bX _)).1 (bX _)).1)) aA5 rfl rfl λf h=>e9 ac 1 h rfl λf h=>au4 (au6 (λnn aa ww=>∃ k:Nat,Sl 108 aa [(0,.agg (cY vo vs vh vl X.M.last X.M.now)),(2,.pointer (some ⟨b2,0,none⟩)),(7,.pointer (some ⟨b7,0,none⟩)),(10,.pointer (some ⟨b10,0,none⟩)),(5,va9),(13,vb9),(14,.int .i64 (kN (aM Yb))),(76,vb9),(77,.int .i64 ((gf (aM Yb)).length:Int)),(78,.int .i64 (k:Int))]/\St w [(.grp kvb9 (λw9=>RdW w9 ob sb hb lb Yb->ma w9 vb9 (gf (aM Yb)))),.blk b10 (.cells (cY ob sb hb lb Yb.M.last Yb.M.now) 31),(.grp kb (λw9=>RdW w9 oa sa ha la Ya->Co w9 aq ((dG 4 0)).l->RdW w9 ob sb hb lb Yb/\a7 w9 nb 74 (bY (aM Ya) (dG 4 0)).n.length (dB (bY (aM Ya) (dG 4 0)).n))),.blk b7 (.cells (cY oa sa ha la Ya.M.last Ya.M.now) 31),(.grp ka (λw9=>RdW w9 vo vs vh vl X->Co w9 aq ((dG 5 ((pC n 1000:Nat):Int))).l->RdW w9 oa sa ha la Ya/\a7 w9 na 74 (bY (aM X) (dG 5 ((pC n 1000:Nat):Int))).n.length (dB (bY (aM X) (dG 5 ((pC n 1000:Nat):Int))).n))),(.grp kva9 (λw9=>RdW w9 vo vs vh vl X->ma w9 va9 (gf (aM X)))),.blk b2 (.cells (cY vo vs vh vl X.M.last X.M.now) 31)] ww/\nn=(gf (aM Yb)).length - k/\k<=(gf (aM Yb)).length) ((gf (aM Yb)).length - (0)) ⟨0,h.only ⟨rfl,rfl,rfl,rfl,rfl,rfl,rfl,rfl,rfl,aw rfl (by omega),trivial⟩,s.as ⟨rfl,rfl,rfl,rfl,rfl,rfl,rfl,trivial⟩,rfl,as3 _⟩ ?_)
    rintro _ f w1 ⟨k,h,s,hnn,hp0⟩
    refine bD ac 1 h rfl λf h=>ag (cZ h rfl (λhc=>?_) (λhc=>?_))
    ·refine kt (ag (au4 (qr ?_)))
     have hkl:k<(gf (aM Yb)).length:=by omega
     obtain ⟨z1,z2⟩:=o4 _ (Cw hkl)
     change Yb.M.now<_ at z2
     refine ak h (bj (((s.getG 0 rfl) ((s.getG 2 rfl) ((s.getG 4 rfl) (hX.keep s.ext) (bX _)).1 (bX _)).1)) (k) aA5 ir (h.ev rfl) (h.ev rfl) (by omega) (by omega)) rfl λf h=>ax ((((s.getG 0 rfl) ((s.getG 2 rfl) ((s.getG 4 rfl) (hX.keep s.ext) (bX _)).1 (bX _)).1)).el (k) (by omega) (by decide) (D:=aV ((gf (aM Yb)).getD k cr)) (iO _ k hkl)) h cO rfl (aN _) rfl λf h=>aK (aV cr) h s nz rfl rfl λf w1 b16 h s=>am 0 h s cO rfl rfl rfl (aN _) (aN _) (ft _) λw1 s=>nt (ag (cK 16 h (by kernel_rfl) (aD ac 2 h rfl λf h=>aU (aX.subL (aX.of_own s 0 rfl) 0 32 (D:=aJ (_)) (jJ _)) h bO rfl (by first|exact az _|exact ay _ _) rfl λf h=>aD ac 1 h rfl λf h=>aU (aX.subL (aX.of_own s 0 rfl) 32 34 (D:=eR (_)) (tL _)) h zS rfl (eU _) rfl λf h=>bR h Xd (λw9 hE9=>C0 (gf (aM X)) va9 ((gf (aM Yb)).getD k cr).1 ((gf (aM Yb)).getD k cr).2.1 w9 (((s.getG 6 rfl) (hX.keep s.ext)).keep hE9) (by omega)) rfl rfl λf h=>aH 0 h s cO rfl rfl (aN _) rfl λf h=>aF h (bk (.bool false) (kj (eqG _ _) (by kernel_rfl) (by decide) (h.ev rfl) (h.ev rfl) (decide ((eT (gf (aM X)) ((gf (aM Yb)).getD k cr).1 ((gf (aM Yb)).getD k cr).2.1)=((gf (aM Yb)).getD k cr))) (ab0 _ _)) (aq3 Value.bool (by rw [z1,aq2 rfl];rfl))) rfl λf h=>aD ac 2 h rfl λf h=>cj h rfl (bw (ah (aX.of_own s 0 rfl) 66 (gd _)) h bQ rfl rfl λf h=>aD ac 2 h rfl λf h=>cj h rfl (bw (V:=.int .i64 Yb.M.now) (ah (aX.of_own s 2 rfl) 5 (Yc _ _ _ _ _ _)) h bQ rfl rfl λf h=>cj h rfl (sT ac h rfl (aq1 (by omega)) λf h=>aD ac 1 h rfl λf h=>bF s λw1 s=>tS h rfl (wpIn_skip (aW (aG (aC (ak h (bB (h.ev rfl) (h.ev rfl) (by omega)) rfl λf h=>e9 ac 1 h rfl λf h=>?_)))))))))))
     exact ⟨_,by omega,⟨k+1,h.only ⟨rfl,rfl,rfl,rfl,rfl,rfl,rfl,rfl,rfl,aw rfl (by omega),trivial⟩,St.as (s.pick _ (ar8 [_] _)) ⟨rfl,rfl,rfl,rfl,rfl,rfl,rfl,trivial⟩,rfl,by omega⟩⟩
    ·refine au5 (aT (aT (bS (aG (cw ac 1 h rfl λf h=>jy ac h rfl (aq2 (o1)) λf h=>ap ac 2 h rfl λf h=>cg h rfl (cb h (((s.getG 0 rfl) ((s.getG 2 rfl) ((s.getG 4 rfl) (hX.keep s.ext) (bX _)).1 (bX _)).1)) aA5 rfl rfl λf h=>ap ac 1 h rfl λf h=>cg h rfl (cb h (((s.getG 5 rfl) (hX.keep s.ext))) aA5 rfl rfl λf h=>cg h rfl (jy ac h rfl (aq2 (by omega)) λf h=>e9 ac 2 h rfl λf h=>au3 (aA rfl h s rfl (rfl))))))))))
 ·refine aC (al 0 h s dC rfl rfl (bo _ _ _ _ _ _) rfl λf h=>jX true h s U6 (nJ X vo vs vh vl _ (hX.keep s.ext) hbL hbS hbH) (b0) rfl rfl λf w1 h s=>e9 ac 5 h rfl λf h=>dF h rfl (qr (jX true h s S8 (lI _) (rfl) rfl rfl λf w1 h s=>e9 ac 1 h rfl λf h=>rt (aA rfl h s rfl (rfl)))))
end Go.Proofs.YthmlflaiidhoiaaGreatDoor
