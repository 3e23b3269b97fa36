/- One node looks after what it knows. -/
import Derived.Test.YthggibfkgofncaaGreatWe
set_option linter.unusedVariables false
set_option linter.unusedSimpArgs false
set_option linter.unusedSectionVars false
namespace Go.Proofs.YthggibfkgofncaaGreat
open Go.RowKit
set_option maxHeartbeats 4000000 in
theorem m8 (K:List N3) (ks:List Nat) (vq:Value) (kx:Nat) (B9:List Own) (w0 w:World) (s:St w0 (.sl vq 42 68 K.length (aD K)::.grp ks (cS K)::B9) w) (hk:kx<K.length) (hRS:RS K):Calls Tryz.prog 58 [.agg #[vq],.pointer (some (aN vq (kx*68)))].toArray w (fun e w9=>∃ r,e=.returned r∧∃ K9 kn,nds K9=fE (nds K) (K.getD kx z3).1.me.1∧St w0 (.sl vq 42 68 K9.length (aD K9)::.grp kn (cS K9)::B9) w9):=by
 have hx0:RN (K.getD kx z3).1:=hRS.rn _ (bw hk)
 have hl16:=hRS.len
 refine eJ Tryz.func58 rfl Tryz.ntmps58 rfl [(0,.agg #[vq]),(1,.pointer (some (aN vq (kx*68))))] (by simp) fun f h=>?_
 refine al fun K1 hK1=>?_
 refine ae ?_
 refine bV (#[vq]) h s rfl rfl rfl ?_;intro f w1 b2 h s
 refine ah ?_
 refine hK1 _ _ ?_
 refine al fun K2 hK2=>?_
 refine ae ?_
 refine ar 0 h s a6 rfl rfl (rfl) rfl ?_;intro f h
 refine aH h s Dt (r3 K vq _ ⟨(bq.of_own (s.getSl 1 rfl)),fun y hy=>(s.getG 2 rfl y hy)⟩ (by omega) (Ba hRS.inc)) rfl rfl ?_;rintro f w1 v8 ⟨bm,rfl,hS⟩ hE h sq;replace s:=s.add hS;clear hS
 refine ac h (aj (h.ev rfl)) rfl ?_;intro f h
 refine ah ?_
 refine hK2 _ _ ?_
 refine al fun K3 hK3=>?_
 refine ae ?_
 refine ac h (ag (h.ev rfl)) rfl ?_;intro f h
 refine ac h (ag (h.ev rfl)) rfl ?_;intro f h
 replace s:=s.bring 3 rfl
 replace s:=s.bring 3 rfl
 replace s:St w0 (.sl vq 42 68 K.length (aD K)::(.grp ks (cS K))::.blk bm (dn (bY K))::.blk b2 (.cells (#[vq]) 24)::B9) _:=s
 refine dq [.pointer (some (aN vq (kx*68))),.map (some bm)] h Cz (oP K ks (bY K) (aM K) vq kx bm _ _ _ s hk (by omega) hx0 (by have:=hx0.len;have:=hx0.fg.1;omega) (kS hRS.nos)) rfl rfl ?_;rintro f w1 r ⟨du,dv,k1,s⟩ h
 obtain ⟨K1,hK1⟩:∃ x9,x9=K.set kx (((tA K kx),du,dv):N3):=⟨_,rfl⟩
 rw [← hK1] at s
 have hx1:K1.getD kx z3=((tA K kx),du,dv):=by rw [hK1];exact kP hk _
 have hl1:K1.length=K.length:=by rw [hK1,List.length_set]
 have hT1:RN (tA K kx):=sm hx0
 obtain ⟨hp1,hR1,hm1⟩:=jW hRS hk (x:=((tA K kx),du,dv)) rfl hT1
 rw [← hK1] at hp1 hR1 hm1
 have hn1:nds K1=iw (nds K) (tA K kx):=by rw [hp1,fF]
 have hT1l:=hT1.len
 have hT1f:=hT1.fg.1
 have hf1:ce (aM K1) ((tA K kx).sc.getD 0 aT).1=true:=by rw [hm1];exact kU hx0 (qp hRS hk)
 obtain ⟨hi1,hg1,hgm1⟩:=ij hR1 hf1
 replace hg1:(tB K K1 kx)=_:=hg1
 have hsr:RN (tB K K1 kx).1:=by rw [hg1];exact hR1.rn _ hgm1
 have hsl:=hsr.len
 have hsf:=hsr.fg.1
 have hts:=kD (l:=aM K1) hsr
 refine ah ?_
 refine hK3 _ _ ?_
 refine al fun K4 hK4=>?_
 have hbs:=s.ext.le
 refine' jh 12 [1,2,3] [11] [[],[],[1],[1,2],[1,2,3],[1,2,3,4],[1,2,3,4,5],[1,2,3,4,5,6],[0,1,2,3,4,5,6,7],[0,1,2,3,4,5,6,7,8],[0,1,2,3,4,5,6,7,8,9],[],[0,1,2,3,4,5,6,7,8,9,10,11]] (is _::is _::is _::is _::is _::is _::is _::is _::is _::is _::is _::(nH (aC aT aT a8 a8) 42)::is undef::[]) (fun _=>True) h s (by kernel_rfl) (by kernel_rfl) (by kernel_rfl) (by kernel_rfl) rfl (fun _ _ h _=>h) (trivial) ⟨⟨_,rfl⟩,⟨_,rfl⟩,⟨_,rfl⟩,trivial⟩ ⟨bu _,bu _,bu _,bu _,bu _,bu _,bu _,bu _,bu _,bu _,bu _,nH.mono _ _,bu _,trivial⟩ (And.intro ?_ (And.intro ?_ (And.intro ?_ (And.intro ?_ (And.intro ?_ (And.intro ?_ (And.intro ?_ (And.intro ?_ (And.intro ?_ (And.intro ?_ (And.intro ?_ (And.intro ?_ (And.intro ?_ (trivial)))))))))))))) ?_
 rotate_left 11
 ·refine cr 12 rfl (by decide) (by decide) ?_
  intro f9 w2 hE hs hd9 hl
  have e2:f9.tmps.getD 2 undef=_:=di hl 2 (by kernel_rfl) (by kernel_rfl) (h.holds 2 _ rfl)
  have h:=ay [(2,_)] hs hd9 (holds_lk ⟨e2,trivial⟩)
  have s:=s.more hE
  have z:=St.start w2
  refine ar 3 h s a6 rfl rfl (rfl) rfl ?_;intro f h
  refine ah ?_
  have e9:=h.holds 12 _ rfl
  refine ⟨?_,Ext.refl _,fun h9=>absurd h9 (by decide)⟩
  refine e9.trans ?_
  exact rfl
 ·refine dQ 13 rfl (by decide) ?_
  intro f9 w2 hE hs hl
  have e1:f9.tmps.getD 1 undef=_:=di hl 1 (by kernel_rfl) (by kernel_rfl) (h.holds 1 _ rfl)
  have h:=ay [(1,_)] hs rfl (holds_lk ⟨e1,trivial⟩)
  refine ac h (ag (h.ev rfl)) rfl ?_;intro f h
  refine ah ?_
  have e9:=h.holds 13 _ rfl
  refine ⟨?_,rfl⟩
  refine e9.trans ?_
  exact rfl
 ·refine dQ 14 rfl (by decide) ?_
  intro f9 w2 hE hs hl
  have e13:f9.tmps.getD 13 undef=_:=cc hl 13 1 (by kernel_rfl) (by kernel_rfl)
  have h:=ay [(13,_)] hs rfl (holds_lk ⟨e13,trivial⟩)
  refine ac h (bo (h.ev rfl)) rfl ?_;intro f h
  refine ah ?_
  have e9:=h.holds 14 _ rfl
  refine ⟨?_,rfl⟩
  refine e9.trans ?_
  exact rfl
 ·refine dQ 15 rfl (by decide) ?_
  intro f9 w2 hE hs hl
  have e14:f9.tmps.getD 14 undef=_:=cc hl 14 2 (by kernel_rfl) (by kernel_rfl)
  have h:=ay [(14,_)] hs rfl (holds_lk ⟨e14,trivial⟩)
  refine ac h (bG bD (h.ev rfl) ((bq.of_own (s.getSl 0 rfl)).some (by omega))) rfl ?_;intro f h
  refine ah ?_
  have e9:=h.holds 15 _ rfl
  refine ⟨?_,rfl⟩
  refine e9.trans ?_
  exact rfl
 ·refine cr 16 rfl (by decide) (by decide) ?_
  intro f9 w2 hE hs hd9 hl
  have e15:f9.tmps.getD 15 undef=_:=cc hl 15 3 (by kernel_rfl) (by kernel_rfl)
  have h:=ay [(15,_)] hs hd9 (holds_lk ⟨e15,trivial⟩)
  have s:=s.more hE
  have z:=St.start w2
  refine au (V:=du) (dt (bq.of_own (s.getSl 0 rfl)) (kx*68+66) ((iy K1 kx (by omega)).trans (by rw [hx1]))) h bE rfl rfl ?_;intro f h
  refine ah ?_
  have e9:=h.holds 16 _ rfl
  refine ⟨?_,Ext.refl _,fun h9=>absurd h9 (by decide)⟩
  refine e9.trans ?_
  exact rfl
 ·refine cr 17 rfl (by decide) (by decide) ?_
  intro f9 w2 hE hs hd9 hl
  have e16:f9.tmps.getD 16 undef=_:=cc hl 16 4 (by kernel_rfl) (by kernel_rfl)
  have h:=ay [(16,_)] hs hd9 (holds_lk ⟨e16,trivial⟩)
  have s:=s.more hE
  have z:=St.start w2
  refine ac h (bZ ((d7 (s.getG 1 rfl) (show kx<K1.length by omega) hx1).1) (0) Tryz.underlying36 cz (h.ev rfl) (h.ev rfl) (by omega) (by omega)) rfl ?_;intro f h
  refine ah ?_
  have e9:=h.holds 17 _ rfl
  refine ⟨?_,Ext.refl _,fun h9=>absurd h9 (by decide)⟩
  refine e9.trans ?_
  exact rfl
 ·refine cr 18 rfl (by decide) (by decide) ?_
  intro f9 w2 hE hs hd9 hl
  have e17:f9.tmps.getD 17 undef=_:=cc hl 17 5 (by kernel_rfl) (by kernel_rfl)
  have h:=ay [(17,_)] hs hd9 (holds_lk ⟨e17,trivial⟩)
  have s:=s.more hE
  have z:=St.start w2
  refine ac h (bG aJ (h.ev rfl) (((d7 (s.getG 1 rfl) (show kx<K1.length by omega) hx1).1).some (by omega))) rfl ?_;intro f h
  refine ah ?_
  have e9:=h.holds 18 _ rfl
  refine ⟨?_,Ext.refl _,fun h9=>absurd h9 (by decide)⟩
  refine e9.trans ?_
  exact rfl
 ·refine cr 19 rfl (by decide) (by decide) ?_
  intro f9 w2 hE hs hd9 hl
  have e18:f9.tmps.getD 18 undef=_:=cc hl 18 6 (by kernel_rfl) (by kernel_rfl)
  have h:=ay [(18,_)] hs hd9 (holds_lk ⟨e18,trivial⟩)
  have s:=s.more hE
  have z:=St.start w2
  refine au (V:=.int .i64 ((tA K kx).sc.getD 0 aT).1) (dt ((d7 (s.getG 1 rfl) (show kx<K1.length by omega) hx1).1) (0*33+0) (ld (tA K kx).sc 0 (by omega))) h bz rfl rfl ?_;intro f h
  refine ah ?_
  have e9:=h.holds 19 _ rfl
  refine ⟨?_,Ext.refl _,fun h9=>absurd h9 (by decide)⟩
  refine e9.trans ?_
  exact rfl
 ·refine cr 20 rfl (by decide) (by decide) ?_
  intro f9 w2 hE hs hd9 hl
  have e12:f9.tmps.getD 12 undef=_:=cc hl 12 0 (by kernel_rfl) (by kernel_rfl)
  have e19:f9.tmps.getD 19 undef=_:=cc hl 19 7 (by kernel_rfl) (by kernel_rfl)
  have h:=ay [(12,_),(19,_)] hs hd9 (holds_lk ⟨e12,e19,trivial⟩)
  have s:=s.more hE
  have z:=St.start w2
  refine aH h s iH (aO (.pointer (some (aN vq ((tX K K1 kx)*68)))) (dV K1 vq (((tA K kx).sc.getD 0 aT).1) _ ⟨(bq.of_own (s.getSl 0 rfl)),fun y hy=>(s.getG 1 rfl y hy)⟩ (by omega)) (mK hi1)) rfl rfl ?_;intro f w1 v9 hT hE h s;obtain rfl:=hT
  refine ah ?_
  have e9:=h.holds 20 _ rfl
  refine ⟨?_,hE,fun h9=>absurd h9 (by decide)⟩
  refine e9.trans ?_
  exact rfl
 ·refine cr 21 rfl (by decide) (by decide) ?_
  intro f9 w2 hE hs hd9 hl
  have e20:f9.tmps.getD 20 undef=_:=cc hl 20 8 (by kernel_rfl) (by kernel_rfl)
  have h:=ay [(20,_)] hs hd9 (holds_lk ⟨e20,trivial⟩)
  have s:=s.more hE
  have z:=St.start w2
  refine ac h (bo (h.ev rfl)) rfl ?_;intro f h
  refine ah ?_
  have e9:=h.holds 21 _ rfl
  refine ⟨?_,Ext.refl _,fun h9=>absurd h9 (by decide)⟩
  refine e9.trans ?_
  exact rfl
 ·refine cr 22 rfl (by decide) (by decide) ?_
  intro f9 w2 hE hs hd9 hl
  have e21:f9.tmps.getD 21 undef=_:=cc hl 21 9 (by kernel_rfl) (by kernel_rfl)
  have h:=ay [(21,_)] hs hd9 (holds_lk ⟨e21,trivial⟩)
  have s:=s.more hE
  have z:=St.start w2
  refine aB ((bq.of_own (s.getSl 0 rfl)).el ((tX K K1 kx)) (by omega) (by decide) (D:=aC (tB K K1 kx).1.me (tB K K1 kx).1.pr (tB K K1 kx).2.1 (tB K K1 kx).2.2) (df K1 _ hi1)) h aZ rfl (aq _ _ _ _) rfl ?_;intro f h
  refine ah ?_
  have e9:=h.holds 22 _ rfl
  refine ⟨?_,Ext.refl _,fun h9=>absurd h9 (by decide)⟩
  refine e9.trans ?_
  exact rfl
 ·refine cr 5 rfl (by decide) (by decide) ?_
  intro f9 w2 hE hs hd9 hl
  have h:=ay [] hs hd9 (holds_lk trivial)
  have s:=s.more hE
  have z:=St.start w2
  refine bj (aC aT aT a8 a8) h z ea rfl rfl ?_;intro f w1 b9 h z
  refine ah ?_
  exact xt (h.holds 5 _ rfl) z
 ·exact fG (by decide) (by decide)
 ·intro f9 w2 hE hs hd9 hWp hT hR hFr hDj
  obtain ⟨u5,hu5⟩:∃ v,f9.tmps.getD 5 undef=v:=⟨_,rfl⟩
  have e5:(nH (aC aT aT a8 a8) 42) u5 w2:=by rw [← hu5];exact hT 11 5 (by decide) rfl
  have k5:=hFr 11 5 (by decide) rfl;rw [hu5] at k5
  replace h:=sl_new (ops:=_) [(12,_),(13,_),(14,_),(15,_),(16,_),(17,_),(18,_),(19,_),(20,_),(21,_),(22,_),(5,u5)] h hs hd9 hR ⟨hT 0 12 (by decide) rfl,hT 1 13 (by decide) rfl,hT 2 14 (by decide) rfl,hT 3 15 (by decide) rfl,hT 4 16 (by decide) rfl,hT 5 17 (by decide) rfl,hT 6 18 (by decide) rfl,hT 7 19 (by decide) rfl,hT 8 20 (by decide) rfl,hT 9 21 (by decide) rfl,hT 10 22 (by decide) rfl,hu5,trivial⟩ (by kernel_rfl)
  obtain ⟨b5,hb5,s⟩:=qV s hE e5 k5;subst hb5
  clear hT hR hFr hDj
  refine fZ.of ?_
  refine ax 0 h s aZ rfl rfl rfl (aq _ _ _ _) (aq _ _ _ _) (a7 (co ((s.getG 2 rfl _ (bw hi1)).1)) (co ((s.getG 2 rfl _ (bw hi1)).2))) ?_;intro w1 s
  refine ah ?_
  refine hK4 _ _ ?_
  refine al fun K5 hK5=>?_
  refine al fun K6 hK6=>?_
  cases p0:(ce (aM K) (tB K K1 kx).1.pr.1:Bool)
  ·skip
   refine ae ?_
   refine ac h (ag (h.ev rfl)) rfl ?_;intro f h
   refine ac h (ai bR (h.ev rfl)) rfl ?_;intro f h
   refine ac h (ai aJ (h.ev rfl)) rfl ?_;intro f h
   refine au (am (aU.of_own s 0 rfl) 33 (fS _ _ _ _)) h bz rfl rfl ?_;intro f h
   refine aH h s sL (aO (.bool false) (mc (bY K) bm (tB K K1 kx).1.pr.1 _ (s.get 3 rfl)) (congrArg Value.bool ((kS hRS.nos _).trans p0))) rfl rfl ?_;intro f w1 v9 hT hE h s;obtain rfl:=hT
   refine ac h (av (.bool true) (bh (h.ev rfl)) rfl) rfl ?_;intro f h
   refine ah ?_
   refine hK6 _ _ ?_
   refine wpIn_cond_true (h.ev rfl) ?_
   refine ae ?_
   refine aH h s AK (n8 _) rfl rfl ?_;intro f w1 v9 hT hE h s;obtain rfl:=hT
   refine ac h (ai bR (h.ev rfl)) rfl ?_;intro f h
   refine dM 0 h s aL rfl rfl rfl (ak _) (by rw [aq];omega) (aS _) ?_;intro w1 s
   replace s:=s.recell (D:=aC (tB K K1 kx).1.me de (tB K K1 kx).2.1 (tB K K1 kx).2.2) 0 rfl (fK _ _ _ _ _)
   refine ah ?_
   refine hK5 _ _ ?_
   refine al fun K7 hK7=>?_
   replace s:=s.recell (D:=aC (tC K K1 kx).me (tC K K1 kx).pr (tB K K1 kx).2.1 (tB K K1 kx).2.2) 0 rfl (by show _=aC (tB K K1 kx).1.me (bif ce (aM K1) (tB K K1 kx).1.pr.1 then (tB K K1 kx).1.pr else de) _ _;rw [hm1,p0];rfl)
   replace s:=s.bring 1 rfl
   replace s:St w0 (.sl vq 42 68 K1.length (aD K1)::.blk b5 (.cells (cx (tC K K1 kx) (tB K K1 kx).2.1 (tB K K1 kx).2.2) 42)::(.grp k1 (cS K1))::.blk bm (dn (bY K))::.blk b2 (.cells (#[vq]) 24)::B9) _:=s
   have hfo:=sZ (ik.2 hT1) (ik.2 hts)
   refine mq 1 [[],[],[1],[1,2],[],[1,2,3,4],[1,2,3,4,5],[1,2,3,4,5,6],[1,2,3,4,5,6],[0,1,2,3,4,5,6,7],[0,1,2,3,4,5,6,7,9]] [[],[],[],[11],[],[],[],[],[],[],[3]] [fun _=>[],fun _=>[],fun _=>[],fun v=>[.sl vq 42 68 K1.length (aD K1)],fun _=>[],fun v=>[.sl (bH 66 (v 5)) 28 33 (tD K K1 kx).sc.length (ap (tD K K1 kx).sc),.sl (bH 67 (v 5)) 28 33 (tD K K1 kx).fg.length (ap (tD K K1 kx).fg)],fun _=>[],fun _=>[],fun _=>[],fun _=>[],fun v=>[.sl vq 42 68 (K1.set kx (((tD K K1 kx),(bH 66 (v 5)),(bH 67 (v 5))):N3)).length (aD (K1.set kx (((tD K K1 kx),(bH 66 (v 5)),(bH 67 (v 5))):N3)))]] [[.sl vq 42 68 K1.length (aD K1)]] [fun v=>v 0=.pointer (some (aN vq (kx*68))),fun v=>v 1=.pointer (some (aN vq (kx*68))),fun v=>v 2=.pointer (some (aN vq (kx*68))),fun v=>v 3=.agg (cx (tA K kx) du dv),fun v=>v 4=.agg (cx (tC K K1 kx) (tB K K1 kx).2.1 (tB K K1 kx).2.2),fun v=>v 5=.tuple #[.agg (cx (tD K K1 kx) (bH 66 (v 5)) (bH 67 (v 5))),.int .i64 0],fun v=>v 6=.tuple #[.agg (cx (tD K K1 kx) (bH 66 (v 5)) (bH 67 (v 5))),.int .i64 0],fun v=>v 7=.agg (cx (tD K K1 kx) (bH 66 (v 5)) (bH 67 (v 5))),fun v=>v 8=.int .i64 0,fun v=>v 9=.pointer (some (aN vq (kx*68))),fun _=>True] (.blk b5 (.cells (cx (tC K K1 kx) (tB K K1 kx).2.1 (tB K K1 kx).2.2) 42)::(.grp k1 (cS K1))::.blk bm (dn (bY K))::.blk b2 (.cells (#[vq]) 24)::B9) h s rfl (by kernel_rfl) (by kernel_rfl) (by kernel_rfl) (And.intro ?_ (And.intro ?_ (And.intro ?_ (And.intro ?_ (And.intro ?_ (And.intro ?_ (And.intro ?_ (And.intro ?_ (And.intro ?_ (And.intro ?_ (And.intro ?_ (trivial)))))))))))) [0,1,2,4,5,6,7,8,9,10] (by kernel_rfl) ?_
   ·intro f9 w2 vl6 E9 hs9 hd9 hl hF s
    have e1:f9.tmps.getD 1 undef=_:=cI hl 1 (by kernel_rfl) (by kernel_rfl) (h.holds 1 _ rfl)
    have h:=ay [(1,_)] (hs9.trans h.size) (hd9.trans h.defers) (holds_lk ⟨e1,trivial⟩)
    replace s:St w0 (.blk b5 (.cells (cx (tC K K1 kx) (tB K K1 kx).2.1 (tB K K1 kx).2.2) 42)::(.grp k1 (cS K1))::.blk bm (dn (bY K))::.blk b2 (.cells (#[vq]) 24)::(B9++E9)) _:=s
    refine ac h (ag (h.ev rfl)) rfl ?_;intro f h
    exact ah ⟨_,bi 32 rfl (h.holds 32 _ rfl),rfl,s⟩
   ·intro f9 w2 vl6 E9 hs9 hd9 hl hF s
    have e1:f9.tmps.getD 1 undef=_:=cI hl 1 (by kernel_rfl) (by kernel_rfl) (h.holds 1 _ rfl)
    have h:=ay [(1,_)] (hs9.trans h.size) (hd9.trans h.defers) (holds_lk ⟨e1,trivial⟩)
    replace s:St w0 (.blk b5 (.cells (cx (tC K K1 kx) (tB K K1 kx).2.1 (tB K K1 kx).2.2) 42)::(.grp k1 (cS K1))::.blk bm (dn (bY K))::.blk b2 (.cells (#[vq]) 24)::(B9++E9)) _:=s
    refine ac h (ag (h.ev rfl)) rfl ?_;intro f h
    exact ah ⟨_,bi 33 rfl (h.holds 33 _ rfl),rfl,s⟩
   ·intro f9 w2 vl6 E9 hs9 hd9 hl hF s
    have e33:f9.tmps.getD 33 undef=.pointer (some (aN vq (kx*68))):=(br hl 33 1 (by kernel_rfl) (by kernel_rfl)).trans (hF 1 (by decide))
    have h:=ay [(33,.pointer (some (aN vq (kx*68))))] (hs9.trans h.size) (hd9.trans h.defers) (holds_lk ⟨e33,trivial⟩)
    replace s:St w0 (.blk b5 (.cells (cx (tC K K1 kx) (tB K K1 kx).2.1 (tB K K1 kx).2.2) 42)::(.grp k1 (cS K1))::.blk bm (dn (bY K))::.blk b2 (.cells (#[vq]) 24)::(B9++E9)) _:=s
    refine ac h (bo (h.ev rfl)) rfl ?_;intro f h
    exact ah ⟨_,bi 34 rfl (h.holds 34 _ rfl),rfl,s⟩
   ·intro f9 w2 vl6 E9 hs9 hd9 hl hF s
    have e34:f9.tmps.getD 34 undef=.pointer (some (aN vq (kx*68))):=(br hl 34 2 (by kernel_rfl) (by kernel_rfl)).trans (hF 2 (by decide))
    have h:=ay [(34,.pointer (some (aN vq (kx*68))))] (hs9.trans h.size) (hd9.trans h.defers) (holds_lk ⟨e34,trivial⟩)
    replace s:St w0 (.sl vq 42 68 K1.length (aD K1)::.blk b5 (.cells (cx (tC K K1 kx) (tB K K1 kx).2.1 (tB K K1 kx).2.2) 42)::(.grp k1 (cS K1))::.blk bm (dn (bY K))::.blk b2 (.cells (#[vq]) 24)::(B9++E9)) _:=s
    refine aB ((bq.of_own (s.getSl 0 rfl)).el (kx) (by omega) (by decide) (D:=aC (tA K kx).me (tA K kx).pr du dv) ((df K1 kx (by omega)).trans (by rw [hx1]))) h aZ rfl (aq _ _ _ _) rfl ?_;intro f h
    exact ah ⟨_,bi 35 rfl (h.holds 35 _ rfl),rfl,s⟩
   ·intro f9 w2 vl6 E9 hs9 hd9 hl hF s
    have e5:f9.tmps.getD 5 undef=_:=cI hl 5 (by kernel_rfl) (by kernel_rfl) (h.holds 5 _ rfl)
    have h:=ay [(5,_)] (hs9.trans h.size) (hd9.trans h.defers) (holds_lk ⟨e5,trivial⟩)
    replace s:St w0 (.blk b5 (.cells (cx (tC K K1 kx) (tB K K1 kx).2.1 (tB K K1 kx).2.2) 42)::(.grp k1 (cS K1))::.blk bm (dn (bY K))::.blk b2 (.cells (#[vq]) 24)::(B9++E9)) _:=s
    refine ar 0 h s aZ rfl rfl (aq _ _ _ _) rfl ?_;intro f h
    exact ah ⟨_,bi 36 rfl (h.holds 36 _ rfl),rfl,s⟩
   ·intro f9 w2 vl6 E9 hs9 hd9 hl hF s
    have e35:f9.tmps.getD 35 undef=.agg (cx (tA K kx) du dv):=(br hl 35 3 (by kernel_rfl) (by kernel_rfl)).trans (hF 3 (by decide))
    have e36:f9.tmps.getD 36 undef=.agg (cx (tC K K1 kx) (tB K K1 kx).2.1 (tB K K1 kx).2.2):=(br hl 36 4 (by kernel_rfl) (by kernel_rfl)).trans (hF 4 (by decide))
    have h:=ay [(35,.agg (cx (tA K kx) du dv)),(36,.agg (cx (tC K K1 kx) (tB K K1 kx).2.1 (tB K K1 kx).2.2))] (hs9.trans h.size) (hd9.trans h.defers) (holds_lk ⟨e35,e36,trivial⟩)
    replace s:St w0 (.blk b5 (.cells (cx (tC K K1 kx) (tB K K1 kx).2.1 (tB K K1 kx).2.2) 42)::(.grp k1 (cS K1))::.blk bm (dn (bY K))::.blk b2 (.cells (#[vq]) 24)::(B9++E9)) _:=s
    refine aH h s AY (ln (tA K kx) du dv (tC K K1 kx) (tB K K1 kx).2.1 (tB K K1 kx).2.2 _ (d7 (s.getG 1 rfl) (show kx<K1.length by omega) hx1).1 (d7 (s.getG 1 rfl) (show kx<K1.length by omega) hx1).2 (by omega) (by omega) (s.getG 1 rfl _ (bw hi1)).1 (s.getG 1 rfl _ (bw hi1)).2 (by show (tB K K1 kx).1.sc.length≤900;omega) (by show (tB K K1 kx).1.fg.length≤900;omega)) rfl rfl ?_;rintro f w1 v37 ⟨cu,cv,hv9,hS⟩ hE h sq;rw [hfo.1,hfo.2] at hv9;rw [hfo.1] at hS;replace s:=s.add hS
    have h66:cu=bH 66 v37:=by rw [hv9];exact(nu (bq.of_own (hS.getSl 0 rfl))).symm
    have h67:cv=bH 67 v37:=by rw [hv9];exact(nm (bq.of_own (hS.getSl 1 rfl))).symm
    clear hS
    subst h66;subst h67
    exact ah ⟨_,bi 37 rfl (h.holds 37 _ rfl),hv9,s⟩
   ·intro f9 w2 vl6 E9 hs9 hd9 hl hF s
    have e37:f9.tmps.getD 37 undef=.tuple #[.agg (cx (tD K K1 kx) (bH 66 (vl6 5)) (bH 67 (vl6 5))),.int .i64 0]:=(br hl 37 5 (by kernel_rfl) (by kernel_rfl)).trans (hF 5 (by decide))
    have h:=ay [(37,.tuple #[.agg (cx (tD K K1 kx) (bH 66 (vl6 5)) (bH 67 (vl6 5))),.int .i64 0])] (hs9.trans h.size) (hd9.trans h.defers) (holds_lk ⟨e37,trivial⟩)
    replace s:St w0 (.blk b5 (.cells (cx (tC K K1 kx) (tB K K1 kx).2.1 (tB K K1 kx).2.2) 42)::(.grp k1 (cS K1))::.blk bm (dn (bY K))::.blk b2 (.cells (#[vq]) 24)::(B9++E9)) _:=s
    refine ac h (ag (h.ev rfl)) rfl ?_;intro f h
    exact ah ⟨_,bi 31 rfl (h.holds 31 _ rfl),rfl,s⟩
   ·intro f9 w2 vl6 E9 hs9 hd9 hl hF s
    have e31:f9.tmps.getD 31 undef=.tuple #[.agg (cx (tD K K1 kx) (bH 66 (vl6 5)) (bH 67 (vl6 5))),.int .i64 0]:=(br hl 31 6 (by kernel_rfl) (by kernel_rfl)).trans (hF 6 (by decide))
    have h:=ay [(31,.tuple #[.agg (cx (tD K K1 kx) (bH 66 (vl6 5)) (bH 67 (vl6 5))),.int .i64 0])] (hs9.trans h.size) (hd9.trans h.defers) (holds_lk ⟨e31,trivial⟩)
    replace s:St w0 (.blk b5 (.cells (cx (tC K K1 kx) (tB K K1 kx).2.1 (tB K K1 kx).2.2) 42)::(.grp k1 (cS K1))::.blk bm (dn (bY K))::.blk b2 (.cells (#[vq]) 24)::(B9++E9)) _:=s
    refine ac h (bK (h.ev rfl) rfl) rfl ?_;intro f h
    exact ah ⟨_,bi 38 rfl (h.holds 38 _ rfl),rfl,s⟩
   ·intro f9 w2 vl6 E9 hs9 hd9 hl hF s
    have e31:f9.tmps.getD 31 undef=.tuple #[.agg (cx (tD K K1 kx) (bH 66 (vl6 5)) (bH 67 (vl6 5))),.int .i64 0]:=(br hl 31 6 (by kernel_rfl) (by kernel_rfl)).trans (hF 6 (by decide))
    have h:=ay [(31,.tuple #[.agg (cx (tD K K1 kx) (bH 66 (vl6 5)) (bH 67 (vl6 5))),.int .i64 0])] (hs9.trans h.size) (hd9.trans h.defers) (holds_lk ⟨e31,trivial⟩)
    replace s:St w0 (.blk b5 (.cells (cx (tC K K1 kx) (tB K K1 kx).2.1 (tB K K1 kx).2.2) 42)::(.grp k1 (cS K1))::.blk bm (dn (bY K))::.blk b2 (.cells (#[vq]) 24)::(B9++E9)) _:=s
    refine ac h (bK (h.ev rfl) rfl) rfl ?_;intro f h
    exact ah ⟨_,bi 39 rfl (h.holds 39 _ rfl),rfl,s⟩
   ·intro f9 w2 vl6 E9 hs9 hd9 hl hF s
    have e32:f9.tmps.getD 32 undef=.pointer (some (aN vq (kx*68))):=(br hl 32 0 (by kernel_rfl) (by kernel_rfl)).trans (hF 0 (by decide))
    have h:=ay [(32,.pointer (some (aN vq (kx*68))))] (hs9.trans h.size) (hd9.trans h.defers) (holds_lk ⟨e32,trivial⟩)
    replace s:St w0 (.blk b5 (.cells (cx (tC K K1 kx) (tB K K1 kx).2.1 (tB K K1 kx).2.2) 42)::(.grp k1 (cS K1))::.blk bm (dn (bY K))::.blk b2 (.cells (#[vq]) 24)::(B9++E9)) _:=s
    refine ac h (bo (h.ev rfl)) rfl ?_;intro f h
    exact ah ⟨_,bi 40 rfl (h.holds 40 _ rfl),rfl,s⟩
   ·intro f9 w2 vl6 E9 hs9 hd9 hl hF s
    have e40:f9.tmps.getD 40 undef=.pointer (some (aN vq (kx*68))):=(br hl 40 9 (by kernel_rfl) (by kernel_rfl)).trans (hF 9 (by decide))
    have e38:f9.tmps.getD 38 undef=.agg (cx (tD K K1 kx) (bH 66 (vl6 5)) (bH 67 (vl6 5))):=(br hl 38 7 (by kernel_rfl) (by kernel_rfl)).trans (hF 7 (by decide))
    have h:=ay [(40,.pointer (some (aN vq (kx*68)))),(38,.agg (cx (tD K K1 kx) (bH 66 (vl6 5)) (bH 67 (vl6 5))))] (hs9.trans h.size) (hd9.trans h.defers) (holds_lk ⟨e40,e38,trivial⟩)
    replace s:St w0 (.sl vq 42 68 K1.length (aD K1)::.blk b5 (.cells (cx (tC K K1 kx) (tB K K1 kx).2.1 (tB K K1 kx).2.2) 42)::(.grp k1 (cS K1))::.blk bm (dn (bY K))::.blk b2 (.cells (#[vq]) 24)::(B9++E9)) _:=s
    refine er 0 (kx) h s aZ rfl rfl rfl (aq _ _ _ _) (by omega) (a7 (fl _ _) (fl _ _)) (show _=aD (K1.set kx (((tD K K1 kx),(bH 66 (vl6 5)),(bH 67 (vl6 5))):N3)) from mu (by omega) (((tD K K1 kx),(bH 66 (vl6 5)),(bH 67 (vl6 5))):N3)) ?_;intro w1 s
    replace s:=s.resl (m:=(K1.set kx (((tD K K1 kx),(bH 66 (vl6 5)),(bH 67 (vl6 5))):N3)).length) (ys:=aD (K1.set kx (((tD K K1 kx),(bH 66 (vl6 5)),(bH 67 (vl6 5))):N3))) 0 rfl (by rw [List.length_set]) rfl
    exact ah ⟨undef,gL rfl,trivial,s⟩
   intro f w1 vl6 hs9 hd9 hv hr hF s
   replace h:=m3 (ops:=_) [(32,.pointer (some (aN vq (kx*68)))),(33,.pointer (some (aN vq (kx*68)))),(34,.pointer (some (aN vq (kx*68)))),(35,.agg (cx (tA K kx) du dv)),(36,.agg (cx (tC K K1 kx) (tB K K1 kx).2.1 (tB K K1 kx).2.2)),(37,.tuple #[.agg (cx (tD K K1 kx) (bH 66 (vl6 5)) (bH 67 (vl6 5))),.int .i64 0]),(31,.tuple #[.agg (cx (tD K K1 kx) (bH 66 (vl6 5)) (bH 67 (vl6 5))),.int .i64 0]),(38,.agg (cx (tD K K1 kx) (bH 66 (vl6 5)) (bH 67 (vl6 5)))),(39,.int .i64 0),(40,.pointer (some (aN vq (kx*68))))] h hs9 hd9 hr ⟨(hv 0 32 rfl).trans (hF 0 (by kernel_rfl)),(hv 1 33 rfl).trans (hF 1 (by kernel_rfl)),(hv 2 34 rfl).trans (hF 2 (by kernel_rfl)),(hv 3 35 rfl).trans (hF 3 (by kernel_rfl)),(hv 4 36 rfl).trans (hF 4 (by kernel_rfl)),(hv 5 37 rfl).trans (hF 5 (by kernel_rfl)),(hv 6 31 rfl).trans (hF 6 (by kernel_rfl)),(hv 7 38 rfl).trans (hF 7 (by kernel_rfl)),(hv 8 39 rfl).trans (hF 8 (by kernel_rfl)),(hv 9 40 rfl).trans (hF 9 (by kernel_rfl)),trivial⟩ (by kernel_rfl)
   replace s:St w0 (.sl (bH 66 (vl6 5)) 28 33 (tD K K1 kx).sc.length (ap (tD K K1 kx).sc)::.sl (bH 67 (vl6 5)) 28 33 (tD K K1 kx).fg.length (ap (tD K K1 kx).fg)::.sl vq 42 68 (K1.set kx (((tD K K1 kx),(bH 66 (vl6 5)),(bH 67 (vl6 5))):N3)).length (aD (K1.set kx (((tD K K1 kx),(bH 66 (vl6 5)),(bH 67 (vl6 5))):N3)))::.blk b5 (.cells (cx (tC K K1 kx) (tB K K1 kx).2.1 (tB K K1 kx).2.2) 42)::(.grp k1 (cS K1))::.blk bm (dn (bY K))::.blk b2 (.cells (#[vq]) 24)::B9) _:=s
   replace s:=s.bring 4 rfl
   replace s:=s.bring 2 rfl
   replace s:=s.bring 2 rfl
   replace s:St w0 (.sl (bH 66 (vl6 5)) 28 33 (tD K K1 kx).sc.length (ap (tD K K1 kx).sc)::.sl (bH 67 (vl6 5)) 28 33 (tD K K1 kx).fg.length (ap (tD K K1 kx).fg)::(.grp k1 (cS K1))::.sl vq 42 68 (K1.set kx (((tD K K1 kx),(bH 66 (vl6 5)),(bH 67 (vl6 5))):N3)).length (aD (K1.set kx (((tD K K1 kx),(bH 66 (vl6 5)),(bH 67 (vl6 5))):N3)))::.blk b5 (.cells (cx (tC K K1 kx) (tB K K1 kx).2.1 (tB K K1 kx).2.2) 42)::.blk bm (dn (bY K))::.blk b2 (.cells (#[vq]) 24)::B9) _:=s
   obtain ⟨k2,s⟩:=s.grpR (S':=cS (K1.set kx (((tD K K1 kx),(bH 66 (vl6 5)),(bH 67 (vl6 5))):N3))) (fun w9 h1 h2 h3=>jO h3 ⟨h1,h2⟩)
   obtain ⟨K2,hK2⟩:∃ x9,x9=(K1.set kx (((tD K K1 kx),(bH 66 (vl6 5)),(bH 67 (vl6 5))):N3)):=⟨_,rfl⟩
   rw [← hK2] at s
   have hx2:K2.getD kx z3=((tD K K1 kx),(bH 66 (vl6 5)),(bH 67 (vl6 5))):=by rw [hK2];exact kP (by omega) _
   have hl2:K2.length=K1.length:=by rw [hK2,List.length_set]
   have hT2:RN (tD K K1 kx):=m6 hT1 hts
   obtain ⟨hp2,hR2,hm2⟩:=jW hR1 (by omega) (x:=(((tD K K1 kx),(bH 66 (vl6 5)),(bH 67 (vl6 5))):N3)) (show (K1.getD kx z3).1.me=_ by rw [hx1];rfl) hT2
   rw [← hK2] at hp2 hR2 hm2
   have hn2:nds K2=iw (nds K1) (tD K K1 kx):=by rw [hp2,fF]
   have hT2l:=hT2.len
   have hend:=p3 hRS hk rfl hn1 (show (tD K K1 kx)=q7 (tA K kx) (pI (aM K1) (bC K1 ((tA K kx).sc.getD 0 aT).1).1) by rw [← hg1]) hn2
   refine hK7 _ _ ?_
   refine al fun K8 hK8=>?_
   cases p1:(ce (aM K2) (((tD K K1 kx).sc.getD 0 aT).1):Bool)
   ·skip
    refine bI 10 [[],[],[1],[1,2],[1,2,3],[1,2,3,4],[1,2,3,4,5],[1,2,3,4,5,6],[0,1,2,3,4,5,6,7],[0,1,2,3,4,5,6,7,8]] h (by kernel_rfl) (by kernel_rfl) (by kernel_rfl) ?_
    refine bB 4 h s a6 rfl rfl (rfl) rfl ?_;intro f h
    refine ao h (ag (h.ev rfl)) rfl ?_;intro f h
    refine ao h (bo (h.ev rfl)) rfl ?_;intro f h
    refine ao h (bG bD (h.ev rfl) ((bq.of_own (s.getSl 1 rfl)).some (by omega))) rfl ?_;intro f h
    refine a2 (V:=(bH 66 (vl6 5))) (dt (bq.of_own (s.getSl 1 rfl)) (kx*68+66) ((iy K2 kx (by omega)).trans (by rw [hx2]))) h bE rfl rfl ?_;intro f h
    refine ao h (bZ ((d7 (s.getG 0 rfl) (show kx<K2.length by omega) hx2).1) (0) Tryz.underlying36 cz (h.ev rfl) (h.ev rfl) (by omega) (by omega)) rfl ?_;intro f h
    refine ao h (bG aJ (h.ev rfl) (((d7 (s.getG 0 rfl) (show kx<K2.length by omega) hx2).1).some (by omega))) rfl ?_;intro f h
    refine a2 (V:=.int .i64 ((tD K K1 kx).sc.getD 0 aT).1) (dt ((d7 (s.getG 0 rfl) (show kx<K2.length by omega) hx2).1) (0*33+0) (ld (tD K K1 kx).sc 0 (by omega))) h bz rfl rfl ?_;intro f h
    refine cm h iH (fun w9 hE9=>aO (.pointer none) (dV K2 vq (((tD K K1 kx).sc.getD 0 aT).1) w9 ⟨(bq.of_own (s.getSl 1 rfl)).keep hE9,fun y hy=>(s.getG 0 rfl y hy).keep hE9⟩ (by omega)) (ob (of_decide_eq_false ((eX hR2.nos).trans p1)))) rfl rfl ?_;intro f h
    refine ao h (aj (h.ev rfl)) rfl ?_;intro f h
    refine cq s fun w1 s=>?_
    refine ah ?_
    refine hK8 _ _ ?_
    refine al fun K9 hK9=>?_
    refine ae ?_
    refine ac h (ag (h.ev rfl)) rfl ?_;intro f h
    refine ac h (av (.bool false) (ey Tryz.underlying54 (h.ev rfl) (h.ev rfl)) (rfl)) rfl ?_;intro f h
    refine ah ?_
    refine hK9 _ _ ?_
    refine wpIn_cond_false (h.ev rfl) ?_
    refine wpIn_skip ?_
    replace s:=s.bring 1 rfl
    replace s:St w0 (.sl vq 42 68 K2.length (aD K2)::(.grp k2 (cS K2))::.blk b5 (.cells (cx (tC K K1 kx) (tB K K1 kx).2.1 (tB K K1 kx).2.2) 42)::.blk bm (dn (bY K))::.blk b2 (.cells (#[vq]) 24)::B9) _:=s
    exact dW rfl h (⟨_,rfl,K2,k2,(by rw [hend,p1];rfl),(s.pick _ (List.Sublist.cons_cons _ (List.Sublist.cons_cons _ (List.Sublist.cons _ (List.Sublist.cons _ (List.Sublist.cons _ (List.Sublist.refl _)))))))⟩)
   ·skip
    refine bI 10 [[],[],[1],[1,2],[1,2,3],[1,2,3,4],[1,2,3,4,5],[1,2,3,4,5,6],[0,1,2,3,4,5,6,7],[0,1,2,3,4,5,6,7,8]] h (by kernel_rfl) (by kernel_rfl) (by kernel_rfl) ?_
    refine bB 4 h s a6 rfl rfl (rfl) rfl ?_;intro f h
    refine ao h (ag (h.ev rfl)) rfl ?_;intro f h
    refine ao h (bo (h.ev rfl)) rfl ?_;intro f h
    refine ao h (bG bD (h.ev rfl) ((bq.of_own (s.getSl 1 rfl)).some (by omega))) rfl ?_;intro f h
    refine a2 (V:=(bH 66 (vl6 5))) (dt (bq.of_own (s.getSl 1 rfl)) (kx*68+66) ((iy K2 kx (by omega)).trans (by rw [hx2]))) h bE rfl rfl ?_;intro f h
    refine ao h (bZ ((d7 (s.getG 0 rfl) (show kx<K2.length by omega) hx2).1) (0) Tryz.underlying36 cz (h.ev rfl) (h.ev rfl) (by omega) (by omega)) rfl ?_;intro f h
    refine ao h (bG aJ (h.ev rfl) (((d7 (s.getG 0 rfl) (show kx<K2.length by omega) hx2).1).some (by omega))) rfl ?_;intro f h
    refine a2 (V:=.int .i64 ((tD K K1 kx).sc.getD 0 aT).1) (dt ((d7 (s.getG 0 rfl) (show kx<K2.length by omega) hx2).1) (0*33+0) (ld (tD K K1 kx).sc 0 (by omega))) h bz rfl rfl ?_;intro f h
    refine cm h iH (fun w9 hE9=>aO (.pointer (some (aN vq ((tY K K1 K2 kx)*68)))) (dV K2 vq (((tD K K1 kx).sc.getD 0 aT).1) w9 ⟨(bq.of_own (s.getSl 1 rfl)).keep hE9,fun y hy=>(s.getG 0 rfl y hy).keep hE9⟩ (by omega)) (mK (ij hR2 p1).1)) rfl rfl ?_;intro f h
    refine ao h (aj (h.ev rfl)) rfl ?_;intro f h
    refine cq s fun w1 s=>?_
    refine ah ?_
    refine hK8 _ _ ?_
    refine al fun K10 hK10=>?_
    refine ae ?_
    refine ac h (ag (h.ev rfl)) rfl ?_;intro f h
    refine ac h (av (.bool true) (ey Tryz.underlying54 (h.ev rfl) (h.ev rfl)) (rfl)) rfl ?_;intro f h
    refine ah ?_
    refine hK10 _ _ ?_
    refine wpIn_cond_true (h.ev rfl) ?_
    replace s:=s.bring 1 rfl
    replace s:St w0 (.sl vq 42 68 K2.length (aD K2)::(.grp k2 (cS K2))::.blk b5 (.cells (cx (tC K K1 kx) (tB K K1 kx).2.1 (tB K K1 kx).2.2) 42)::.blk bm (dn (bY K))::.blk b2 (.cells (#[vq]) 24)::B9) _:=s
    obtain ⟨hi2,hg2,hgm2⟩:=ij hR2 p1
    replace hg2:(tE K K1 K2 kx)=_:=hg2
    have hzr:RN (tE K K1 K2 kx).1:=by rw [hg2];exact hR2.rn _ hgm2
    have hzl:=hzr.len
    have hzf:=hzr.fg.1
    have hnt:=g8 (ik.2 hzr) (gO.2 hT2.me)
    refine vS 1 [[],[],[1],[1,2],[],[4],[4,5],[4,5,6],[1,2,3,4,5,6,7],[1,2,3,4,5,6,7,8],[1,2,3,4,5,6,7,8,9],[1,2,3,4,5,6,7,8,9],[0,1,2,3,4,5,6,7,8,9,10],[0,1,2,3,4,5,6,7,8,9,10,12]] [[],[],[],[],[],[],[],[],[],[],[],[],[],[14]] [[],[],[],[0],[],[],[0],[0],[],[],[],[],[],[]] [fun _=>[],fun _=>[],fun _=>[],fun _=>[],fun _=>[],fun _=>[],fun _=>[],fun _=>[],fun v=>[.sl (bH 66 (v 8)) 28 33 (tF K K1 K2 kx).sc.length (ap (tF K K1 K2 kx).sc),.sl (bH 67 (v 8)) 28 33 (tF K K1 K2 kx).fg.length (ap (tF K K1 K2 kx).fg)],fun _=>[],fun _=>[],fun _=>[],fun _=>[],fun v=>[.sl vq 42 68 (K2.set (tY K K1 K2 kx) (((tF K K1 K2 kx),(bH 66 (v 8)),(bH 67 (v 8))):N3)).length (aD (K2.set (tY K K1 K2 kx) (((tF K K1 K2 kx),(bH 66 (v 8)),(bH 67 (v 8))):N3)))]] [[.sl vq 42 68 K2.length (aD K2)]] [fun v=>v 0=.pointer (some (aN vq ((tY K K1 K2 kx)*68))),fun v=>v 1=.pointer (some (aN vq ((tY K K1 K2 kx)*68))),fun v=>v 2=.pointer (some (aN vq ((tY K K1 K2 kx)*68))),fun v=>v 3=.agg (qS (tE K K1 K2 kx)),fun v=>v 4=.pointer (some (aN vq (kx*68))),fun v=>v 5=.pointer (some (aN vq (kx*68))),fun v=>v 6=.pointer (some (aN vq (kx*68+0))),fun v=>v 7=.agg (aw (tD K K1 kx).me),fun v=>v 8=.tuple #[.agg (cx (tF K K1 K2 kx) (bH 66 (v 8)) (bH 67 (v 8))),.int .i64 0],fun v=>v 9=.tuple #[.agg (cx (tF K K1 K2 kx) (bH 66 (v 8)) (bH 67 (v 8))),.int .i64 0],fun v=>v 10=.agg (cx (tF K K1 K2 kx) (bH 66 (v 8)) (bH 67 (v 8))),fun v=>v 11=.int .i64 0,fun v=>v 12=.pointer (some (aN vq ((tY K K1 K2 kx)*68))),fun _=>True] ((.grp k2 (cS K2))::.blk b5 (.cells (cx (tC K K1 kx) (tB K K1 kx).2.1 (tB K K1 kx).2.2) 42)::.blk bm (dn (bY K))::.blk b2 (.cells (#[vq]) 24)::B9) h s rfl (by kernel_rfl) (by kernel_rfl) (by kernel_rfl) (by kernel_rfl) (And.intro ?_ (And.intro ?_ (And.intro ?_ (And.intro ?_ (And.intro ?_ (And.intro ?_ (And.intro ?_ (And.intro ?_ (And.intro ?_ (And.intro ?_ (And.intro ?_ (And.intro ?_ (And.intro ?_ (And.intro ?_ (trivial))))))))))))))) [0,1,2,3,4,5,6,7,8,9,10,11,12,13] (by kernel_rfl) ?_
    ·intro f9 w2 vl9 E9 hs9 hd9 hl hF hR9 s
     have e6:f9.tmps.getD 6 undef=_:=cI hl 6 (by kernel_rfl) (by kernel_rfl) (h.holds 6 _ rfl)
     have h:=ay [(6,_)] (hs9.trans h.size) (hd9.trans h.defers) (holds_lk ⟨e6,trivial⟩)
     replace s:St w0 ((.grp k2 (cS K2))::.blk b5 (.cells (cx (tC K K1 kx) (tB K K1 kx).2.1 (tB K K1 kx).2.2) 42)::.blk bm (dn (bY K))::.blk b2 (.cells (#[vq]) 24)::(B9++E9)) _:=s
     refine ac h (ag (h.ev rfl)) rfl ?_;intro f h
     exact ah ⟨_,bi 53 rfl (h.holds 53 _ rfl),rfl,s⟩
    ·intro f9 w2 vl9 E9 hs9 hd9 hl hF hR9 s
     have e6:f9.tmps.getD 6 undef=_:=cI hl 6 (by kernel_rfl) (by kernel_rfl) (h.holds 6 _ rfl)
     have h:=ay [(6,_)] (hs9.trans h.size) (hd9.trans h.defers) (holds_lk ⟨e6,trivial⟩)
     replace s:St w0 ((.grp k2 (cS K2))::.blk b5 (.cells (cx (tC K K1 kx) (tB K K1 kx).2.1 (tB K K1 kx).2.2) 42)::.blk bm (dn (bY K))::.blk b2 (.cells (#[vq]) 24)::(B9++E9)) _:=s
     refine ac h (ag (h.ev rfl)) rfl ?_;intro f h
     exact ah ⟨_,bi 54 rfl (h.holds 54 _ rfl),rfl,s⟩
    ·intro f9 w2 vl9 E9 hs9 hd9 hl hF hR9 s
     have e54:f9.tmps.getD 54 undef=.pointer (some (aN vq ((tY K K1 K2 kx)*68))):=(br hl 54 1 (by kernel_rfl) (by kernel_rfl)).trans (hF 1 (by decide))
     have h:=ay [(54,.pointer (some (aN vq ((tY K K1 K2 kx)*68))))] (hs9.trans h.size) (hd9.trans h.defers) (holds_lk ⟨e54,trivial⟩)
     replace s:St w0 ((.grp k2 (cS K2))::.blk b5 (.cells (cx (tC K K1 kx) (tB K K1 kx).2.1 (tB K K1 kx).2.2) 42)::.blk bm (dn (bY K))::.blk b2 (.cells (#[vq]) 24)::(B9++E9)) _:=s
     refine ac h (bo (h.ev rfl)) rfl ?_;intro f h
     exact ah ⟨_,bi 55 rfl (h.holds 55 _ rfl),rfl,s⟩
    ·intro f9 w2 vl9 E9 hs9 hd9 hl hF hR9 s
     have hq9:Own.sl vq 42 68 K2.length (aD K2)∈E9:=hR9 0 (by decide) _ List.mem_cons_self
     have e55:f9.tmps.getD 55 undef=.pointer (some (aN vq ((tY K K1 K2 kx)*68))):=(br hl 55 2 (by kernel_rfl) (by kernel_rfl)).trans (hF 2 (by decide))
     have h:=ay [(55,.pointer (some (aN vq ((tY K K1 K2 kx)*68))))] (hs9.trans h.size) (hd9.trans h.defers) (holds_lk ⟨e55,trivial⟩)
     replace s:St w0 ((.grp k2 (cS K2))::.blk b5 (.cells (cx (tC K K1 kx) (tB K K1 kx).2.1 (tB K K1 kx).2.2) 42)::.blk bm (dn (bY K))::.blk b2 (.cells (#[vq]) 24)::(B9++E9)) _:=s
     have hq8:Own.sl vq 42 68 K2.length (aD K2)∈((.grp k2 (cS K2))::.blk b5 (.cells (cx (tC K K1 kx) (tB K K1 kx).2.1 (tB K K1 kx).2.2) 42)::.blk bm (dn (bY K))::.blk b2 (.cells (#[vq]) 24)::(B9++E9)):=by simp only [List.mem_cons,List.mem_append,hq9,or_true]
     refine aB ((bq.of_own (s.memSl hq8)).el ((tY K K1 K2 kx)) (by omega) (by decide) (D:=aC (tE K K1 K2 kx).1.me (tE K K1 K2 kx).1.pr (tE K K1 K2 kx).2.1 (tE K K1 K2 kx).2.2) (df K2 _ hi2)) h aZ rfl (aq _ _ _ _) rfl ?_;intro f h
     exact ah ⟨_,bi 56 rfl (h.holds 56 _ rfl),rfl,s⟩
    ·intro f9 w2 vl9 E9 hs9 hd9 hl hF hR9 s
     have e1:f9.tmps.getD 1 undef=_:=cI hl 1 (by kernel_rfl) (by kernel_rfl) (h.holds 1 _ rfl)
     have h:=ay [(1,_)] (hs9.trans h.size) (hd9.trans h.defers) (holds_lk ⟨e1,trivial⟩)
     replace s:St w0 ((.grp k2 (cS K2))::.blk b5 (.cells (cx (tC K K1 kx) (tB K K1 kx).2.1 (tB K K1 kx).2.2) 42)::.blk bm (dn (bY K))::.blk b2 (.cells (#[vq]) 24)::(B9++E9)) _:=s
     refine ac h (ag (h.ev rfl)) rfl ?_;intro f h
     exact ah ⟨_,bi 57 rfl (h.holds 57 _ rfl),rfl,s⟩
    ·intro f9 w2 vl9 E9 hs9 hd9 hl hF hR9 s
     have e57:f9.tmps.getD 57 undef=.pointer (some (aN vq (kx*68))):=(br hl 57 4 (by kernel_rfl) (by kernel_rfl)).trans (hF 4 (by decide))
     have h:=ay [(57,.pointer (some (aN vq (kx*68))))] (hs9.trans h.size) (hd9.trans h.defers) (holds_lk ⟨e57,trivial⟩)
     replace s:St w0 ((.grp k2 (cS K2))::.blk b5 (.cells (cx (tC K K1 kx) (tB K K1 kx).2.1 (tB K K1 kx).2.2) 42)::.blk bm (dn (bY K))::.blk b2 (.cells (#[vq]) 24)::(B9++E9)) _:=s
     refine ac h (bo (h.ev rfl)) rfl ?_;intro f h
     exact ah ⟨_,bi 58 rfl (h.holds 58 _ rfl),rfl,s⟩
    ·intro f9 w2 vl9 E9 hs9 hd9 hl hF hR9 s
     have hq9:Own.sl vq 42 68 K2.length (aD K2)∈E9:=hR9 0 (by decide) _ List.mem_cons_self
     have e58:f9.tmps.getD 58 undef=.pointer (some (aN vq (kx*68))):=(br hl 58 5 (by kernel_rfl) (by kernel_rfl)).trans (hF 5 (by decide))
     have h:=ay [(58,.pointer (some (aN vq (kx*68))))] (hs9.trans h.size) (hd9.trans h.defers) (holds_lk ⟨e58,trivial⟩)
     replace s:St w0 ((.grp k2 (cS K2))::.blk b5 (.cells (cx (tC K K1 kx) (tB K K1 kx).2.1 (tB K K1 kx).2.2) 42)::.blk bm (dn (bY K))::.blk b2 (.cells (#[vq]) 24)::(B9++E9)) _:=s
     have hq8:Own.sl vq 42 68 K2.length (aD K2)∈((.grp k2 (cS K2))::.blk b5 (.cells (cx (tC K K1 kx) (tB K K1 kx).2.1 (tB K K1 kx).2.2) 42)::.blk bm (dn (bY K))::.blk b2 (.cells (#[vq]) 24)::(B9++E9)):=by simp only [List.mem_cons,List.mem_append,hq9,or_true]
     refine ac h (bG aR (h.ev rfl) ((bq.of_own (s.memSl hq8)).some (by omega))) rfl ?_;intro f h
     exact ah ⟨_,bi 59 rfl (h.holds 59 _ rfl),rfl,s⟩
    ·intro f9 w2 vl9 E9 hs9 hd9 hl hF hR9 s
     have hq9:Own.sl vq 42 68 K2.length (aD K2)∈E9:=hR9 0 (by decide) _ List.mem_cons_self
     have e59:f9.tmps.getD 59 undef=.pointer (some (aN vq (kx*68+0))):=(br hl 59 6 (by kernel_rfl) (by kernel_rfl)).trans (hF 6 (by decide))
     have h:=ay [(59,.pointer (some (aN vq (kx*68+0))))] (hs9.trans h.size) (hd9.trans h.defers) (holds_lk ⟨e59,trivial⟩)
     replace s:St w0 ((.grp k2 (cS K2))::.blk b5 (.cells (cx (tC K K1 kx) (tB K K1 kx).2.1 (tB K K1 kx).2.2) 42)::.blk bm (dn (bY K))::.blk b2 (.cells (#[vq]) 24)::(B9++E9)) _:=s
     have hq8:Own.sl vq 42 68 K2.length (aD K2)∈((.grp k2 (cS K2))::.blk b5 (.cells (cx (tC K K1 kx) (tB K K1 kx).2.1 (tB K K1 kx).2.2) 42)::.blk bm (dn (bY K))::.blk b2 (.cells (#[vq]) 24)::(B9++E9)):=by simp only [List.mem_cons,List.mem_append,hq9,or_true]
     refine aB (bq.elF (bq.of_own (s.memSl hq8)) (kx) 0 33 (by omega) (by decide) (C:=aC (tD K K1 kx).me (tD K K1 kx).pr (bH 66 (vl6 5)) (bH 67 (vl6 5))) ((df K2 kx (by omega)).trans (by rw [hx2])) (D:=aw (tD K K1 kx).me) (bT _ _ _ _)) h aL rfl (ak _) rfl ?_;intro f h
     exact ah ⟨_,bi 60 rfl (h.holds 60 _ rfl),rfl,s⟩
    ·intro f9 w2 vl9 E9 hs9 hd9 hl hF hR9 s
     have e56:f9.tmps.getD 56 undef=.agg (qS (tE K K1 K2 kx)):=(br hl 56 3 (by kernel_rfl) (by kernel_rfl)).trans (hF 3 (by decide))
     have e60:f9.tmps.getD 60 undef=.agg (aw (tD K K1 kx).me):=(br hl 60 7 (by kernel_rfl) (by kernel_rfl)).trans (hF 7 (by decide))
     have h:=ay [(56,.agg (qS (tE K K1 K2 kx))),(60,.agg (aw (tD K K1 kx).me))] (hs9.trans h.size) (hd9.trans h.defers) (holds_lk ⟨e56,e60,trivial⟩)
     replace s:St w0 ((.grp k2 (cS K2))::.blk b5 (.cells (cx (tC K K1 kx) (tB K K1 kx).2.1 (tB K K1 kx).2.2) 42)::.blk bm (dn (bY K))::.blk b2 (.cells (#[vq]) 24)::(B9++E9)) _:=s
     refine aH h s Ad (nr (tE K K1 K2 kx).1 (tE K K1 K2 kx).2.1 (tE K K1 K2 kx).2.2 (tD K K1 kx).me _ (s.getG 0 rfl _ (bw hi2)).1 (s.getG 0 rfl _ (bw hi2)).2 (by omega) (by omega)) rfl rfl ?_;rintro f w1 v61 ⟨cu,cv,hv9,hS⟩ hE h sq;rw [hnt.1,hnt.2] at hv9;rw [hnt.1] at hS;replace s:=s.add hS
     have h66:cu=bH 66 v61:=by rw [hv9];exact(nu (bq.of_own (hS.getSl 0 rfl))).symm
     have h67:cv=bH 67 v61:=by rw [hv9];exact(nm (bq.of_own (hS.getSl 1 rfl))).symm
     clear hS
     subst h66;subst h67
     exact ah ⟨_,bi 61 rfl (h.holds 61 _ rfl),hv9,s⟩
    ·intro f9 w2 vl9 E9 hs9 hd9 hl hF hR9 s
     have e61:f9.tmps.getD 61 undef=.tuple #[.agg (cx (tF K K1 K2 kx) (bH 66 (vl9 8)) (bH 67 (vl9 8))),.int .i64 0]:=(br hl 61 8 (by kernel_rfl) (by kernel_rfl)).trans (hF 8 (by decide))
     have h:=ay [(61,.tuple #[.agg (cx (tF K K1 K2 kx) (bH 66 (vl9 8)) (bH 67 (vl9 8))),.int .i64 0])] (hs9.trans h.size) (hd9.trans h.defers) (holds_lk ⟨e61,trivial⟩)
     replace s:St w0 ((.grp k2 (cS K2))::.blk b5 (.cells (cx (tC K K1 kx) (tB K K1 kx).2.1 (tB K K1 kx).2.2) 42)::.blk bm (dn (bY K))::.blk b2 (.cells (#[vq]) 24)::(B9++E9)) _:=s
     refine ac h (ag (h.ev rfl)) rfl ?_;intro f h
     exact ah ⟨_,bi 52 rfl (h.holds 52 _ rfl),rfl,s⟩
    ·intro f9 w2 vl9 E9 hs9 hd9 hl hF hR9 s
     have e52:f9.tmps.getD 52 undef=.tuple #[.agg (cx (tF K K1 K2 kx) (bH 66 (vl9 8)) (bH 67 (vl9 8))),.int .i64 0]:=(br hl 52 9 (by kernel_rfl) (by kernel_rfl)).trans (hF 9 (by decide))
     have h:=ay [(52,.tuple #[.agg (cx (tF K K1 K2 kx) (bH 66 (vl9 8)) (bH 67 (vl9 8))),.int .i64 0])] (hs9.trans h.size) (hd9.trans h.defers) (holds_lk ⟨e52,trivial⟩)
     replace s:St w0 ((.grp k2 (cS K2))::.blk b5 (.cells (cx (tC K K1 kx) (tB K K1 kx).2.1 (tB K K1 kx).2.2) 42)::.blk bm (dn (bY K))::.blk b2 (.cells (#[vq]) 24)::(B9++E9)) _:=s
     refine ac h (bK (h.ev rfl) rfl) rfl ?_;intro f h
     exact ah ⟨_,bi 62 rfl (h.holds 62 _ rfl),rfl,s⟩
    ·intro f9 w2 vl9 E9 hs9 hd9 hl hF hR9 s
     have e52:f9.tmps.getD 52 undef=.tuple #[.agg (cx (tF K K1 K2 kx) (bH 66 (vl9 8)) (bH 67 (vl9 8))),.int .i64 0]:=(br hl 52 9 (by kernel_rfl) (by kernel_rfl)).trans (hF 9 (by decide))
     have h:=ay [(52,.tuple #[.agg (cx (tF K K1 K2 kx) (bH 66 (vl9 8)) (bH 67 (vl9 8))),.int .i64 0])] (hs9.trans h.size) (hd9.trans h.defers) (holds_lk ⟨e52,trivial⟩)
     replace s:St w0 ((.grp k2 (cS K2))::.blk b5 (.cells (cx (tC K K1 kx) (tB K K1 kx).2.1 (tB K K1 kx).2.2) 42)::.blk bm (dn (bY K))::.blk b2 (.cells (#[vq]) 24)::(B9++E9)) _:=s
     refine ac h (bK (h.ev rfl) rfl) rfl ?_;intro f h
     exact ah ⟨_,bi 63 rfl (h.holds 63 _ rfl),rfl,s⟩
    ·intro f9 w2 vl9 E9 hs9 hd9 hl hF hR9 s
     have e53:f9.tmps.getD 53 undef=.pointer (some (aN vq ((tY K K1 K2 kx)*68))):=(br hl 53 0 (by kernel_rfl) (by kernel_rfl)).trans (hF 0 (by decide))
     have h:=ay [(53,.pointer (some (aN vq ((tY K K1 K2 kx)*68))))] (hs9.trans h.size) (hd9.trans h.defers) (holds_lk ⟨e53,trivial⟩)
     replace s:St w0 ((.grp k2 (cS K2))::.blk b5 (.cells (cx (tC K K1 kx) (tB K K1 kx).2.1 (tB K K1 kx).2.2) 42)::.blk bm (dn (bY K))::.blk b2 (.cells (#[vq]) 24)::(B9++E9)) _:=s
     refine ac h (bo (h.ev rfl)) rfl ?_;intro f h
     exact ah ⟨_,bi 64 rfl (h.holds 64 _ rfl),rfl,s⟩
    ·intro f9 w2 vl9 E9 hs9 hd9 hl hF hR9 s
     have e64:f9.tmps.getD 64 undef=.pointer (some (aN vq ((tY K K1 K2 kx)*68))):=(br hl 64 12 (by kernel_rfl) (by kernel_rfl)).trans (hF 12 (by decide))
     have e62:f9.tmps.getD 62 undef=.agg (cx (tF K K1 K2 kx) (bH 66 (vl9 8)) (bH 67 (vl9 8))):=(br hl 62 10 (by kernel_rfl) (by kernel_rfl)).trans (hF 10 (by decide))
     have h:=ay [(64,.pointer (some (aN vq ((tY K K1 K2 kx)*68)))),(62,.agg (cx (tF K K1 K2 kx) (bH 66 (vl9 8)) (bH 67 (vl9 8))))] (hs9.trans h.size) (hd9.trans h.defers) (holds_lk ⟨e64,e62,trivial⟩)
     replace s:St w0 (.sl vq 42 68 K2.length (aD K2)::(.grp k2 (cS K2))::.blk b5 (.cells (cx (tC K K1 kx) (tB K K1 kx).2.1 (tB K K1 kx).2.2) 42)::.blk bm (dn (bY K))::.blk b2 (.cells (#[vq]) 24)::(B9++E9)) _:=s
     refine er 0 ((tY K K1 K2 kx)) h s aZ rfl rfl rfl (aq _ _ _ _) (by omega) (a7 (fl _ _) (fl _ _)) (show _=aD (K2.set (tY K K1 K2 kx) (((tF K K1 K2 kx),(bH 66 (vl9 8)),(bH 67 (vl9 8))):N3)) from mu hi2 (((tF K K1 K2 kx),(bH 66 (vl9 8)),(bH 67 (vl9 8))):N3)) ?_;intro w1 s
     replace s:=s.resl (m:=(K2.set (tY K K1 K2 kx) (((tF K K1 K2 kx),(bH 66 (vl9 8)),(bH 67 (vl9 8))):N3)).length) (ys:=aD (K2.set (tY K K1 K2 kx) (((tF K K1 K2 kx),(bH 66 (vl9 8)),(bH 67 (vl9 8))):N3))) 0 rfl (by rw [List.length_set]) rfl
     exact ah ⟨undef,gL rfl,trivial,s⟩
    intro f w1 vl9 hs9 hd9 hv hr hF s
    replace h:=m3 (ops:=_) [(53,.pointer (some (aN vq ((tY K K1 K2 kx)*68)))),(54,.pointer (some (aN vq ((tY K K1 K2 kx)*68)))),(55,.pointer (some (aN vq ((tY K K1 K2 kx)*68)))),(56,.agg (qS (tE K K1 K2 kx))),(57,.pointer (some (aN vq (kx*68)))),(58,.pointer (some (aN vq (kx*68)))),(59,.pointer (some (aN vq (kx*68+0)))),(60,.agg (aw (tD K K1 kx).me)),(61,.tuple #[.agg (cx (tF K K1 K2 kx) (bH 66 (vl9 8)) (bH 67 (vl9 8))),.int .i64 0]),(52,.tuple #[.agg (cx (tF K K1 K2 kx) (bH 66 (vl9 8)) (bH 67 (vl9 8))),.int .i64 0]),(62,.agg (cx (tF K K1 K2 kx) (bH 66 (vl9 8)) (bH 67 (vl9 8)))),(63,.int .i64 0),(64,.pointer (some (aN vq ((tY K K1 K2 kx)*68))))] h hs9 hd9 hr ⟨(hv 0 53 rfl).trans (hF 0 (by kernel_rfl)),(hv 1 54 rfl).trans (hF 1 (by kernel_rfl)),(hv 2 55 rfl).trans (hF 2 (by kernel_rfl)),(hv 3 56 rfl).trans (hF 3 (by kernel_rfl)),(hv 4 57 rfl).trans (hF 4 (by kernel_rfl)),(hv 5 58 rfl).trans (hF 5 (by kernel_rfl)),(hv 6 59 rfl).trans (hF 6 (by kernel_rfl)),(hv 7 60 rfl).trans (hF 7 (by kernel_rfl)),(hv 8 61 rfl).trans (hF 8 (by kernel_rfl)),(hv 9 52 rfl).trans (hF 9 (by kernel_rfl)),(hv 10 62 rfl).trans (hF 10 (by kernel_rfl)),(hv 11 63 rfl).trans (hF 11 (by kernel_rfl)),(hv 12 64 rfl).trans (hF 12 (by kernel_rfl)),trivial⟩ (by kernel_rfl)
    replace s:St w0 (.sl (bH 66 (vl9 8)) 28 33 (tF K K1 K2 kx).sc.length (ap (tF K K1 K2 kx).sc)::.sl (bH 67 (vl9 8)) 28 33 (tF K K1 K2 kx).fg.length (ap (tF K K1 K2 kx).fg)::.sl vq 42 68 (K2.set (tY K K1 K2 kx) (((tF K K1 K2 kx),(bH 66 (vl9 8)),(bH 67 (vl9 8))):N3)).length (aD (K2.set (tY K K1 K2 kx) (((tF K K1 K2 kx),(bH 66 (vl9 8)),(bH 67 (vl9 8))):N3)))::(.grp k2 (cS K2))::.blk b5 (.cells (cx (tC K K1 kx) (tB K K1 kx).2.1 (tB K K1 kx).2.2) 42)::.blk bm (dn (bY K))::.blk b2 (.cells (#[vq]) 24)::B9) _:=s
    replace s:=s.bring 3 rfl
    replace s:=s.bring 2 rfl
    replace s:=s.bring 2 rfl
    replace s:St w0 (.sl (bH 66 (vl9 8)) 28 33 (tF K K1 K2 kx).sc.length (ap (tF K K1 K2 kx).sc)::.sl (bH 67 (vl9 8)) 28 33 (tF K K1 K2 kx).fg.length (ap (tF K K1 K2 kx).fg)::(.grp k2 (cS K2))::.sl vq 42 68 (K2.set (tY K K1 K2 kx) (((tF K K1 K2 kx),(bH 66 (vl9 8)),(bH 67 (vl9 8))):N3)).length (aD (K2.set (tY K K1 K2 kx) (((tF K K1 K2 kx),(bH 66 (vl9 8)),(bH 67 (vl9 8))):N3)))::.blk b5 (.cells (cx (tC K K1 kx) (tB K K1 kx).2.1 (tB K K1 kx).2.2) 42)::.blk bm (dn (bY K))::.blk b2 (.cells (#[vq]) 24)::B9) _:=s
    obtain ⟨k3,s⟩:=s.grpR (S':=cS (K2.set (tY K K1 K2 kx) (((tF K K1 K2 kx),(bH 66 (vl9 8)),(bH 67 (vl9 8))):N3))) (fun w9 h1 h2 h3=>jO h3 ⟨h1,h2⟩)
    have hp3:=(jW hR2 hi2 (x:=(((tF K K1 K2 kx),(bH 66 (vl9 8)),(bH 67 (vl9 8))):N3)) rfl (ra hzr hT2.me)).1
    replace s:=s.bring 1 rfl
    replace s:St w0 (.sl vq 42 68 (K2.set (tY K K1 K2 kx) (((tF K K1 K2 kx),(bH 66 (vl9 8)),(bH 67 (vl9 8))):N3)).length (aD (K2.set (tY K K1 K2 kx) (((tF K K1 K2 kx),(bH 66 (vl9 8)),(bH 67 (vl9 8))):N3)))::(.grp k3 (cS (K2.set (tY K K1 K2 kx) (((tF K K1 K2 kx),(bH 66 (vl9 8)),(bH 67 (vl9 8))):N3))))::.blk b5 (.cells (cx (tC K K1 kx) (tB K K1 kx).2.1 (tB K K1 kx).2.2) 42)::.blk bm (dn (bY K))::.blk b2 (.cells (#[vq]) 24)::B9) _:=s
    exact dW rfl h (⟨_,rfl,(K2.set (tY K K1 K2 kx) (((tF K K1 K2 kx),(bH 66 (vl9 8)),(bH 67 (vl9 8))):N3)),k3,(by rw [hend,p1,hp3,fF];unfold tF;rw [hg2];rfl),(s.pick _ (List.Sublist.cons_cons _ (List.Sublist.cons_cons _ (List.Sublist.cons _ (List.Sublist.cons _ (List.Sublist.cons _ (List.Sublist.refl _)))))))⟩)
  ·skip
   refine ae ?_
   refine ac h (ag (h.ev rfl)) rfl ?_;intro f h
   refine ac h (ai bR (h.ev rfl)) rfl ?_;intro f h
   refine ac h (ai aJ (h.ev rfl)) rfl ?_;intro f h
   refine au (am (aU.of_own s 0 rfl) 33 (fS _ _ _ _)) h bz rfl rfl ?_;intro f h
   refine aH h s sL (aO (.bool true) (mc (bY K) bm (tB K K1 kx).1.pr.1 _ (s.get 3 rfl)) (congrArg Value.bool ((kS hRS.nos _).trans p0))) rfl rfl ?_;intro f w1 v9 hT hE h s;obtain rfl:=hT
   refine ac h (av (.bool false) (bh (h.ev rfl)) rfl) rfl ?_;intro f h
   refine ah ?_
   refine hK6 _ _ ?_
   refine wpIn_cond_false (h.ev rfl) ?_
   refine wpIn_skip ?_
   refine hK5 _ _ ?_
   refine al fun K11 hK11=>?_
   replace s:=s.recell (D:=aC (tC K K1 kx).me (tC K K1 kx).pr (tB K K1 kx).2.1 (tB K K1 kx).2.2) 0 rfl (by show _=aC (tB K K1 kx).1.me (bif ce (aM K1) (tB K K1 kx).1.pr.1 then (tB K K1 kx).1.pr else de) _ _;rw [hm1,p0];rfl)
   replace s:=s.bring 1 rfl
   replace s:St w0 (.sl vq 42 68 K1.length (aD K1)::.blk b5 (.cells (cx (tC K K1 kx) (tB K K1 kx).2.1 (tB K K1 kx).2.2) 42)::(.grp k1 (cS K1))::.blk bm (dn (bY K))::.blk b2 (.cells (#[vq]) 24)::B9) _:=s
   have hfo:=sZ (ik.2 hT1) (ik.2 hts)
   refine mq 1 [[],[],[1],[1,2],[],[1,2,3,4],[1,2,3,4,5],[1,2,3,4,5,6],[1,2,3,4,5,6],[0,1,2,3,4,5,6,7],[0,1,2,3,4,5,6,7,9]] [[],[],[],[11],[],[],[],[],[],[],[3]] [fun _=>[],fun _=>[],fun _=>[],fun v=>[.sl vq 42 68 K1.length (aD K1)],fun _=>[],fun v=>[.sl (bH 66 (v 5)) 28 33 (tD K K1 kx).sc.length (ap (tD K K1 kx).sc),.sl (bH 67 (v 5)) 28 33 (tD K K1 kx).fg.length (ap (tD K K1 kx).fg)],fun _=>[],fun _=>[],fun _=>[],fun _=>[],fun v=>[.sl vq 42 68 (K1.set kx (((tD K K1 kx),(bH 66 (v 5)),(bH 67 (v 5))):N3)).length (aD (K1.set kx (((tD K K1 kx),(bH 66 (v 5)),(bH 67 (v 5))):N3)))]] [[.sl vq 42 68 K1.length (aD K1)]] [fun v=>v 0=.pointer (some (aN vq (kx*68))),fun v=>v 1=.pointer (some (aN vq (kx*68))),fun v=>v 2=.pointer (some (aN vq (kx*68))),fun v=>v 3=.agg (cx (tA K kx) du dv),fun v=>v 4=.agg (cx (tC K K1 kx) (tB K K1 kx).2.1 (tB K K1 kx).2.2),fun v=>v 5=.tuple #[.agg (cx (tD K K1 kx) (bH 66 (v 5)) (bH 67 (v 5))),.int .i64 0],fun v=>v 6=.tuple #[.agg (cx (tD K K1 kx) (bH 66 (v 5)) (bH 67 (v 5))),.int .i64 0],fun v=>v 7=.agg (cx (tD K K1 kx) (bH 66 (v 5)) (bH 67 (v 5))),fun v=>v 8=.int .i64 0,fun v=>v 9=.pointer (some (aN vq (kx*68))),fun _=>True] (.blk b5 (.cells (cx (tC K K1 kx) (tB K K1 kx).2.1 (tB K K1 kx).2.2) 42)::(.grp k1 (cS K1))::.blk bm (dn (bY K))::.blk b2 (.cells (#[vq]) 24)::B9) h s rfl (by kernel_rfl) (by kernel_rfl) (by kernel_rfl) (And.intro ?_ (And.intro ?_ (And.intro ?_ (And.intro ?_ (And.intro ?_ (And.intro ?_ (And.intro ?_ (And.intro ?_ (And.intro ?_ (And.intro ?_ (And.intro ?_ (trivial)))))))))))) [0,1,2,4,5,6,7,8,9,10] (by kernel_rfl) ?_
   ·intro f9 w2 vl6 E9 hs9 hd9 hl hF s
    have e1:f9.tmps.getD 1 undef=_:=cI hl 1 (by kernel_rfl) (by kernel_rfl) (h.holds 1 _ rfl)
    have h:=ay [(1,_)] (hs9.trans h.size) (hd9.trans h.defers) (holds_lk ⟨e1,trivial⟩)
    replace s:St w0 (.blk b5 (.cells (cx (tC K K1 kx) (tB K K1 kx).2.1 (tB K K1 kx).2.2) 42)::(.grp k1 (cS K1))::.blk bm (dn (bY K))::.blk b2 (.cells (#[vq]) 24)::(B9++E9)) _:=s
    refine ac h (ag (h.ev rfl)) rfl ?_;intro f h
    exact ah ⟨_,bi 32 rfl (h.holds 32 _ rfl),rfl,s⟩
   ·intro f9 w2 vl6 E9 hs9 hd9 hl hF s
    have e1:f9.tmps.getD 1 undef=_:=cI hl 1 (by kernel_rfl) (by kernel_rfl) (h.holds 1 _ rfl)
    have h:=ay [(1,_)] (hs9.trans h.size) (hd9.trans h.defers) (holds_lk ⟨e1,trivial⟩)
    replace s:St w0 (.blk b5 (.cells (cx (tC K K1 kx) (tB K K1 kx).2.1 (tB K K1 kx).2.2) 42)::(.grp k1 (cS K1))::.blk bm (dn (bY K))::.blk b2 (.cells (#[vq]) 24)::(B9++E9)) _:=s
    refine ac h (ag (h.ev rfl)) rfl ?_;intro f h
    exact ah ⟨_,bi 33 rfl (h.holds 33 _ rfl),rfl,s⟩
   ·intro f9 w2 vl6 E9 hs9 hd9 hl hF s
    have e33:f9.tmps.getD 33 undef=.pointer (some (aN vq (kx*68))):=(br hl 33 1 (by kernel_rfl) (by kernel_rfl)).trans (hF 1 (by decide))
    have h:=ay [(33,.pointer (some (aN vq (kx*68))))] (hs9.trans h.size) (hd9.trans h.defers) (holds_lk ⟨e33,trivial⟩)
    replace s:St w0 (.blk b5 (.cells (cx (tC K K1 kx) (tB K K1 kx).2.1 (tB K K1 kx).2.2) 42)::(.grp k1 (cS K1))::.blk bm (dn (bY K))::.blk b2 (.cells (#[vq]) 24)::(B9++E9)) _:=s
    refine ac h (bo (h.ev rfl)) rfl ?_;intro f h
    exact ah ⟨_,bi 34 rfl (h.holds 34 _ rfl),rfl,s⟩
   ·intro f9 w2 vl6 E9 hs9 hd9 hl hF s
    have e34:f9.tmps.getD 34 undef=.pointer (some (aN vq (kx*68))):=(br hl 34 2 (by kernel_rfl) (by kernel_rfl)).trans (hF 2 (by decide))
    have h:=ay [(34,.pointer (some (aN vq (kx*68))))] (hs9.trans h.size) (hd9.trans h.defers) (holds_lk ⟨e34,trivial⟩)
    replace s:St w0 (.sl vq 42 68 K1.length (aD K1)::.blk b5 (.cells (cx (tC K K1 kx) (tB K K1 kx).2.1 (tB K K1 kx).2.2) 42)::(.grp k1 (cS K1))::.blk bm (dn (bY K))::.blk b2 (.cells (#[vq]) 24)::(B9++E9)) _:=s
    refine aB ((bq.of_own (s.getSl 0 rfl)).el (kx) (by omega) (by decide) (D:=aC (tA K kx).me (tA K kx).pr du dv) ((df K1 kx (by omega)).trans (by rw [hx1]))) h aZ rfl (aq _ _ _ _) rfl ?_;intro f h
    exact ah ⟨_,bi 35 rfl (h.holds 35 _ rfl),rfl,s⟩
   ·intro f9 w2 vl6 E9 hs9 hd9 hl hF s
    have e5:f9.tmps.getD 5 undef=_:=cI hl 5 (by kernel_rfl) (by kernel_rfl) (h.holds 5 _ rfl)
    have h:=ay [(5,_)] (hs9.trans h.size) (hd9.trans h.defers) (holds_lk ⟨e5,trivial⟩)
    replace s:St w0 (.blk b5 (.cells (cx (tC K K1 kx) (tB K K1 kx).2.1 (tB K K1 kx).2.2) 42)::(.grp k1 (cS K1))::.blk bm (dn (bY K))::.blk b2 (.cells (#[vq]) 24)::(B9++E9)) _:=s
    refine ar 0 h s aZ rfl rfl (aq _ _ _ _) rfl ?_;intro f h
    exact ah ⟨_,bi 36 rfl (h.holds 36 _ rfl),rfl,s⟩
   ·intro f9 w2 vl6 E9 hs9 hd9 hl hF s
    have e35:f9.tmps.getD 35 undef=.agg (cx (tA K kx) du dv):=(br hl 35 3 (by kernel_rfl) (by kernel_rfl)).trans (hF 3 (by decide))
    have e36:f9.tmps.getD 36 undef=.agg (cx (tC K K1 kx) (tB K K1 kx).2.1 (tB K K1 kx).2.2):=(br hl 36 4 (by kernel_rfl) (by kernel_rfl)).trans (hF 4 (by decide))
    have h:=ay [(35,.agg (cx (tA K kx) du dv)),(36,.agg (cx (tC K K1 kx) (tB K K1 kx).2.1 (tB K K1 kx).2.2))] (hs9.trans h.size) (hd9.trans h.defers) (holds_lk ⟨e35,e36,trivial⟩)
    replace s:St w0 (.blk b5 (.cells (cx (tC K K1 kx) (tB K K1 kx).2.1 (tB K K1 kx).2.2) 42)::(.grp k1 (cS K1))::.blk bm (dn (bY K))::.blk b2 (.cells (#[vq]) 24)::(B9++E9)) _:=s
    refine aH h s AY (ln (tA K kx) du dv (tC K K1 kx) (tB K K1 kx).2.1 (tB K K1 kx).2.2 _ (d7 (s.getG 1 rfl) (show kx<K1.length by omega) hx1).1 (d7 (s.getG 1 rfl) (show kx<K1.length by omega) hx1).2 (by omega) (by omega) (s.getG 1 rfl _ (bw hi1)).1 (s.getG 1 rfl _ (bw hi1)).2 (by show (tB K K1 kx).1.sc.length≤900;omega) (by show (tB K K1 kx).1.fg.length≤900;omega)) rfl rfl ?_;rintro f w1 v37 ⟨cu,cv,hv9,hS⟩ hE h sq;rw [hfo.1,hfo.2] at hv9;rw [hfo.1] at hS;replace s:=s.add hS
    have h66:cu=bH 66 v37:=by rw [hv9];exact(nu (bq.of_own (hS.getSl 0 rfl))).symm
    have h67:cv=bH 67 v37:=by rw [hv9];exact(nm (bq.of_own (hS.getSl 1 rfl))).symm
    clear hS
    subst h66;subst h67
    exact ah ⟨_,bi 37 rfl (h.holds 37 _ rfl),hv9,s⟩
   ·intro f9 w2 vl6 E9 hs9 hd9 hl hF s
    have e37:f9.tmps.getD 37 undef=.tuple #[.agg (cx (tD K K1 kx) (bH 66 (vl6 5)) (bH 67 (vl6 5))),.int .i64 0]:=(br hl 37 5 (by kernel_rfl) (by kernel_rfl)).trans (hF 5 (by decide))
    have h:=ay [(37,.tuple #[.agg (cx (tD K K1 kx) (bH 66 (vl6 5)) (bH 67 (vl6 5))),.int .i64 0])] (hs9.trans h.size) (hd9.trans h.defers) (holds_lk ⟨e37,trivial⟩)
    replace s:St w0 (.blk b5 (.cells (cx (tC K K1 kx) (tB K K1 kx).2.1 (tB K K1 kx).2.2) 42)::(.grp k1 (cS K1))::.blk bm (dn (bY K))::.blk b2 (.cells (#[vq]) 24)::(B9++E9)) _:=s
    refine ac h (ag (h.ev rfl)) rfl ?_;intro f h
    exact ah ⟨_,bi 31 rfl (h.holds 31 _ rfl),rfl,s⟩
   ·intro f9 w2 vl6 E9 hs9 hd9 hl hF s
    have e31:f9.tmps.getD 31 undef=.tuple #[.agg (cx (tD K K1 kx) (bH 66 (vl6 5)) (bH 67 (vl6 5))),.int .i64 0]:=(br hl 31 6 (by kernel_rfl) (by kernel_rfl)).trans (hF 6 (by decide))
    have h:=ay [(31,.tuple #[.agg (cx (tD K K1 kx) (bH 66 (vl6 5)) (bH 67 (vl6 5))),.int .i64 0])] (hs9.trans h.size) (hd9.trans h.defers) (holds_lk ⟨e31,trivial⟩)
    replace s:St w0 (.blk b5 (.cells (cx (tC K K1 kx) (tB K K1 kx).2.1 (tB K K1 kx).2.2) 42)::(.grp k1 (cS K1))::.blk bm (dn (bY K))::.blk b2 (.cells (#[vq]) 24)::(B9++E9)) _:=s
    refine ac h (bK (h.ev rfl) rfl) rfl ?_;intro f h
    exact ah ⟨_,bi 38 rfl (h.holds 38 _ rfl),rfl,s⟩
   ·intro f9 w2 vl6 E9 hs9 hd9 hl hF s
    have e31:f9.tmps.getD 31 undef=.tuple #[.agg (cx (tD K K1 kx) (bH 66 (vl6 5)) (bH 67 (vl6 5))),.int .i64 0]:=(br hl 31 6 (by kernel_rfl) (by kernel_rfl)).trans (hF 6 (by decide))
    have h:=ay [(31,.tuple #[.agg (cx (tD K K1 kx) (bH 66 (vl6 5)) (bH 67 (vl6 5))),.int .i64 0])] (hs9.trans h.size) (hd9.trans h.defers) (holds_lk ⟨e31,trivial⟩)
    replace s:St w0 (.blk b5 (.cells (cx (tC K K1 kx) (tB K K1 kx).2.1 (tB K K1 kx).2.2) 42)::(.grp k1 (cS K1))::.blk bm (dn (bY K))::.blk b2 (.cells (#[vq]) 24)::(B9++E9)) _:=s
    refine ac h (bK (h.ev rfl) rfl) rfl ?_;intro f h
    exact ah ⟨_,bi 39 rfl (h.holds 39 _ rfl),rfl,s⟩
   ·intro f9 w2 vl6 E9 hs9 hd9 hl hF s
    have e32:f9.tmps.getD 32 undef=.pointer (some (aN vq (kx*68))):=(br hl 32 0 (by kernel_rfl) (by kernel_rfl)).trans (hF 0 (by decide))
    have h:=ay [(32,.pointer (some (aN vq (kx*68))))] (hs9.trans h.size) (hd9.trans h.defers) (holds_lk ⟨e32,trivial⟩)
    replace s:St w0 (.blk b5 (.cells (cx (tC K K1 kx) (tB K K1 kx).2.1 (tB K K1 kx).2.2) 42)::(.grp k1 (cS K1))::.blk bm (dn (bY K))::.blk b2 (.cells (#[vq]) 24)::(B9++E9)) _:=s
    refine ac h (bo (h.ev rfl)) rfl ?_;intro f h
    exact ah ⟨_,bi 40 rfl (h.holds 40 _ rfl),rfl,s⟩
   ·intro f9 w2 vl6 E9 hs9 hd9 hl hF s
    have e40:f9.tmps.getD 40 undef=.pointer (some (aN vq (kx*68))):=(br hl 40 9 (by kernel_rfl) (by kernel_rfl)).trans (hF 9 (by decide))
    have e38:f9.tmps.getD 38 undef=.agg (cx (tD K K1 kx) (bH 66 (vl6 5)) (bH 67 (vl6 5))):=(br hl 38 7 (by kernel_rfl) (by kernel_rfl)).trans (hF 7 (by decide))
    have h:=ay [(40,.pointer (some (aN vq (kx*68)))),(38,.agg (cx (tD K K1 kx) (bH 66 (vl6 5)) (bH 67 (vl6 5))))] (hs9.trans h.size) (hd9.trans h.defers) (holds_lk ⟨e40,e38,trivial⟩)
    replace s:St w0 (.sl vq 42 68 K1.length (aD K1)::.blk b5 (.cells (cx (tC K K1 kx) (tB K K1 kx).2.1 (tB K K1 kx).2.2) 42)::(.grp k1 (cS K1))::.blk bm (dn (bY K))::.blk b2 (.cells (#[vq]) 24)::(B9++E9)) _:=s
    refine er 0 (kx) h s aZ rfl rfl rfl (aq _ _ _ _) (by omega) (a7 (fl _ _) (fl _ _)) (show _=aD (K1.set kx (((tD K K1 kx),(bH 66 (vl6 5)),(bH 67 (vl6 5))):N3)) from mu (by omega) (((tD K K1 kx),(bH 66 (vl6 5)),(bH 67 (vl6 5))):N3)) ?_;intro w1 s
    replace s:=s.resl (m:=(K1.set kx (((tD K K1 kx),(bH 66 (vl6 5)),(bH 67 (vl6 5))):N3)).length) (ys:=aD (K1.set kx (((tD K K1 kx),(bH 66 (vl6 5)),(bH 67 (vl6 5))):N3))) 0 rfl (by rw [List.length_set]) rfl
    exact ah ⟨undef,gL rfl,trivial,s⟩
   intro f w1 vl6 hs9 hd9 hv hr hF s
   replace h:=m3 (ops:=_) [(32,.pointer (some (aN vq (kx*68)))),(33,.pointer (some (aN vq (kx*68)))),(34,.pointer (some (aN vq (kx*68)))),(35,.agg (cx (tA K kx) du dv)),(36,.agg (cx (tC K K1 kx) (tB K K1 kx).2.1 (tB K K1 kx).2.2)),(37,.tuple #[.agg (cx (tD K K1 kx) (bH 66 (vl6 5)) (bH 67 (vl6 5))),.int .i64 0]),(31,.tuple #[.agg (cx (tD K K1 kx) (bH 66 (vl6 5)) (bH 67 (vl6 5))),.int .i64 0]),(38,.agg (cx (tD K K1 kx) (bH 66 (vl6 5)) (bH 67 (vl6 5)))),(39,.int .i64 0),(40,.pointer (some (aN vq (kx*68))))] h hs9 hd9 hr ⟨(hv 0 32 rfl).trans (hF 0 (by kernel_rfl)),(hv 1 33 rfl).trans (hF 1 (by kernel_rfl)),(hv 2 34 rfl).trans (hF 2 (by kernel_rfl)),(hv 3 35 rfl).trans (hF 3 (by kernel_rfl)),(hv 4 36 rfl).trans (hF 4 (by kernel_rfl)),(hv 5 37 rfl).trans (hF 5 (by kernel_rfl)),(hv 6 31 rfl).trans (hF 6 (by kernel_rfl)),(hv 7 38 rfl).trans (hF 7 (by kernel_rfl)),(hv 8 39 rfl).trans (hF 8 (by kernel_rfl)),(hv 9 40 rfl).trans (hF 9 (by kernel_rfl)),trivial⟩ (by kernel_rfl)
   replace s:St w0 (.sl (bH 66 (vl6 5)) 28 33 (tD K K1 kx).sc.length (ap (tD K K1 kx).sc)::.sl (bH 67 (vl6 5)) 28 33 (tD K K1 kx).fg.length (ap (tD K K1 kx).fg)::.sl vq 42 68 (K1.set kx (((tD K K1 kx),(bH 66 (vl6 5)),(bH 67 (vl6 5))):N3)).length (aD (K1.set kx (((tD K K1 kx),(bH 66 (vl6 5)),(bH 67 (vl6 5))):N3)))::.blk b5 (.cells (cx (tC K K1 kx) (tB K K1 kx).2.1 (tB K K1 kx).2.2) 42)::(.grp k1 (cS K1))::.blk bm (dn (bY K))::.blk b2 (.cells (#[vq]) 24)::B9) _:=s
   replace s:=s.bring 4 rfl
   replace s:=s.bring 2 rfl
   replace s:=s.bring 2 rfl
   replace s:St w0 (.sl (bH 66 (vl6 5)) 28 33 (tD K K1 kx).sc.length (ap (tD K K1 kx).sc)::.sl (bH 67 (vl6 5)) 28 33 (tD K K1 kx).fg.length (ap (tD K K1 kx).fg)::(.grp k1 (cS K1))::.sl vq 42 68 (K1.set kx (((tD K K1 kx),(bH 66 (vl6 5)),(bH 67 (vl6 5))):N3)).length (aD (K1.set kx (((tD K K1 kx),(bH 66 (vl6 5)),(bH 67 (vl6 5))):N3)))::.blk b5 (.cells (cx (tC K K1 kx) (tB K K1 kx).2.1 (tB K K1 kx).2.2) 42)::.blk bm (dn (bY K))::.blk b2 (.cells (#[vq]) 24)::B9) _:=s
   obtain ⟨k2,s⟩:=s.grpR (S':=cS (K1.set kx (((tD K K1 kx),(bH 66 (vl6 5)),(bH 67 (vl6 5))):N3))) (fun w9 h1 h2 h3=>jO h3 ⟨h1,h2⟩)
   obtain ⟨K2,hK2⟩:∃ x9,x9=(K1.set kx (((tD K K1 kx),(bH 66 (vl6 5)),(bH 67 (vl6 5))):N3)):=⟨_,rfl⟩
   rw [← hK2] at s
   have hx2:K2.getD kx z3=((tD K K1 kx),(bH 66 (vl6 5)),(bH 67 (vl6 5))):=by rw [hK2];exact kP (by omega) _
   have hl2:K2.length=K1.length:=by rw [hK2,List.length_set]
   have hT2:RN (tD K K1 kx):=m6 hT1 hts
   obtain ⟨hp2,hR2,hm2⟩:=jW hR1 (by omega) (x:=(((tD K K1 kx),(bH 66 (vl6 5)),(bH 67 (vl6 5))):N3)) (show (K1.getD kx z3).1.me=_ by rw [hx1];rfl) hT2
   rw [← hK2] at hp2 hR2 hm2
   have hn2:nds K2=iw (nds K1) (tD K K1 kx):=by rw [hp2,fF]
   have hT2l:=hT2.len
   have hend:=p3 hRS hk rfl hn1 (show (tD K K1 kx)=q7 (tA K kx) (pI (aM K1) (bC K1 ((tA K kx).sc.getD 0 aT).1).1) by rw [← hg1]) hn2
   refine hK11 _ _ ?_
   refine al fun K12 hK12=>?_
   cases p1:(ce (aM K2) (((tD K K1 kx).sc.getD 0 aT).1):Bool)
   ·skip
    refine bI 10 [[],[],[1],[1,2],[1,2,3],[1,2,3,4],[1,2,3,4,5],[1,2,3,4,5,6],[0,1,2,3,4,5,6,7],[0,1,2,3,4,5,6,7,8]] h (by kernel_rfl) (by kernel_rfl) (by kernel_rfl) ?_
    refine bB 4 h s a6 rfl rfl (rfl) rfl ?_;intro f h
    refine ao h (ag (h.ev rfl)) rfl ?_;intro f h
    refine ao h (bo (h.ev rfl)) rfl ?_;intro f h
    refine ao h (bG bD (h.ev rfl) ((bq.of_own (s.getSl 1 rfl)).some (by omega))) rfl ?_;intro f h
    refine a2 (V:=(bH 66 (vl6 5))) (dt (bq.of_own (s.getSl 1 rfl)) (kx*68+66) ((iy K2 kx (by omega)).trans (by rw [hx2]))) h bE rfl rfl ?_;intro f h
    refine ao h (bZ ((d7 (s.getG 0 rfl) (show kx<K2.length by omega) hx2).1) (0) Tryz.underlying36 cz (h.ev rfl) (h.ev rfl) (by omega) (by omega)) rfl ?_;intro f h
    refine ao h (bG aJ (h.ev rfl) (((d7 (s.getG 0 rfl) (show kx<K2.length by omega) hx2).1).some (by omega))) rfl ?_;intro f h
    refine a2 (V:=.int .i64 ((tD K K1 kx).sc.getD 0 aT).1) (dt ((d7 (s.getG 0 rfl) (show kx<K2.length by omega) hx2).1) (0*33+0) (ld (tD K K1 kx).sc 0 (by omega))) h bz rfl rfl ?_;intro f h
    refine cm h iH (fun w9 hE9=>aO (.pointer none) (dV K2 vq (((tD K K1 kx).sc.getD 0 aT).1) w9 ⟨(bq.of_own (s.getSl 1 rfl)).keep hE9,fun y hy=>(s.getG 0 rfl y hy).keep hE9⟩ (by omega)) (ob (of_decide_eq_false ((eX hR2.nos).trans p1)))) rfl rfl ?_;intro f h
    refine ao h (aj (h.ev rfl)) rfl ?_;intro f h
    refine cq s fun w1 s=>?_
    refine ah ?_
    refine hK12 _ _ ?_
    refine al fun K13 hK13=>?_
    refine ae ?_
    refine ac h (ag (h.ev rfl)) rfl ?_;intro f h
    refine ac h (av (.bool false) (ey Tryz.underlying54 (h.ev rfl) (h.ev rfl)) (rfl)) rfl ?_;intro f h
    refine ah ?_
    refine hK13 _ _ ?_
    refine wpIn_cond_false (h.ev rfl) ?_
    refine wpIn_skip ?_
    replace s:=s.bring 1 rfl
    replace s:St w0 (.sl vq 42 68 K2.length (aD K2)::(.grp k2 (cS K2))::.blk b5 (.cells (cx (tC K K1 kx) (tB K K1 kx).2.1 (tB K K1 kx).2.2) 42)::.blk bm (dn (bY K))::.blk b2 (.cells (#[vq]) 24)::B9) _:=s
    exact dW rfl h (⟨_,rfl,K2,k2,(by rw [hend,p1];rfl),(s.pick _ (List.Sublist.cons_cons _ (List.Sublist.cons_cons _ (List.Sublist.cons _ (List.Sublist.cons _ (List.Sublist.cons _ (List.Sublist.refl _)))))))⟩)
   ·skip
    refine bI 10 [[],[],[1],[1,2],[1,2,3],[1,2,3,4],[1,2,3,4,5],[1,2,3,4,5,6],[0,1,2,3,4,5,6,7],[0,1,2,3,4,5,6,7,8]] h (by kernel_rfl) (by kernel_rfl) (by kernel_rfl) ?_
    refine bB 4 h s a6 rfl rfl (rfl) rfl ?_;intro f h
    refine ao h (ag (h.ev rfl)) rfl ?_;intro f h
    refine ao h (bo (h.ev rfl)) rfl ?_;intro f h
    refine ao h (bG bD (h.ev rfl) ((bq.of_own (s.getSl 1 rfl)).some (by omega))) rfl ?_;intro f h
    refine a2 (V:=(bH 66 (vl6 5))) (dt (bq.of_own (s.getSl 1 rfl)) (kx*68+66) ((iy K2 kx (by omega)).trans (by rw [hx2]))) h bE rfl rfl ?_;intro f h
    refine ao h (bZ ((d7 (s.getG 0 rfl) (show kx<K2.length by omega) hx2).1) (0) Tryz.underlying36 cz (h.ev rfl) (h.ev rfl) (by omega) (by omega)) rfl ?_;intro f h
    refine ao h (bG aJ (h.ev rfl) (((d7 (s.getG 0 rfl) (show kx<K2.length by omega) hx2).1).some (by omega))) rfl ?_;intro f h
    refine a2 (V:=.int .i64 ((tD K K1 kx).sc.getD 0 aT).1) (dt ((d7 (s.getG 0 rfl) (show kx<K2.length by omega) hx2).1) (0*33+0) (ld (tD K K1 kx).sc 0 (by omega))) h bz rfl rfl ?_;intro f h
    refine cm h iH (fun w9 hE9=>aO (.pointer (some (aN vq ((tY K K1 K2 kx)*68)))) (dV K2 vq (((tD K K1 kx).sc.getD 0 aT).1) w9 ⟨(bq.of_own (s.getSl 1 rfl)).keep hE9,fun y hy=>(s.getG 0 rfl y hy).keep hE9⟩ (by omega)) (mK (ij hR2 p1).1)) rfl rfl ?_;intro f h
    refine ao h (aj (h.ev rfl)) rfl ?_;intro f h
    refine cq s fun w1 s=>?_
    refine ah ?_
    refine hK12 _ _ ?_
    refine al fun K14 hK14=>?_
    refine ae ?_
    refine ac h (ag (h.ev rfl)) rfl ?_;intro f h
    refine ac h (av (.bool true) (ey Tryz.underlying54 (h.ev rfl) (h.ev rfl)) (rfl)) rfl ?_;intro f h
    refine ah ?_
    refine hK14 _ _ ?_
    refine wpIn_cond_true (h.ev rfl) ?_
    replace s:=s.bring 1 rfl
    replace s:St w0 (.sl vq 42 68 K2.length (aD K2)::(.grp k2 (cS K2))::.blk b5 (.cells (cx (tC K K1 kx) (tB K K1 kx).2.1 (tB K K1 kx).2.2) 42)::.blk bm (dn (bY K))::.blk b2 (.cells (#[vq]) 24)::B9) _:=s
    obtain ⟨hi2,hg2,hgm2⟩:=ij hR2 p1
    replace hg2:(tE K K1 K2 kx)=_:=hg2
    have hzr:RN (tE K K1 K2 kx).1:=by rw [hg2];exact hR2.rn _ hgm2
    have hzl:=hzr.len
    have hzf:=hzr.fg.1
    have hnt:=g8 (ik.2 hzr) (gO.2 hT2.me)
    refine vS 1 [[],[],[1],[1,2],[],[4],[4,5],[4,5,6],[1,2,3,4,5,6,7],[1,2,3,4,5,6,7,8],[1,2,3,4,5,6,7,8,9],[1,2,3,4,5,6,7,8,9],[0,1,2,3,4,5,6,7,8,9,10],[0,1,2,3,4,5,6,7,8,9,10,12]] [[],[],[],[],[],[],[],[],[],[],[],[],[],[14]] [[],[],[],[0],[],[],[0],[0],[],[],[],[],[],[]] [fun _=>[],fun _=>[],fun _=>[],fun _=>[],fun _=>[],fun _=>[],fun _=>[],fun _=>[],fun v=>[.sl (bH 66 (v 8)) 28 33 (tF K K1 K2 kx).sc.length (ap (tF K K1 K2 kx).sc),.sl (bH 67 (v 8)) 28 33 (tF K K1 K2 kx).fg.length (ap (tF K K1 K2 kx).fg)],fun _=>[],fun _=>[],fun _=>[],fun _=>[],fun v=>[.sl vq 42 68 (K2.set (tY K K1 K2 kx) (((tF K K1 K2 kx),(bH 66 (v 8)),(bH 67 (v 8))):N3)).length (aD (K2.set (tY K K1 K2 kx) (((tF K K1 K2 kx),(bH 66 (v 8)),(bH 67 (v 8))):N3)))]] [[.sl vq 42 68 K2.length (aD K2)]] [fun v=>v 0=.pointer (some (aN vq ((tY K K1 K2 kx)*68))),fun v=>v 1=.pointer (some (aN vq ((tY K K1 K2 kx)*68))),fun v=>v 2=.pointer (some (aN vq ((tY K K1 K2 kx)*68))),fun v=>v 3=.agg (qS (tE K K1 K2 kx)),fun v=>v 4=.pointer (some (aN vq (kx*68))),fun v=>v 5=.pointer (some (aN vq (kx*68))),fun v=>v 6=.pointer (some (aN vq (kx*68+0))),fun v=>v 7=.agg (aw (tD K K1 kx).me),fun v=>v 8=.tuple #[.agg (cx (tF K K1 K2 kx) (bH 66 (v 8)) (bH 67 (v 8))),.int .i64 0],fun v=>v 9=.tuple #[.agg (cx (tF K K1 K2 kx) (bH 66 (v 8)) (bH 67 (v 8))),.int .i64 0],fun v=>v 10=.agg (cx (tF K K1 K2 kx) (bH 66 (v 8)) (bH 67 (v 8))),fun v=>v 11=.int .i64 0,fun v=>v 12=.pointer (some (aN vq ((tY K K1 K2 kx)*68))),fun _=>True] ((.grp k2 (cS K2))::.blk b5 (.cells (cx (tC K K1 kx) (tB K K1 kx).2.1 (tB K K1 kx).2.2) 42)::.blk bm (dn (bY K))::.blk b2 (.cells (#[vq]) 24)::B9) h s rfl (by kernel_rfl) (by kernel_rfl) (by kernel_rfl) (by kernel_rfl) (And.intro ?_ (And.intro ?_ (And.intro ?_ (And.intro ?_ (And.intro ?_ (And.intro ?_ (And.intro ?_ (And.intro ?_ (And.intro ?_ (And.intro ?_ (And.intro ?_ (And.intro ?_ (And.intro ?_ (And.intro ?_ (trivial))))))))))))))) [0,1,2,3,4,5,6,7,8,9,10,11,12,13] (by kernel_rfl) ?_
    ·intro f9 w2 vl9 E9 hs9 hd9 hl hF hR9 s
     have e6:f9.tmps.getD 6 undef=_:=cI hl 6 (by kernel_rfl) (by kernel_rfl) (h.holds 6 _ rfl)
     have h:=ay [(6,_)] (hs9.trans h.size) (hd9.trans h.defers) (holds_lk ⟨e6,trivial⟩)
     replace s:St w0 ((.grp k2 (cS K2))::.blk b5 (.cells (cx (tC K K1 kx) (tB K K1 kx).2.1 (tB K K1 kx).2.2) 42)::.blk bm (dn (bY K))::.blk b2 (.cells (#[vq]) 24)::(B9++E9)) _:=s
     refine ac h (ag (h.ev rfl)) rfl ?_;intro f h
     exact ah ⟨_,bi 53 rfl (h.holds 53 _ rfl),rfl,s⟩
    ·intro f9 w2 vl9 E9 hs9 hd9 hl hF hR9 s
     have e6:f9.tmps.getD 6 undef=_:=cI hl 6 (by kernel_rfl) (by kernel_rfl) (h.holds 6 _ rfl)
     have h:=ay [(6,_)] (hs9.trans h.size) (hd9.trans h.defers) (holds_lk ⟨e6,trivial⟩)
     replace s:St w0 ((.grp k2 (cS K2))::.blk b5 (.cells (cx (tC K K1 kx) (tB K K1 kx).2.1 (tB K K1 kx).2.2) 42)::.blk bm (dn (bY K))::.blk b2 (.cells (#[vq]) 24)::(B9++E9)) _:=s
     refine ac h (ag (h.ev rfl)) rfl ?_;intro f h
     exact ah ⟨_,bi 54 rfl (h.holds 54 _ rfl),rfl,s⟩
    ·intro f9 w2 vl9 E9 hs9 hd9 hl hF hR9 s
     have e54:f9.tmps.getD 54 undef=.pointer (some (aN vq ((tY K K1 K2 kx)*68))):=(br hl 54 1 (by kernel_rfl) (by kernel_rfl)).trans (hF 1 (by decide))
     have h:=ay [(54,.pointer (some (aN vq ((tY K K1 K2 kx)*68))))] (hs9.trans h.size) (hd9.trans h.defers) (holds_lk ⟨e54,trivial⟩)
     replace s:St w0 ((.grp k2 (cS K2))::.blk b5 (.cells (cx (tC K K1 kx) (tB K K1 kx).2.1 (tB K K1 kx).2.2) 42)::.blk bm (dn (bY K))::.blk b2 (.cells (#[vq]) 24)::(B9++E9)) _:=s
     refine ac h (bo (h.ev rfl)) rfl ?_;intro f h
     exact ah ⟨_,bi 55 rfl (h.holds 55 _ rfl),rfl,s⟩
    ·intro f9 w2 vl9 E9 hs9 hd9 hl hF hR9 s
     have hq9:Own.sl vq 42 68 K2.length (aD K2)∈E9:=hR9 0 (by decide) _ List.mem_cons_self
     have e55:f9.tmps.getD 55 undef=.pointer (some (aN vq ((tY K K1 K2 kx)*68))):=(br hl 55 2 (by kernel_rfl) (by kernel_rfl)).trans (hF 2 (by decide))
     have h:=ay [(55,.pointer (some (aN vq ((tY K K1 K2 kx)*68))))] (hs9.trans h.size) (hd9.trans h.defers) (holds_lk ⟨e55,trivial⟩)
     replace s:St w0 ((.grp k2 (cS K2))::.blk b5 (.cells (cx (tC K K1 kx) (tB K K1 kx).2.1 (tB K K1 kx).2.2) 42)::.blk bm (dn (bY K))::.blk b2 (.cells (#[vq]) 24)::(B9++E9)) _:=s
     have hq8:Own.sl vq 42 68 K2.length (aD K2)∈((.grp k2 (cS K2))::.blk b5 (.cells (cx (tC K K1 kx) (tB K K1 kx).2.1 (tB K K1 kx).2.2) 42)::.blk bm (dn (bY K))::.blk b2 (.cells (#[vq]) 24)::(B9++E9)):=by simp only [List.mem_cons,List.mem_append,hq9,or_true]
     refine aB ((bq.of_own (s.memSl hq8)).el ((tY K K1 K2 kx)) (by omega) (by decide) (D:=aC (tE K K1 K2 kx).1.me (tE K K1 K2 kx).1.pr (tE K K1 K2 kx).2.1 (tE K K1 K2 kx).2.2) (df K2 _ hi2)) h aZ rfl (aq _ _ _ _) rfl ?_;intro f h
     exact ah ⟨_,bi 56 rfl (h.holds 56 _ rfl),rfl,s⟩
    ·intro f9 w2 vl9 E9 hs9 hd9 hl hF hR9 s
     have e1:f9.tmps.getD 1 undef=_:=cI hl 1 (by kernel_rfl) (by kernel_rfl) (h.holds 1 _ rfl)
     have h:=ay [(1,_)] (hs9.trans h.size) (hd9.trans h.defers) (holds_lk ⟨e1,trivial⟩)
     replace s:St w0 ((.grp k2 (cS K2))::.blk b5 (.cells (cx (tC K K1 kx) (tB K K1 kx).2.1 (tB K K1 kx).2.2) 42)::.blk bm (dn (bY K))::.blk b2 (.cells (#[vq]) 24)::(B9++E9)) _:=s
     refine ac h (ag (h.ev rfl)) rfl ?_;intro f h
     exact ah ⟨_,bi 57 rfl (h.holds 57 _ rfl),rfl,s⟩
    ·intro f9 w2 vl9 E9 hs9 hd9 hl hF hR9 s
     have e57:f9.tmps.getD 57 undef=.pointer (some (aN vq (kx*68))):=(br hl 57 4 (by kernel_rfl) (by kernel_rfl)).trans (hF 4 (by decide))
     have h:=ay [(57,.pointer (some (aN vq (kx*68))))] (hs9.trans h.size) (hd9.trans h.defers) (holds_lk ⟨e57,trivial⟩)
     replace s:St w0 ((.grp k2 (cS K2))::.blk b5 (.cells (cx (tC K K1 kx) (tB K K1 kx).2.1 (tB K K1 kx).2.2) 42)::.blk bm (dn (bY K))::.blk b2 (.cells (#[vq]) 24)::(B9++E9)) _:=s
     refine ac h (bo (h.ev rfl)) rfl ?_;intro f h
     exact ah ⟨_,bi 58 rfl (h.holds 58 _ rfl),rfl,s⟩
    ·intro f9 w2 vl9 E9 hs9 hd9 hl hF hR9 s
     have hq9:Own.sl vq 42 68 K2.length (aD K2)∈E9:=hR9 0 (by decide) _ List.mem_cons_self
     have e58:f9.tmps.getD 58 undef=.pointer (some (aN vq (kx*68))):=(br hl 58 5 (by kernel_rfl) (by kernel_rfl)).trans (hF 5 (by decide))
     have h:=ay [(58,.pointer (some (aN vq (kx*68))))] (hs9.trans h.size) (hd9.trans h.defers) (holds_lk ⟨e58,trivial⟩)
     replace s:St w0 ((.grp k2 (cS K2))::.blk b5 (.cells (cx (tC K K1 kx) (tB K K1 kx).2.1 (tB K K1 kx).2.2) 42)::.blk bm (dn (bY K))::.blk b2 (.cells (#[vq]) 24)::(B9++E9)) _:=s
     have hq8:Own.sl vq 42 68 K2.length (aD K2)∈((.grp k2 (cS K2))::.blk b5 (.cells (cx (tC K K1 kx) (tB K K1 kx).2.1 (tB K K1 kx).2.2) 42)::.blk bm (dn (bY K))::.blk b2 (.cells (#[vq]) 24)::(B9++E9)):=by simp only [List.mem_cons,List.mem_append,hq9,or_true]
     refine ac h (bG aR (h.ev rfl) ((bq.of_own (s.memSl hq8)).some (by omega))) rfl ?_;intro f h
     exact ah ⟨_,bi 59 rfl (h.holds 59 _ rfl),rfl,s⟩
    ·intro f9 w2 vl9 E9 hs9 hd9 hl hF hR9 s
     have hq9:Own.sl vq 42 68 K2.length (aD K2)∈E9:=hR9 0 (by decide) _ List.mem_cons_self
     have e59:f9.tmps.getD 59 undef=.pointer (some (aN vq (kx*68+0))):=(br hl 59 6 (by kernel_rfl) (by kernel_rfl)).trans (hF 6 (by decide))
     have h:=ay [(59,.pointer (some (aN vq (kx*68+0))))] (hs9.trans h.size) (hd9.trans h.defers) (holds_lk ⟨e59,trivial⟩)
     replace s:St w0 ((.grp k2 (cS K2))::.blk b5 (.cells (cx (tC K K1 kx) (tB K K1 kx).2.1 (tB K K1 kx).2.2) 42)::.blk bm (dn (bY K))::.blk b2 (.cells (#[vq]) 24)::(B9++E9)) _:=s
     have hq8:Own.sl vq 42 68 K2.length (aD K2)∈((.grp k2 (cS K2))::.blk b5 (.cells (cx (tC K K1 kx) (tB K K1 kx).2.1 (tB K K1 kx).2.2) 42)::.blk bm (dn (bY K))::.blk b2 (.cells (#[vq]) 24)::(B9++E9)):=by simp only [List.mem_cons,List.mem_append,hq9,or_true]
     refine aB (bq.elF (bq.of_own (s.memSl hq8)) (kx) 0 33 (by omega) (by decide) (C:=aC (tD K K1 kx).me (tD K K1 kx).pr (bH 66 (vl6 5)) (bH 67 (vl6 5))) ((df K2 kx (by omega)).trans (by rw [hx2])) (D:=aw (tD K K1 kx).me) (bT _ _ _ _)) h aL rfl (ak _) rfl ?_;intro f h
     exact ah ⟨_,bi 60 rfl (h.holds 60 _ rfl),rfl,s⟩
    ·intro f9 w2 vl9 E9 hs9 hd9 hl hF hR9 s
     have e56:f9.tmps.getD 56 undef=.agg (qS (tE K K1 K2 kx)):=(br hl 56 3 (by kernel_rfl) (by kernel_rfl)).trans (hF 3 (by decide))
     have e60:f9.tmps.getD 60 undef=.agg (aw (tD K K1 kx).me):=(br hl 60 7 (by kernel_rfl) (by kernel_rfl)).trans (hF 7 (by decide))
     have h:=ay [(56,.agg (qS (tE K K1 K2 kx))),(60,.agg (aw (tD K K1 kx).me))] (hs9.trans h.size) (hd9.trans h.defers) (holds_lk ⟨e56,e60,trivial⟩)
     replace s:St w0 ((.grp k2 (cS K2))::.blk b5 (.cells (cx (tC K K1 kx) (tB K K1 kx).2.1 (tB K K1 kx).2.2) 42)::.blk bm (dn (bY K))::.blk b2 (.cells (#[vq]) 24)::(B9++E9)) _:=s
     refine aH h s Ad (nr (tE K K1 K2 kx).1 (tE K K1 K2 kx).2.1 (tE K K1 K2 kx).2.2 (tD K K1 kx).me _ (s.getG 0 rfl _ (bw hi2)).1 (s.getG 0 rfl _ (bw hi2)).2 (by omega) (by omega)) rfl rfl ?_;rintro f w1 v61 ⟨cu,cv,hv9,hS⟩ hE h sq;rw [hnt.1,hnt.2] at hv9;rw [hnt.1] at hS;replace s:=s.add hS
     have h66:cu=bH 66 v61:=by rw [hv9];exact(nu (bq.of_own (hS.getSl 0 rfl))).symm
     have h67:cv=bH 67 v61:=by rw [hv9];exact(nm (bq.of_own (hS.getSl 1 rfl))).symm
     clear hS
     subst h66;subst h67
     exact ah ⟨_,bi 61 rfl (h.holds 61 _ rfl),hv9,s⟩
    ·intro f9 w2 vl9 E9 hs9 hd9 hl hF hR9 s
     have e61:f9.tmps.getD 61 undef=.tuple #[.agg (cx (tF K K1 K2 kx) (bH 66 (vl9 8)) (bH 67 (vl9 8))),.int .i64 0]:=(br hl 61 8 (by kernel_rfl) (by kernel_rfl)).trans (hF 8 (by decide))
     have h:=ay [(61,.tuple #[.agg (cx (tF K K1 K2 kx) (bH 66 (vl9 8)) (bH 67 (vl9 8))),.int .i64 0])] (hs9.trans h.size) (hd9.trans h.defers) (holds_lk ⟨e61,trivial⟩)
     replace s:St w0 ((.grp k2 (cS K2))::.blk b5 (.cells (cx (tC K K1 kx) (tB K K1 kx).2.1 (tB K K1 kx).2.2) 42)::.blk bm (dn (bY K))::.blk b2 (.cells (#[vq]) 24)::(B9++E9)) _:=s
     refine ac h (ag (h.ev rfl)) rfl ?_;intro f h
     exact ah ⟨_,bi 52 rfl (h.holds 52 _ rfl),rfl,s⟩
    ·intro f9 w2 vl9 E9 hs9 hd9 hl hF hR9 s
     have e52:f9.tmps.getD 52 undef=.tuple #[.agg (cx (tF K K1 K2 kx) (bH 66 (vl9 8)) (bH 67 (vl9 8))),.int .i64 0]:=(br hl 52 9 (by kernel_rfl) (by kernel_rfl)).trans (hF 9 (by decide))
     have h:=ay [(52,.tuple #[.agg (cx (tF K K1 K2 kx) (bH 66 (vl9 8)) (bH 67 (vl9 8))),.int .i64 0])] (hs9.trans h.size) (hd9.trans h.defers) (holds_lk ⟨e52,trivial⟩)
     replace s:St w0 ((.grp k2 (cS K2))::.blk b5 (.cells (cx (tC K K1 kx) (tB K K1 kx).2.1 (tB K K1 kx).2.2) 42)::.blk bm (dn (bY K))::.blk b2 (.cells (#[vq]) 24)::(B9++E9)) _:=s
     refine ac h (bK (h.ev rfl) rfl) rfl ?_;intro f h
     exact ah ⟨_,bi 62 rfl (h.holds 62 _ rfl),rfl,s⟩
    ·intro f9 w2 vl9 E9 hs9 hd9 hl hF hR9 s
     have e52:f9.tmps.getD 52 undef=.tuple #[.agg (cx (tF K K1 K2 kx) (bH 66 (vl9 8)) (bH 67 (vl9 8))),.int .i64 0]:=(br hl 52 9 (by kernel_rfl) (by kernel_rfl)).trans (hF 9 (by decide))
     have h:=ay [(52,.tuple #[.agg (cx (tF K K1 K2 kx) (bH 66 (vl9 8)) (bH 67 (vl9 8))),.int .i64 0])] (hs9.trans h.size) (hd9.trans h.defers) (holds_lk ⟨e52,trivial⟩)
     replace s:St w0 ((.grp k2 (cS K2))::.blk b5 (.cells (cx (tC K K1 kx) (tB K K1 kx).2.1 (tB K K1 kx).2.2) 42)::.blk bm (dn (bY K))::.blk b2 (.cells (#[vq]) 24)::(B9++E9)) _:=s
     refine ac h (bK (h.ev rfl) rfl) rfl ?_;intro f h
     exact ah ⟨_,bi 63 rfl (h.holds 63 _ rfl),rfl,s⟩
    ·intro f9 w2 vl9 E9 hs9 hd9 hl hF hR9 s
     have e53:f9.tmps.getD 53 undef=.pointer (some (aN vq ((tY K K1 K2 kx)*68))):=(br hl 53 0 (by kernel_rfl) (by kernel_rfl)).trans (hF 0 (by decide))
     have h:=ay [(53,.pointer (some (aN vq ((tY K K1 K2 kx)*68))))] (hs9.trans h.size) (hd9.trans h.defers) (holds_lk ⟨e53,trivial⟩)
     replace s:St w0 ((.grp k2 (cS K2))::.blk b5 (.cells (cx (tC K K1 kx) (tB K K1 kx).2.1 (tB K K1 kx).2.2) 42)::.blk bm (dn (bY K))::.blk b2 (.cells (#[vq]) 24)::(B9++E9)) _:=s
     refine ac h (bo (h.ev rfl)) rfl ?_;intro f h
     exact ah ⟨_,bi 64 rfl (h.holds 64 _ rfl),rfl,s⟩
    ·intro f9 w2 vl9 E9 hs9 hd9 hl hF hR9 s
     have e64:f9.tmps.getD 64 undef=.pointer (some (aN vq ((tY K K1 K2 kx)*68))):=(br hl 64 12 (by kernel_rfl) (by kernel_rfl)).trans (hF 12 (by decide))
     have e62:f9.tmps.getD 62 undef=.agg (cx (tF K K1 K2 kx) (bH 66 (vl9 8)) (bH 67 (vl9 8))):=(br hl 62 10 (by kernel_rfl) (by kernel_rfl)).trans (hF 10 (by decide))
     have h:=ay [(64,.pointer (some (aN vq ((tY K K1 K2 kx)*68)))),(62,.agg (cx (tF K K1 K2 kx) (bH 66 (vl9 8)) (bH 67 (vl9 8))))] (hs9.trans h.size) (hd9.trans h.defers) (holds_lk ⟨e64,e62,trivial⟩)
     replace s:St w0 (.sl vq 42 68 K2.length (aD K2)::(.grp k2 (cS K2))::.blk b5 (.cells (cx (tC K K1 kx) (tB K K1 kx).2.1 (tB K K1 kx).2.2) 42)::.blk bm (dn (bY K))::.blk b2 (.cells (#[vq]) 24)::(B9++E9)) _:=s
     refine er 0 ((tY K K1 K2 kx)) h s aZ rfl rfl rfl (aq _ _ _ _) (by omega) (a7 (fl _ _) (fl _ _)) (show _=aD (K2.set (tY K K1 K2 kx) (((tF K K1 K2 kx),(bH 66 (vl9 8)),(bH 67 (vl9 8))):N3)) from mu hi2 (((tF K K1 K2 kx),(bH 66 (vl9 8)),(bH 67 (vl9 8))):N3)) ?_;intro w1 s
     replace s:=s.resl (m:=(K2.set (tY K K1 K2 kx) (((tF K K1 K2 kx),(bH 66 (vl9 8)),(bH 67 (vl9 8))):N3)).length) (ys:=aD (K2.set (tY K K1 K2 kx) (((tF K K1 K2 kx),(bH 66 (vl9 8)),(bH 67 (vl9 8))):N3))) 0 rfl (by rw [List.length_set]) rfl
     exact ah ⟨undef,gL rfl,trivial,s⟩
    intro f w1 vl9 hs9 hd9 hv hr hF s
    replace h:=m3 (ops:=_) [(53,.pointer (some (aN vq ((tY K K1 K2 kx)*68)))),(54,.pointer (some (aN vq ((tY K K1 K2 kx)*68)))),(55,.pointer (some (aN vq ((tY K K1 K2 kx)*68)))),(56,.agg (qS (tE K K1 K2 kx))),(57,.pointer (some (aN vq (kx*68)))),(58,.pointer (some (aN vq (kx*68)))),(59,.pointer (some (aN vq (kx*68+0)))),(60,.agg (aw (tD K K1 kx).me)),(61,.tuple #[.agg (cx (tF K K1 K2 kx) (bH 66 (vl9 8)) (bH 67 (vl9 8))),.int .i64 0]),(52,.tuple #[.agg (cx (tF K K1 K2 kx) (bH 66 (vl9 8)) (bH 67 (vl9 8))),.int .i64 0]),(62,.agg (cx (tF K K1 K2 kx) (bH 66 (vl9 8)) (bH 67 (vl9 8)))),(63,.int .i64 0),(64,.pointer (some (aN vq ((tY K K1 K2 kx)*68))))] h hs9 hd9 hr ⟨(hv 0 53 rfl).trans (hF 0 (by kernel_rfl)),(hv 1 54 rfl).trans (hF 1 (by kernel_rfl)),(hv 2 55 rfl).trans (hF 2 (by kernel_rfl)),(hv 3 56 rfl).trans (hF 3 (by kernel_rfl)),(hv 4 57 rfl).trans (hF 4 (by kernel_rfl)),(hv 5 58 rfl).trans (hF 5 (by kernel_rfl)),(hv 6 59 rfl).trans (hF 6 (by kernel_rfl)),(hv 7 60 rfl).trans (hF 7 (by kernel_rfl)),(hv 8 61 rfl).trans (hF 8 (by kernel_rfl)),(hv 9 52 rfl).trans (hF 9 (by kernel_rfl)),(hv 10 62 rfl).trans (hF 10 (by kernel_rfl)),(hv 11 63 rfl).trans (hF 11 (by kernel_rfl)),(hv 12 64 rfl).trans (hF 12 (by kernel_rfl)),trivial⟩ (by kernel_rfl)
    replace s:St w0 (.sl (bH 66 (vl9 8)) 28 33 (tF K K1 K2 kx).sc.length (ap (tF K K1 K2 kx).sc)::.sl (bH 67 (vl9 8)) 28 33 (tF K K1 K2 kx).fg.length (ap (tF K K1 K2 kx).fg)::.sl vq 42 68 (K2.set (tY K K1 K2 kx) (((tF K K1 K2 kx),(bH 66 (vl9 8)),(bH 67 (vl9 8))):N3)).length (aD (K2.set (tY K K1 K2 kx) (((tF K K1 K2 kx),(bH 66 (vl9 8)),(bH 67 (vl9 8))):N3)))::(.grp k2 (cS K2))::.blk b5 (.cells (cx (tC K K1 kx) (tB K K1 kx).2.1 (tB K K1 kx).2.2) 42)::.blk bm (dn (bY K))::.blk b2 (.cells (#[vq]) 24)::B9) _:=s
    replace s:=s.bring 3 rfl
    replace s:=s.bring 2 rfl
    replace s:=s.bring 2 rfl
    replace s:St w0 (.sl (bH 66 (vl9 8)) 28 33 (tF K K1 K2 kx).sc.length (ap (tF K K1 K2 kx).sc)::.sl (bH 67 (vl9 8)) 28 33 (tF K K1 K2 kx).fg.length (ap (tF K K1 K2 kx).fg)::(.grp k2 (cS K2))::.sl vq 42 68 (K2.set (tY K K1 K2 kx) (((tF K K1 K2 kx),(bH 66 (vl9 8)),(bH 67 (vl9 8))):N3)).length (aD (K2.set (tY K K1 K2 kx) (((tF K K1 K2 kx),(bH 66 (vl9 8)),(bH 67 (vl9 8))):N3)))::.blk b5 (.cells (cx (tC K K1 kx) (tB K K1 kx).2.1 (tB K K1 kx).2.2) 42)::.blk bm (dn (bY K))::.blk b2 (.cells (#[vq]) 24)::B9) _:=s
    obtain ⟨k3,s⟩:=s.grpR (S':=cS (K2.set (tY K K1 K2 kx) (((tF K K1 K2 kx),(bH 66 (vl9 8)),(bH 67 (vl9 8))):N3))) (fun w9 h1 h2 h3=>jO h3 ⟨h1,h2⟩)
    have hp3:=(jW hR2 hi2 (x:=(((tF K K1 K2 kx),(bH 66 (vl9 8)),(bH 67 (vl9 8))):N3)) rfl (ra hzr hT2.me)).1
    replace s:=s.bring 1 rfl
    replace s:St w0 (.sl vq 42 68 (K2.set (tY K K1 K2 kx) (((tF K K1 K2 kx),(bH 66 (vl9 8)),(bH 67 (vl9 8))):N3)).length (aD (K2.set (tY K K1 K2 kx) (((tF K K1 K2 kx),(bH 66 (vl9 8)),(bH 67 (vl9 8))):N3)))::(.grp k3 (cS (K2.set (tY K K1 K2 kx) (((tF K K1 K2 kx),(bH 66 (vl9 8)),(bH 67 (vl9 8))):N3))))::.blk b5 (.cells (cx (tC K K1 kx) (tB K K1 kx).2.1 (tB K K1 kx).2.2) 42)::.blk bm (dn (bY K))::.blk b2 (.cells (#[vq]) 24)::B9) _:=s
    exact dW rfl h (⟨_,rfl,(K2.set (tY K K1 K2 kx) (((tF K K1 K2 kx),(bH 66 (vl9 8)),(bH 67 (vl9 8))):N3)),k3,(by rw [hend,p1,hp3,fF];unfold tF;rw [hg2];rfl),(s.pick _ (List.Sublist.cons_cons _ (List.Sublist.cons_cons _ (List.Sublist.cons _ (List.Sublist.cons _ (List.Sublist.cons _ (List.Sublist.refl _)))))))⟩)
end Go.Proofs.YthggibfkgofncaaGreat
