/- Who lives; who does not live is dropped. -/
import Derived.Test.YthggibfkgofncaaGreatWc
import Derived.Test.YthggibfkgofncaaGreatWd
set_option linter.unusedVariables false
set_option linter.unusedSimpArgs false
set_option linter.unusedSectionVars false
namespace Go.Proofs.YthggibfkgofncaaGreat
open Go.RowKit
theorem mc (ks:List Int) (bm:Nat) (no:Int) (w:World) (hm:w.heap[bm]? = some (dn ks)):Calls Tryz.prog 89 [.map (some bm),.int .i64 no].toArray w (cU w (is (.bool (decide (no∈ks))))):=by
 refine bp Tryz.func89 rfl Tryz.ntmps89 rfl [(0,.map (some bm)),(1,.int .i64 no)] (by simp) fun f h=>?_
 have s:=St.start w
 refine al fun K1 hK1=>?_
 refine ae ?_
 refine ac h (aj (h.ev rfl)) rfl ?_;intro f h
 refine ah ?_
 refine hK1 _ _ ?_
 refine al fun K2 hK2=>?_
 refine ae ?_
 refine ac h (ag (h.ev rfl)) rfl ?_;intro f h
 refine ac h (ag (h.ev rfl)) rfl ?_;intro f h
 refine q9 (V:=.agg #[]) (ok:=decide (no∈ks)) h (uR hm s.ext) Tryz.underlying84 Tryz.underlying3 tt rfl rfl (zW ks no) rfl ?_;intro f h
 refine ac h (ag (h.ev rfl)) rfl ?_;intro f h
 refine ac h (bK (h.ev rfl) rfl) rfl ?_;intro f h
 refine ac h (bK (h.ev rfl) rfl) rfl ?_;intro f h
 refine bj (#[]) h s tt rfl rfl ?_;intro f w1 b5 h s
 refine ax 0 h s B0 rfl rfl rfl (rfl) (rfl) (fun _ h=>by cases h) ?_;intro w1 s
 refine ac h (aj (h.ev rfl)) rfl ?_;intro f h
 refine ah ?_
 refine hK2 _ _ ?_
 refine al fun K3 hK3=>?_
 refine ae ?_
 refine ac h (ag (h.ev rfl)) rfl ?_;intro f h
 refine ac h (aj (h.ev rfl)) rfl ?_;intro f h
 refine ah ?_
 refine hK3 _ _ ?_
 refine wpIn_ret ?_
 exact bf rfl h s rfl (rfl)
theorem r3 (L:List N3) (vo:Value) (w:World) (hO:dN w vo L) (hL:L.length≤40) (hd:L.Pairwise fun a b=>a.1.me.1≠b.1.me.1):Calls Tryz.prog 64 [.agg #[vo]].toArray w (cU w (fun v w9=>∃ bm,v=.map (some bm)∧St w [.blk bm (dn (bY L))] w9)):=by
 refine ep Tryz.func64 rfl Tryz.ntmps64 rfl [(0,.agg #[vo])] (by simp) fun f h=>?_
 have s:=St.start w
 refine al fun K1 hK1=>?_
 refine ae ?_
 refine bV (#[vo]) h s rfl rfl rfl ?_;intro f w1 b1 h s
 refine ac h (aj (h.ev rfl)) rfl ?_;intro f h
 refine ah ?_
 refine hK1 _ _ ?_
 refine al fun K2 hK2=>?_
 refine ae ?_
 refine uy h s rfl ?_;intro f w1 b5 h s
 refine bj (#[.map none]) h s Bn rfl rfl ?_;intro f w1 b3 h s
 refine bg 0 h s qy rfl rfl rfl (by simp) (rfl) ?_;intro w1 s
 refine ah ?_
 refine hK2 _ _ ?_
 refine al fun K3 hK3=>?_
 refine al fun K4 hK4=>?_
 refine ae ?_
 refine ar 2 h s a6 rfl rfl (rfl) rfl ?_;intro f h
 refine dq [.agg #[vo]] h lA (fy vo _ _ _ s) rfl rfl ?_;rintro f w1 r ⟨bn,rfl,s⟩ h
 refine ah ?_
 refine hK4 _ _ ?_
 refine wpIn_block ?_
 refine ed (fun d A9=>A9=[.blk b3 (.cells #[.map (some b5)] 84),.blk b5 (dn (bY (L.take d))),.blk b1 (.cells #[vo] 24)]) [.blk b3 (.cells #[.map (some b5)] 84),.blk b5 (dn (bY (L.take 0))),.blk b1 (.cells #[vo] 24)] [.blk bn (.cells #[vo] 24)] (L.length) (fun _=>false) (fun d=>[Value.pointer (some (aN vo (d*68)))]) h s rfl lm (List.Perm.refl _) (rfl) (fun _=>rfl) ?_ ?_ ?_ ?_
 ·intro lp w2 GG g0 hg0 s2 hY;exact eR L.length (by omega) vo _ _ hO.1 lp bn (fun _=>false) GG g0 w w2 s2 hg0 hY
 ·intro lp D9 d9 rc R9 A9 w2 hd9 hq9 hJ9 s
  obtain rfl:=hJ9
  have h:=Sl.round1 (p:=8) (V:=.pointer (some (aN vo (d9*68)))) h rfl
  have hdl9:=hd9
  refine ae ?_
  refine ac h (aj (h.ev rfl)) rfl ?_;intro f h
  refine ah ?_
  refine bQ ?_
  refine ⟨_,s,fun w3 s=>?_⟩
  refine wpIn_block ?_
  refine bI 7 [[],[],[1],[1,2],[1,2,3],[1,2,3,4],[]] h (by kernel_rfl) (by kernel_rfl) (by kernel_rfl) ?_
  refine d5 2 h s qy rfl rfl (rfl) rfl ?_;intro f h
  refine ao h (ag (h.ev rfl)) rfl ?_;intro f h
  refine ao h (bo (h.ev rfl)) rfl ?_;intro f h
  refine ao h (bG aR (h.ev rfl) ((hO.1.keep s.ext).some (by omega))) rfl ?_;intro f h
  refine ao h (bG aJ (h.ev rfl) ((hO.1.keep s.ext).some (by omega))) rfl ?_;intro f h
  refine a2 (V:=.int .i64 (L.getD d9 z3).1.me.1) (dt (hO.1.keep s.ext) (d9*68+0) (lg L d9 hdl9)) h bz rfl rfl ?_;intro f h
  refine ao h (re EA) rfl ?_;intro f h
  refine cq s fun w1 s=>?_
  refine xy 3 h s Tryz.underlying84 Tryz.underlying3 rfl rfl rfl rfl (pZ (xd hd hdl9)) ?_;intro w1 s
  refine ah ?_
  refine bF ?_
  replace s:=s.reob9 (o':=dn (bY (L.take (d9+1)))) 3 rfl ((zy _ _).trans (by rw [vQ hdl9]))
  refine ⟨rfl,_,rfl,s.pick _ ?_⟩
  exact List.Sublist.cons_cons _ (List.Sublist.refl _)
 ·intro D9 A9 w2 hJ9 hq9 s
  obtain rfl:=hJ9
  replace h:Sl _ {f with defers:={target:=.collected D9,args:=#[]}::f.defers} _ [{target:=.collected D9,args:=#[]}]:=⟨h.size,by rw [h.defers],h.holds⟩
  rw [List.take_length] at s
  refine bF ?_
  refine hK3 _ _ ?_
  refine al fun K5 hK5=>?_
  refine ae ?_
  refine cw 2 h s qy rfl rfl (rfl) rfl ?_;intro f h
  refine ac h (aj (h.ev rfl)) rfl ?_;intro f h
  refine ah ?_
  refine hK5 _ _ ?_
  refine wpIn_ret ?_
  exact mR 0 rfl h s rfl rfl (fun w9 s9=>⟨b5,rfl,s9.sel [3] rfl (by decide)⟩)
 ·intro D9 d9 A9 w2 hd9 hqd9 hq9 hJ9 s
  cases hqd9
set_option maxHeartbeats 1000000 in
theorem oP (K:List N3) (ks:List Nat) (nos:List Int) (l:List Mb) (vq:Value) (kx bm:Nat) (B9:List Own) (w0 w:World) (s:St w0 (.sl vq 42 68 K.length (aD K)::.grp ks (cS K)::.blk bm (dn nos)::B9) w) (hk:kx<K.length) (hkl:K.length≤40) (hrn:RN (K.getD kx z3).1) (hbx:(K.getD kx z3).1.sc.length≤300∧(K.getD kx z3).1.fg.length≤300) (hal:∀ no,decide (no∈nos)=ce l no):Calls Tryz.prog 88 [.pointer (some (aN vq (kx*68))),.map (some bm)].toArray w (fun e w9=>∃ r,e=.returned r∧∃ du dv kn,St w0 (.sl vq 42 68 (K.set kx (((dG l (K.getD kx z3).1),du,dv):N3)).length (aD (K.set kx (((dG l (K.getD kx z3).1),du,dv):N3)))::.grp kn (cS (K.set kx (((dG l (K.getD kx z3).1),du,dv):N3)))::.blk bm (dn nos)::B9) w9):=by
 have hkx:(aE (K.getD kx z3).1).length≤1000:=by simp only [aE,List.length_append,List.length_cons];omega
 refine uG Tryz.func88 rfl Tryz.ntmps88 rfl [(0,.pointer (some (aN vq (kx*68)))),(1,.map (some bm))] (by simp) fun f h=>?_
 refine al fun K1 hK1=>?_
 refine ae ?_
 refine bV (#[.map (some bm)]) h s rfl rfl rfl ?_;intro f w1 b3 h s
 refine ah ?_
 refine hK1 _ _ ?_
 refine al fun K2 hK2=>?_
 refine ae ?_
 refine bj (#[.slice none 0 0]) h s Cc rfl rfl ?_;intro f w1 b4 h s
 refine ah ?_
 refine hK2 _ _ ?_
 refine al fun K3 hK3=>?_
 refine al fun K4 hK4=>?_
 refine ae ?_
 refine ac h (ag (h.ev rfl)) rfl ?_;intro f h
 refine ac h (bo (h.ev rfl)) rfl ?_;intro f h
 refine aB ((bq.of_own (s.getSl 2 rfl)).el (kx) (by omega) (by decide) (D:=aC (K.getD kx z3).1.me (K.getD kx z3).1.pr (K.getD kx z3).2.1 (K.getD kx z3).2.2) (df K kx hk)) h aZ rfl (aq _ _ _ _) rfl ?_;intro f h
 replace s:=s.nilSl 3 1
 refine aH h s vG (jJ (K.getD kx z3).1 (K.getD kx z3).2.1 (K.getD kx z3).2.2 _ ((s.getG 4 rfl _ (bw hk))).1 ((s.getG 4 rfl _ (bw hk))).2 (by omega) (by omega)) rfl rfl ?_;rintro f w1 r9 ⟨bv,vk,rfl,hS⟩ hE h sq;replace s:=s.add hS;clear hS
 refine ah ?_
 refine hK4 _ _ ?_
 refine wpIn_block ?_
 refine ed (fun d A9=>∃ vb:Value,A9=(.sl vb 3 1 (fI l (K.getD kx z3).1 d).length ((fI l (K.getD kx z3).1 d).map (Value.int .i64))::.blk b4 (.cells #[vb] 78)::.blk b3 (.cells #[.map (some bm)] 84)::.sl vq 42 68 K.length (aD K)::.grp ks (cS K)::.blk bm (dn nos)::B9)) (.sl (Value.slice none 0 0) 3 1 (fI l (K.getD kx z3).1 0).length ((fI l (K.getD kx z3).1 0).map (Value.int .i64))::.blk b4 (.cells #[(Value.slice none 0 0)] 78)::.blk b3 (.cells #[.map (some bm)] 84)::.sl vq 42 68 K.length (aD K)::.grp ks (cS K)::.blk bm (dn nos)::B9) [.blk bv (.cells #[vk] 36),.sl vk 28 33 (aE (K.getD kx z3).1).length (ap (aE (K.getD kx z3).1))] ((aE (K.getD kx z3).1).length) (fun _=>false) (fun d=>[Value.agg (aw ((aE (K.getD kx z3).1).getD d aT))]) h s rfl o5 (List.Perm.refl _) (⟨_,rfl⟩) (fun _=>rfl) ?_ ?_ ?_ ?_
 ·intro lp w2 GG g0 hg0 s2 hY;exact jj (aE (K.getD kx z3).1) hkx vk lp bv (fun _=>false) GG g0 w0 w2 s2 hg0 hY
 ·intro lp D9 d9 rc R9 A9 w2 hd9 hq9 hJ9 s
  obtain ⟨vb,rfl⟩:=hJ9
  have h:=Sl.round1 (p:=10) (V:=.agg (aw ((aE (K.getD kx z3).1).getD d9 aT))) h rfl
  have hdl9:=hd9
  refine ae ?_
  refine bj (aw aT) h s cB rfl rfl ?_;intro f w1 b5 h s
  refine ax 0 h s aL rfl rfl rfl (ak _) (ak _) (aS _) ?_;intro w1 s
  refine ah ?_
  refine bQ ?_
  refine ⟨_,s.perm (List.perm_middle (l₁:=[_])),fun w3 s=>?_⟩
  refine wpIn_block ?_
  refine al fun K5 hK5=>?_
  cases l1:(ce l ((aE (K.getD kx z3).1).getD d9 aT).1:Bool)
  ·skip
   refine ae ?_
   refine cw 5 h s qy rfl rfl (rfl) rfl ?_;intro f h
   refine ac h (ai aJ (h.ev rfl)) rfl ?_;intro f h
   refine au (am (aU.of_own s 1 rfl) 0 (aP _)) h bz rfl rfl ?_;intro f h
   refine aH h s sL (aO (.bool false) (mc nos bm ((aE (K.getD kx z3).1).getD d9 aT).1 _ (s.get 8 rfl)) (congrArg Value.bool ((hal _).trans l1))) rfl rfl ?_;intro f w1 v9 hT hE h s;obtain rfl:=hT
   refine ac h (av (.bool true) (bh (h.ev rfl)) rfl) rfl ?_;intro f h
   refine ah ?_
   refine hK5 _ _ ?_
   refine wpIn_cond_true (h.ev rfl) ?_
   refine ae ?_
   refine cw 4 h s sy rfl rfl (rfl) rfl ?_;intro f h
   refine ac h (ai aJ (h.ev rfl)) rfl ?_;intro f h
   refine au (am (aU.of_own s 1 rfl) 0 (aP _)) h bz rfl rfl ?_;intro f h
   refine cg (vs:=[.int .i64 ((aE (K.getD kx z3).1).getD d9 aT).1]) [.tmp 18] h s Tryz.underlying78 x4 rfl rfl (by simp [Value.cells]) rfl rfl rfl ?_;intro f w1 v19 h s
   refine cZ 4 0 h s Tryz.underlying78 x4 rfl rfl rfl rfl (by decide) (by simp [Value.oneCell',Value.cells]) (by have h9:=iW l (K.getD kx z3).1 d9;unfold maxLen;omega) (by have h9:=iW l (K.getD kx z3).1 d9;omega) rfl ?_;intro f w1 v20 h s
   replace s:=s.pick _ (List.sublist_cons_self _ _)
   replace s:=s.resl (m:=(fI l (K.getD kx z3).1 (d9+1)).length) (ys:=(fI l (K.getD kx z3).1 (d9+1)).map (Value.int .i64)) 3 rfl (by rw [o6 hdl9 l1,List.length_append];rfl) (by rw [o6 hdl9 l1,List.map_append];simp [Value.cells])
   refine bg 4 h s sy rfl rfl rfl (by simp) (aX (s.getSl 3 rfl)) ?_;intro w1 s
   refine ah ?_
   refine bF ?_
   refine ⟨rfl,_,⟨v20,rfl⟩,s.pick _ ?_⟩
   exact List.Sublist.cons_cons _ (List.Sublist.cons _ (List.Sublist.refl _))
  ·skip
   refine ae ?_
   refine cw 5 h s qy rfl rfl (rfl) rfl ?_;intro f h
   refine ac h (ai aJ (h.ev rfl)) rfl ?_;intro f h
   refine au (am (aU.of_own s 1 rfl) 0 (aP _)) h bz rfl rfl ?_;intro f h
   refine aH h s sL (aO (.bool true) (mc nos bm ((aE (K.getD kx z3).1).getD d9 aT).1 _ (s.get 8 rfl)) (congrArg Value.bool ((hal _).trans l1))) rfl rfl ?_;intro f w1 v9 hT hE h s;obtain rfl:=hT
   refine ac h (av (.bool false) (bh (h.ev rfl)) rfl) rfl ?_;intro f h
   refine ah ?_
   refine hK5 _ _ ?_
   refine wpIn_cond_false (h.ev rfl) ?_
   refine wpIn_skip ?_
   refine bF ?_
   replace s:=s.resl (m:=(fI l (K.getD kx z3).1 (d9+1)).length) (ys:=(fI l (K.getD kx z3).1 (d9+1)).map (Value.int .i64)) 3 rfl (by rw [pa hdl9 l1]) (by rw [pa hdl9 l1])
   refine ⟨rfl,_,⟨vb,rfl⟩,s.pick _ ?_⟩
   exact List.Sublist.cons_cons _ (List.Sublist.cons _ (List.Sublist.refl _))
 ·intro D9 A9 w2 hJ9 hq9 s
  obtain ⟨vb,rfl⟩:=hJ9
  replace h:Sl _ {f with defers:={target:=.collected D9,args:=#[]}::f.defers} _ [{target:=.collected D9,args:=#[]}]:=⟨h.size,by rw [h.defers],h.holds⟩
  rw [kr] at s
  have hdw:(dJ l (K.getD kx z3).1).length≤1000:=by have h9:=iW l (K.getD kx z3).1 (aE (K.getD kx z3).1).length;rw [kr] at h9;omega
  refine bF ?_
  refine hK3 _ _ ?_
  replace s:=s.bring 6 rfl
  replace s:St w0 (.sl vq 42 68 K.length (aD K)::.blk D9 (.deferred (some []))::.blk bv (.cells (#[vk]) 36)::.sl vk 28 33 (aE (K.getD kx z3).1).length (ap (aE (K.getD kx z3).1))::.sl vb 3 1 (dJ l (K.getD kx z3).1).length ((dJ l (K.getD kx z3).1).map (Value.int .i64))::.blk b4 (.cells (#[vb]) 78)::.blk b3 (.cells (#[.map (some bm)]) 84)::(.grp ks (cS K))::.blk bm (dn nos)::B9) _:=s
  have hrr:=ik.2 hrn
  have htd:Cu (K.getD kx z3).1 (dJ l (K.getD kx z3).1)=(dG l (K.getD kx z3).1):=(nY _ hrr).1.trans (rP hrn).symm
  have hde:Ct (K.getD kx z3).1=0:=(nY [] hrr).2
  refine mq 1 [[],[],[1],[1,2],[],[1,2,3,4],[1,2,3,4,5],[1,2,3,4,5,6],[1,2,3,4,5,6],[0,1,2,3,4,5,6,7],[0,1,2,3,4,5,6,7,9]] [[],[],[],[11],[],[],[],[],[],[],[3]] [fun _=>[],fun _=>[],fun _=>[],fun v=>[.sl vq 42 68 K.length (aD K)],fun _=>[],fun v=>[.sl (bH 66 (v 5)) 28 33 (dG l (K.getD kx z3).1).sc.length (ap (dG l (K.getD kx z3).1).sc),.sl (bH 67 (v 5)) 28 33 (dG l (K.getD kx z3).1).fg.length (ap (dG l (K.getD kx z3).1).fg)],fun _=>[],fun _=>[],fun _=>[],fun _=>[],fun v=>[.sl vq 42 68 (K.set kx (((dG l (K.getD kx z3).1),(bH 66 (v 5)),(bH 67 (v 5))):N3)).length (aD (K.set kx (((dG l (K.getD kx z3).1),(bH 66 (v 5)),(bH 67 (v 5))):N3)))]] [[.sl vq 42 68 K.length (aD K)]] [fun v=>v 0=.pointer (some (aN vq (kx*68))),fun v=>v 1=.pointer (some (aN vq (kx*68))),fun v=>v 2=.pointer (some (aN vq (kx*68))),fun v=>v 3=.agg (aC (K.getD kx z3).1.me (K.getD kx z3).1.pr (K.getD kx z3).2.1 (K.getD kx z3).2.2),fun v=>v 4=vb,fun v=>v 5=.tuple #[.agg (aC (dG l (K.getD kx z3).1).me (dG l (K.getD kx z3).1).pr (bH 66 (v 5)) (bH 67 (v 5))),.int .i64 0],fun v=>v 6=.tuple #[.agg (aC (dG l (K.getD kx z3).1).me (dG l (K.getD kx z3).1).pr (bH 66 (v 5)) (bH 67 (v 5))),.int .i64 0],fun v=>v 7=.agg (aC (dG l (K.getD kx z3).1).me (dG l (K.getD kx z3).1).pr (bH 66 (v 5)) (bH 67 (v 5))),fun v=>v 8=.int .i64 0,fun v=>v 9=.pointer (some (aN vq (kx*68))),fun _=>True] (.blk D9 (.deferred (some []))::.blk bv (.cells (#[vk]) 36)::.sl vk 28 33 (aE (K.getD kx z3).1).length (ap (aE (K.getD kx z3).1))::.sl vb 3 1 (dJ l (K.getD kx z3).1).length ((dJ l (K.getD kx z3).1).map (Value.int .i64))::.blk b4 (.cells (#[vb]) 78)::.blk b3 (.cells (#[.map (some bm)]) 84)::(.grp ks (cS K))::.blk bm (dn nos)::B9) h s rfl (by kernel_rfl) (by kernel_rfl) (by kernel_rfl) (And.intro ?_ (And.intro ?_ (And.intro ?_ (And.intro ?_ (And.intro ?_ (And.intro ?_ (And.intro ?_ (And.intro ?_ (And.intro ?_ (And.intro ?_ (And.intro ?_ (trivial)))))))))))) [0,1,2,4,5,6,7,8,9,10] (by kernel_rfl) ?_
  ·intro f9 w2 vl6 E9 hs9 hd9 hl hF s
   have e0:f9.tmps.getD 0 undef=_:=cI hl 0 (by kernel_rfl) (by kernel_rfl) (h.holds 0 _ rfl)
   have h:=ay [(0,_)] (hs9.trans h.size) (hd9.trans h.defers) (holds_lk ⟨e0,trivial⟩)
   replace s:St w0 (.blk D9 (.deferred (some []))::.blk bv (.cells (#[vk]) 36)::.sl vk 28 33 (aE (K.getD kx z3).1).length (ap (aE (K.getD kx z3).1))::.sl vb 3 1 (dJ l (K.getD kx z3).1).length ((dJ l (K.getD kx z3).1).map (Value.int .i64))::.blk b4 (.cells (#[vb]) 78)::.blk b3 (.cells (#[.map (some bm)]) 84)::(.grp ks (cS K))::.blk bm (dn nos)::(B9++E9)) _:=s
   refine ac h (ag (h.ev rfl)) rfl ?_;intro f h
   exact ah ⟨_,bi 22 rfl (h.holds 22 _ rfl),rfl,s⟩
  ·intro f9 w2 vl6 E9 hs9 hd9 hl hF s
   have e0:f9.tmps.getD 0 undef=_:=cI hl 0 (by kernel_rfl) (by kernel_rfl) (h.holds 0 _ rfl)
   have h:=ay [(0,_)] (hs9.trans h.size) (hd9.trans h.defers) (holds_lk ⟨e0,trivial⟩)
   replace s:St w0 (.blk D9 (.deferred (some []))::.blk bv (.cells (#[vk]) 36)::.sl vk 28 33 (aE (K.getD kx z3).1).length (ap (aE (K.getD kx z3).1))::.sl vb 3 1 (dJ l (K.getD kx z3).1).length ((dJ l (K.getD kx z3).1).map (Value.int .i64))::.blk b4 (.cells (#[vb]) 78)::.blk b3 (.cells (#[.map (some bm)]) 84)::(.grp ks (cS K))::.blk bm (dn nos)::(B9++E9)) _:=s
   refine ac h (ag (h.ev rfl)) rfl ?_;intro f h
   exact ah ⟨_,bi 23 rfl (h.holds 23 _ rfl),rfl,s⟩
  ·intro f9 w2 vl6 E9 hs9 hd9 hl hF s
   have e23:f9.tmps.getD 23 undef=.pointer (some (aN vq (kx*68))):=(br hl 23 1 (by kernel_rfl) (by kernel_rfl)).trans (hF 1 (by decide))
   have h:=ay [(23,.pointer (some (aN vq (kx*68))))] (hs9.trans h.size) (hd9.trans h.defers) (holds_lk ⟨e23,trivial⟩)
   replace s:St w0 (.blk D9 (.deferred (some []))::.blk bv (.cells (#[vk]) 36)::.sl vk 28 33 (aE (K.getD kx z3).1).length (ap (aE (K.getD kx z3).1))::.sl vb 3 1 (dJ l (K.getD kx z3).1).length ((dJ l (K.getD kx z3).1).map (Value.int .i64))::.blk b4 (.cells (#[vb]) 78)::.blk b3 (.cells (#[.map (some bm)]) 84)::(.grp ks (cS K))::.blk bm (dn nos)::(B9++E9)) _:=s
   refine ac h (bo (h.ev rfl)) rfl ?_;intro f h
   exact ah ⟨_,bi 24 rfl (h.holds 24 _ rfl),rfl,s⟩
  ·intro f9 w2 vl6 E9 hs9 hd9 hl hF s
   have e24:f9.tmps.getD 24 undef=.pointer (some (aN vq (kx*68))):=(br hl 24 2 (by kernel_rfl) (by kernel_rfl)).trans (hF 2 (by decide))
   have h:=ay [(24,.pointer (some (aN vq (kx*68))))] (hs9.trans h.size) (hd9.trans h.defers) (holds_lk ⟨e24,trivial⟩)
   replace s:St w0 (.sl vq 42 68 K.length (aD K)::.blk D9 (.deferred (some []))::.blk bv (.cells (#[vk]) 36)::.sl vk 28 33 (aE (K.getD kx z3).1).length (ap (aE (K.getD kx z3).1))::.sl vb 3 1 (dJ l (K.getD kx z3).1).length ((dJ l (K.getD kx z3).1).map (Value.int .i64))::.blk b4 (.cells (#[vb]) 78)::.blk b3 (.cells (#[.map (some bm)]) 84)::(.grp ks (cS K))::.blk bm (dn nos)::(B9++E9)) _:=s
   refine aB ((bq.of_own (s.getSl 0 rfl)).el (kx) (by omega) (by decide) (D:=aC (K.getD kx z3).1.me (K.getD kx z3).1.pr (K.getD kx z3).2.1 (K.getD kx z3).2.2) (df K kx hk)) h aZ rfl (aq _ _ _ _) rfl ?_;intro f h
   exact ah ⟨_,bi 25 rfl (h.holds 25 _ rfl),rfl,s⟩
  ·intro f9 w2 vl6 E9 hs9 hd9 hl hF s
   have e4:f9.tmps.getD 4 undef=_:=cI hl 4 (by kernel_rfl) (by kernel_rfl) (h.holds 4 _ rfl)
   have h:=ay [(4,_)] (hs9.trans h.size) (hd9.trans h.defers) (holds_lk ⟨e4,trivial⟩)
   replace s:St w0 (.blk D9 (.deferred (some []))::.blk bv (.cells (#[vk]) 36)::.sl vk 28 33 (aE (K.getD kx z3).1).length (ap (aE (K.getD kx z3).1))::.sl vb 3 1 (dJ l (K.getD kx z3).1).length ((dJ l (K.getD kx z3).1).map (Value.int .i64))::.blk b4 (.cells (#[vb]) 78)::.blk b3 (.cells (#[.map (some bm)]) 84)::(.grp ks (cS K))::.blk bm (dn nos)::(B9++E9)) _:=s
   refine cw 4 h s sy rfl rfl (rfl) rfl ?_;intro f h
   exact ah ⟨_,bi 26 rfl (h.holds 26 _ rfl),rfl,s⟩
  ·intro f9 w2 vl6 E9 hs9 hd9 hl hF s
   have e25:f9.tmps.getD 25 undef=.agg (aC (K.getD kx z3).1.me (K.getD kx z3).1.pr (K.getD kx z3).2.1 (K.getD kx z3).2.2):=(br hl 25 3 (by kernel_rfl) (by kernel_rfl)).trans (hF 3 (by decide))
   have e26:f9.tmps.getD 26 undef=vb:=(br hl 26 4 (by kernel_rfl) (by kernel_rfl)).trans (hF 4 (by decide))
   have h:=ay [(25,.agg (aC (K.getD kx z3).1.me (K.getD kx z3).1.pr (K.getD kx z3).2.1 (K.getD kx z3).2.2)),(26,vb)] (hs9.trans h.size) (hd9.trans h.defers) (holds_lk ⟨e25,e26,trivial⟩)
   replace s:St w0 (.blk D9 (.deferred (some []))::.blk bv (.cells (#[vk]) 36)::.sl vk 28 33 (aE (K.getD kx z3).1).length (ap (aE (K.getD kx z3).1))::.sl vb 3 1 (dJ l (K.getD kx z3).1).length ((dJ l (K.getD kx z3).1).map (Value.int .i64))::.blk b4 (.cells (#[vb]) 78)::.blk b3 (.cells (#[.map (some bm)]) 84)::(.grp ks (cS K))::.blk bm (dn nos)::(B9++E9)) _:=s
   refine aH h s DO (ue (K.getD kx z3).1 (K.getD kx z3).2.1 (K.getD kx z3).2.2 (dJ l (K.getD kx z3).1) vb _ (s.getG 6 rfl _ (bw hk)).1 (s.getG 6 rfl _ (bw hk)).2 (by omega) (by omega) (bq.of_own (s.getSl 3 rfl)) (by omega)) rfl rfl ?_;rintro f w1 v27 ⟨cu,cv,hv9,hS⟩ hE h sq;rw [htd,hde] at hv9;rw [htd] at hS;replace s:=s.add hS
   have h66:cu=bH 66 v27:=by rw [hv9];exact(nu (bq.of_own (hS.getSl 0 rfl))).symm
   have h67:cv=bH 67 v27:=by rw [hv9];exact(nm (bq.of_own (hS.getSl 1 rfl))).symm
   clear hS
   subst h66;subst h67
   exact ah ⟨_,bi 27 rfl (h.holds 27 _ rfl),hv9,s⟩
  ·intro f9 w2 vl6 E9 hs9 hd9 hl hF s
   have e27:f9.tmps.getD 27 undef=.tuple #[.agg (aC (dG l (K.getD kx z3).1).me (dG l (K.getD kx z3).1).pr (bH 66 (vl6 5)) (bH 67 (vl6 5))),.int .i64 0]:=(br hl 27 5 (by kernel_rfl) (by kernel_rfl)).trans (hF 5 (by decide))
   have h:=ay [(27,.tuple #[.agg (aC (dG l (K.getD kx z3).1).me (dG l (K.getD kx z3).1).pr (bH 66 (vl6 5)) (bH 67 (vl6 5))),.int .i64 0])] (hs9.trans h.size) (hd9.trans h.defers) (holds_lk ⟨e27,trivial⟩)
   replace s:St w0 (.blk D9 (.deferred (some []))::.blk bv (.cells (#[vk]) 36)::.sl vk 28 33 (aE (K.getD kx z3).1).length (ap (aE (K.getD kx z3).1))::.sl vb 3 1 (dJ l (K.getD kx z3).1).length ((dJ l (K.getD kx z3).1).map (Value.int .i64))::.blk b4 (.cells (#[vb]) 78)::.blk b3 (.cells (#[.map (some bm)]) 84)::(.grp ks (cS K))::.blk bm (dn nos)::(B9++E9)) _:=s
   refine ac h (ag (h.ev rfl)) rfl ?_;intro f h
   exact ah ⟨_,bi 21 rfl (h.holds 21 _ rfl),rfl,s⟩
  ·intro f9 w2 vl6 E9 hs9 hd9 hl hF s
   have e21:f9.tmps.getD 21 undef=.tuple #[.agg (aC (dG l (K.getD kx z3).1).me (dG l (K.getD kx z3).1).pr (bH 66 (vl6 5)) (bH 67 (vl6 5))),.int .i64 0]:=(br hl 21 6 (by kernel_rfl) (by kernel_rfl)).trans (hF 6 (by decide))
   have h:=ay [(21,.tuple #[.agg (aC (dG l (K.getD kx z3).1).me (dG l (K.getD kx z3).1).pr (bH 66 (vl6 5)) (bH 67 (vl6 5))),.int .i64 0])] (hs9.trans h.size) (hd9.trans h.defers) (holds_lk ⟨e21,trivial⟩)
   replace s:St w0 (.blk D9 (.deferred (some []))::.blk bv (.cells (#[vk]) 36)::.sl vk 28 33 (aE (K.getD kx z3).1).length (ap (aE (K.getD kx z3).1))::.sl vb 3 1 (dJ l (K.getD kx z3).1).length ((dJ l (K.getD kx z3).1).map (Value.int .i64))::.blk b4 (.cells (#[vb]) 78)::.blk b3 (.cells (#[.map (some bm)]) 84)::(.grp ks (cS K))::.blk bm (dn nos)::(B9++E9)) _:=s
   refine ac h (bK (h.ev rfl) rfl) rfl ?_;intro f h
   exact ah ⟨_,bi 28 rfl (h.holds 28 _ rfl),rfl,s⟩
  ·intro f9 w2 vl6 E9 hs9 hd9 hl hF s
   have e21:f9.tmps.getD 21 undef=.tuple #[.agg (aC (dG l (K.getD kx z3).1).me (dG l (K.getD kx z3).1).pr (bH 66 (vl6 5)) (bH 67 (vl6 5))),.int .i64 0]:=(br hl 21 6 (by kernel_rfl) (by kernel_rfl)).trans (hF 6 (by decide))
   have h:=ay [(21,.tuple #[.agg (aC (dG l (K.getD kx z3).1).me (dG l (K.getD kx z3).1).pr (bH 66 (vl6 5)) (bH 67 (vl6 5))),.int .i64 0])] (hs9.trans h.size) (hd9.trans h.defers) (holds_lk ⟨e21,trivial⟩)
   replace s:St w0 (.blk D9 (.deferred (some []))::.blk bv (.cells (#[vk]) 36)::.sl vk 28 33 (aE (K.getD kx z3).1).length (ap (aE (K.getD kx z3).1))::.sl vb 3 1 (dJ l (K.getD kx z3).1).length ((dJ l (K.getD kx z3).1).map (Value.int .i64))::.blk b4 (.cells (#[vb]) 78)::.blk b3 (.cells (#[.map (some bm)]) 84)::(.grp ks (cS K))::.blk bm (dn nos)::(B9++E9)) _:=s
   refine ac h (bK (h.ev rfl) rfl) rfl ?_;intro f h
   exact ah ⟨_,bi 29 rfl (h.holds 29 _ rfl),rfl,s⟩
  ·intro f9 w2 vl6 E9 hs9 hd9 hl hF s
   have e22:f9.tmps.getD 22 undef=.pointer (some (aN vq (kx*68))):=(br hl 22 0 (by kernel_rfl) (by kernel_rfl)).trans (hF 0 (by decide))
   have h:=ay [(22,.pointer (some (aN vq (kx*68))))] (hs9.trans h.size) (hd9.trans h.defers) (holds_lk ⟨e22,trivial⟩)
   replace s:St w0 (.blk D9 (.deferred (some []))::.blk bv (.cells (#[vk]) 36)::.sl vk 28 33 (aE (K.getD kx z3).1).length (ap (aE (K.getD kx z3).1))::.sl vb 3 1 (dJ l (K.getD kx z3).1).length ((dJ l (K.getD kx z3).1).map (Value.int .i64))::.blk b4 (.cells (#[vb]) 78)::.blk b3 (.cells (#[.map (some bm)]) 84)::(.grp ks (cS K))::.blk bm (dn nos)::(B9++E9)) _:=s
   refine ac h (bo (h.ev rfl)) rfl ?_;intro f h
   exact ah ⟨_,bi 30 rfl (h.holds 30 _ rfl),rfl,s⟩
  ·intro f9 w2 vl6 E9 hs9 hd9 hl hF s
   have e30:f9.tmps.getD 30 undef=.pointer (some (aN vq (kx*68))):=(br hl 30 9 (by kernel_rfl) (by kernel_rfl)).trans (hF 9 (by decide))
   have e28:f9.tmps.getD 28 undef=.agg (aC (dG l (K.getD kx z3).1).me (dG l (K.getD kx z3).1).pr (bH 66 (vl6 5)) (bH 67 (vl6 5))):=(br hl 28 7 (by kernel_rfl) (by kernel_rfl)).trans (hF 7 (by decide))
   have h:=ay [(30,.pointer (some (aN vq (kx*68)))),(28,.agg (aC (dG l (K.getD kx z3).1).me (dG l (K.getD kx z3).1).pr (bH 66 (vl6 5)) (bH 67 (vl6 5))))] (hs9.trans h.size) (hd9.trans h.defers) (holds_lk ⟨e30,e28,trivial⟩)
   replace s:St w0 (.sl vq 42 68 K.length (aD K)::.blk D9 (.deferred (some []))::.blk bv (.cells (#[vk]) 36)::.sl vk 28 33 (aE (K.getD kx z3).1).length (ap (aE (K.getD kx z3).1))::.sl vb 3 1 (dJ l (K.getD kx z3).1).length ((dJ l (K.getD kx z3).1).map (Value.int .i64))::.blk b4 (.cells (#[vb]) 78)::.blk b3 (.cells (#[.map (some bm)]) 84)::(.grp ks (cS K))::.blk bm (dn nos)::(B9++E9)) _:=s
   refine er 0 (kx) h s aZ rfl rfl rfl (aq _ _ _ _) (by omega) (a7 (fl _ _) (fl _ _)) (show _=aD (K.set kx (((dG l (K.getD kx z3).1),(bH 66 (vl6 5)),(bH 67 (vl6 5))):N3)) from mu hk (((dG l (K.getD kx z3).1),(bH 66 (vl6 5)),(bH 67 (vl6 5))):N3)) ?_;intro w1 s
   replace s:=s.resl (m:=(K.set kx (((dG l (K.getD kx z3).1),(bH 66 (vl6 5)),(bH 67 (vl6 5))):N3)).length) (ys:=aD (K.set kx (((dG l (K.getD kx z3).1),(bH 66 (vl6 5)),(bH 67 (vl6 5))):N3))) 0 rfl (by rw [List.length_set]) rfl
   exact ah ⟨undef,gL rfl,trivial,s⟩
  intro f w1 vl6 hs9 hd9 hv hr hF s
  replace h:=m3 (ops:=_) [(22,.pointer (some (aN vq (kx*68)))),(23,.pointer (some (aN vq (kx*68)))),(24,.pointer (some (aN vq (kx*68)))),(25,.agg (aC (K.getD kx z3).1.me (K.getD kx z3).1.pr (K.getD kx z3).2.1 (K.getD kx z3).2.2)),(26,vb),(27,.tuple #[.agg (aC (dG l (K.getD kx z3).1).me (dG l (K.getD kx z3).1).pr (bH 66 (vl6 5)) (bH 67 (vl6 5))),.int .i64 0]),(21,.tuple #[.agg (aC (dG l (K.getD kx z3).1).me (dG l (K.getD kx z3).1).pr (bH 66 (vl6 5)) (bH 67 (vl6 5))),.int .i64 0]),(28,.agg (aC (dG l (K.getD kx z3).1).me (dG l (K.getD kx z3).1).pr (bH 66 (vl6 5)) (bH 67 (vl6 5)))),(29,.int .i64 0),(30,.pointer (some (aN vq (kx*68))))] h hs9 hd9 hr ⟨(hv 0 22 rfl).trans (hF 0 (by kernel_rfl)),(hv 1 23 rfl).trans (hF 1 (by kernel_rfl)),(hv 2 24 rfl).trans (hF 2 (by kernel_rfl)),(hv 3 25 rfl).trans (hF 3 (by kernel_rfl)),(hv 4 26 rfl).trans (hF 4 (by kernel_rfl)),(hv 5 27 rfl).trans (hF 5 (by kernel_rfl)),(hv 6 21 rfl).trans (hF 6 (by kernel_rfl)),(hv 7 28 rfl).trans (hF 7 (by kernel_rfl)),(hv 8 29 rfl).trans (hF 8 (by kernel_rfl)),(hv 9 30 rfl).trans (hF 9 (by kernel_rfl)),trivial⟩ (by kernel_rfl)
  replace s:St w0 (.sl (bH 66 (vl6 5)) 28 33 (dG l (K.getD kx z3).1).sc.length (ap (dG l (K.getD kx z3).1).sc)::.sl (bH 67 (vl6 5)) 28 33 (dG l (K.getD kx z3).1).fg.length (ap (dG l (K.getD kx z3).1).fg)::.sl vq 42 68 (K.set kx (((dG l (K.getD kx z3).1),(bH 66 (vl6 5)),(bH 67 (vl6 5))):N3)).length (aD (K.set kx (((dG l (K.getD kx z3).1),(bH 66 (vl6 5)),(bH 67 (vl6 5))):N3)))::.blk D9 (.deferred (some []))::.blk bv (.cells (#[vk]) 36)::.sl vk 28 33 (aE (K.getD kx z3).1).length (ap (aE (K.getD kx z3).1))::.sl vb 3 1 (dJ l (K.getD kx z3).1).length ((dJ l (K.getD kx z3).1).map (Value.int .i64))::.blk b4 (.cells (#[vb]) 78)::.blk b3 (.cells (#[.map (some bm)]) 84)::(.grp ks (cS K))::.blk bm (dn nos)::B9) _:=s
  replace s:=s.bring 9 rfl
  replace s:=s.bring 2 rfl
  replace s:=s.bring 2 rfl
  replace s:St w0 (.sl (bH 66 (vl6 5)) 28 33 (dG l (K.getD kx z3).1).sc.length (ap (dG l (K.getD kx z3).1).sc)::.sl (bH 67 (vl6 5)) 28 33 (dG l (K.getD kx z3).1).fg.length (ap (dG l (K.getD kx z3).1).fg)::(.grp ks (cS K))::.sl vq 42 68 (K.set kx (((dG l (K.getD kx z3).1),(bH 66 (vl6 5)),(bH 67 (vl6 5))):N3)).length (aD (K.set kx (((dG l (K.getD kx z3).1),(bH 66 (vl6 5)),(bH 67 (vl6 5))):N3)))::.blk D9 (.deferred (some []))::.blk bv (.cells (#[vk]) 36)::.sl vk 28 33 (aE (K.getD kx z3).1).length (ap (aE (K.getD kx z3).1))::.sl vb 3 1 (dJ l (K.getD kx z3).1).length ((dJ l (K.getD kx z3).1).map (Value.int .i64))::.blk b4 (.cells (#[vb]) 78)::.blk b3 (.cells (#[.map (some bm)]) 84)::.blk bm (dn nos)::B9) _:=s
  obtain ⟨kn,s⟩:=s.grpR (S':=cS (K.set kx (((dG l (K.getD kx z3).1),(bH 66 (vl6 5)),(bH 67 (vl6 5))):N3))) (fun w9 h1 h2 h3=>jO h3 ⟨h1,h2⟩)
  replace s:=s.bring 8 rfl
  replace s:=s.bring 1 rfl
  replace s:=s.bring 2 rfl
  replace s:St w0 (.sl vq 42 68 (K.set kx (((dG l (K.getD kx z3).1),(bH 66 (vl6 5)),(bH 67 (vl6 5))):N3)).length (aD (K.set kx (((dG l (K.getD kx z3).1),(bH 66 (vl6 5)),(bH 67 (vl6 5))):N3)))::(.grp kn (cS (K.set kx (((dG l (K.getD kx z3).1),(bH 66 (vl6 5)),(bH 67 (vl6 5))):N3))))::.blk bm (dn nos)::.blk D9 (.deferred (some []))::.blk bv (.cells (#[vk]) 36)::.sl vk 28 33 (aE (K.getD kx z3).1).length (ap (aE (K.getD kx z3).1))::.sl vb 3 1 (dJ l (K.getD kx z3).1).length ((dJ l (K.getD kx z3).1).map (Value.int .i64))::.blk b4 (.cells (#[vb]) 78)::.blk b3 (.cells (#[.map (some bm)]) 84)::B9) _:=s
  exact oO 3 rfl h s rfl (fun w9 s9=>⟨_,rfl,_,_,kn,(s9.pick _ (List.Sublist.cons_cons _ (List.Sublist.cons_cons _ (List.Sublist.cons_cons _ (List.Sublist.cons _ (List.Sublist.cons _ (List.Sublist.cons _ (List.Sublist.cons _ (List.Sublist.cons _ (List.Sublist.cons _ (List.Sublist.refl _)))))))))))⟩)
 ·intro D9 d9 A9 w2 hd9 hqd9 hq9 hJ9 s
  cases hqd9
end Go.Proofs.YthggibfkgofncaaGreat
