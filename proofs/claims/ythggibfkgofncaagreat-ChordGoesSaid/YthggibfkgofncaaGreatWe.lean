/- Who lives; who does not live is dropped. -/
import Derived.Test.YthggibfkgofncaaGreatWc
import Derived.Test.YthggibfkgofncaaGreatWd
set_option linter.unusedVariables false
set_option linter.unusedSimpArgs false
set_option linter.unusedSectionVars false
namespace Go.Proofs.YthggibfkgofncaaGreat
open Go.RowKit
theorem lD (ks:List Int) (bm:Nat) (no:Int) (w:World) (hm:w.heap[bm]? = some (d5 ks)):Calls Tryz.prog 89 [.map (some bm),.int .i64 no].toArray w (cU w (is (.bool (decide (no∈ks))))):=by
 refine bq Tryz.func89 rfl Tryz.ntmps89 rfl [(0,.map (some bm)),(1,.int .i64 no)] (by simp) fun f h=>?_
 have s:=St.start w
 refine al fun K1 hK1=>?_
 refine ae ?_
 refine ac h (ak (h.ev rfl)) rfl ?_;intro f h
 refine ah ?_
 refine hK1 _ _ ?_
 refine al fun K2 hK2=>?_
 refine ae ?_
 refine ac h (ag (h.ev rfl)) rfl ?_;intro f h
 refine ac h (ag (h.ev rfl)) rfl ?_;intro f h
 refine qe (V:=.agg #[]) (ok:=decide (no∈ks)) h (dC hm s.ext) Tryz.underlying84 Tryz.underlying3 r4 rfl rfl (yE ks no) rfl ?_;intro f h
 refine ac h (ag (h.ev rfl)) rfl ?_;intro f h
 refine ac h (bG (h.ev rfl) rfl) rfl ?_;intro f h
 refine ac h (bG (h.ev rfl) rfl) rfl ?_;intro f h
 refine bf (#[]) h s r4 rfl rfl ?_;intro f w1 b5 h s
 refine az 0 h s A4 rfl rfl rfl (rfl) (rfl) (fun _ h=>by cases h) ?_;intro w1 s
 refine ac h (ak (h.ev rfl)) rfl ?_;intro f h
 refine ah ?_
 refine hK2 _ _ ?_
 refine al fun K3 hK3=>?_
 refine ae ?_
 refine ac h (ag (h.ev rfl)) rfl ?_;intro f h
 refine ac h (ak (h.ev rfl)) rfl ?_;intro f h
 refine ah ?_
 refine hK3 _ _ ?_
 refine wpIn_ret ?_
 exact bo rfl h s rfl (rfl)
theorem qf (L:List N3) (vo:Value) (w:World) (hO:eN w vo L) (hL:L.length≤40) (hd:L.Pairwise fun a b=>a.1.me.1≠b.1.me.1):Calls Tryz.prog 64 [.agg #[vo]].toArray w (cU w (fun v w9=>∃ bm,v=.map (some bm)∧St w [.blk bm (d5 (fU L))] w9)):=by
 refine d7 Tryz.func64 rfl Tryz.ntmps64 rfl [(0,.agg #[vo])] (by simp) fun f h=>?_
 have s:=St.start w
 refine al fun K1 hK1=>?_
 refine ae ?_
 refine bV (#[vo]) h s rfl rfl rfl ?_;intro f w1 b1 h s
 refine ac h (ak (h.ev rfl)) rfl ?_;intro f h
 refine ah ?_
 refine hK1 _ _ ?_
 refine al fun K2 hK2=>?_
 refine ae ?_
 refine sZ h s rfl ?_;intro f w1 b5 h s
 refine bf (#[.map none]) h s w6 rfl rfl ?_;intro f w1 b3 h s
 refine br 0 h s jY rfl rfl rfl (by simp) (rfl) ?_;intro w1 s
 refine ah ?_
 refine hK2 _ _ ?_
 refine al fun K3 hK3=>?_
 refine al fun K4 hK4=>?_
 refine ae ?_
 refine au 2 h s bk rfl rfl (rfl) rfl ?_;intro f h
 refine dl [.agg #[vo]] h kE (fk vo _ _ _ s) rfl rfl ?_;rintro f w1 r ⟨bn,rfl,s⟩ h
 refine ah ?_
 refine hK4 _ _ ?_
 refine wpIn_block ?_
 refine dW (fun d A9=>A9=[.blk b3 (.cells #[.map (some b5)] 84),.blk b5 (d5 (fU (L.take d))),.blk b1 (.cells #[vo] 24)]) [.blk b3 (.cells #[.map (some b5)] 84),.blk b5 (d5 (fU (L.take 0))),.blk b1 (.cells #[vo] 24)] [.blk bn (.cells #[vo] 24)] (L.length) (fun _=>false) (fun d=>[Value.pointer (some (a2 vo (d*68)))]) h s rfl kH (List.Perm.refl _) (rfl) (fun _=>rfl) ?_ ?_ ?_ ?_
 ·intro lp w2 GG g0 hg0 s2 hY;exact eB L.length (by omega) vo _ _ hO.1 lp bn (fun _=>false) GG g0 w w2 s2 hg0 hY
 ·intro lp D9 d9 rc R9 A9 w2 hd9 hq9 hJ9 s
  obtain rfl:=hJ9
  have h:=Sl.round1 (p:=8) (V:=.pointer (some (a2 vo (d9*68)))) h rfl
  have hdl9:=hd9
  refine ae ?_
  refine ac h (ak (h.ev rfl)) rfl ?_;intro f h
  refine ah ?_
  refine bT ?_
  refine ⟨_,s,fun w3 s=>?_⟩
  refine wpIn_block ?_
  refine bH 7 [[],[],[1],[1,2],[1,2,3],[1,2,3,4],[]] h (by kernel_rfl) (by kernel_rfl) (by kernel_rfl) ?_
  refine dq 2 h s jY rfl rfl (rfl) rfl ?_;intro f h
  refine ao h (ag (h.ev rfl)) rfl ?_;intro f h
  refine ao h (bz (h.ev rfl)) rfl ?_;intro f h
  refine ao h (bL aK (h.ev rfl) ((hO.1.keep s.ext).some (by omega))) rfl ?_;intro f h
  refine ao h (bL aH (h.ev rfl) ((hO.1.keep s.ext).some (by omega))) rfl ?_;intro f h
  refine aU (V:=.int .i64 (L.getD d9 z3).1.me.1) (ez (hO.1.keep s.ext) (d9*68+0) (ie L d9 hdl9)) h bw rfl rfl ?_;intro f h
  refine ao h (qK DP) rfl ?_;intro f h
  refine ck s fun w1 s=>?_
  refine wU 3 h s Tryz.underlying84 Tryz.underlying3 rfl rfl rfl rfl (o5 (wQ hd hdl9)) ?_;intro w1 s
  refine ah ?_
  refine bF ?_
  replace s:=s.reob9 (o':=d5 (fU (L.take (d9+1)))) 3 rfl ((yB _ _).trans (by rw [wz hdl9]))
  refine ⟨rfl,_,rfl,s.pick _ ?_⟩
  exact List.Sublist.cons_cons _ (List.Sublist.refl _)
 ·intro D9 A9 w2 hJ9 hq9 s
  obtain rfl:=hJ9
  replace h:Sl _ {f with defers:={target:=.collected D9,args:=#[]}::f.defers} _ [{target:=.collected D9,args:=#[]}]:=⟨h.size,by rw [h.defers],h.holds⟩
  rw [List.take_length] at s
  refine bF ?_
  refine hK3 _ _ ?_
  refine al fun K5 hK5=>?_
  refine ae ?_
  refine bR 2 h s jY rfl rfl (rfl) rfl ?_;intro f h
  refine ac h (ak (h.ev rfl)) rfl ?_;intro f h
  refine ah ?_
  refine hK5 _ _ ?_
  refine wpIn_ret ?_
  exact mm 0 rfl h s rfl rfl (fun w9 s9=>⟨b5,rfl,s9.sel [3] rfl (by decide)⟩)
 ·intro D9 d9 A9 w2 hd9 hqd9 hq9 hJ9 s
  cases hqd9
set_option maxHeartbeats 1000000 in
theorem yl (K:List N3) (ks:List Nat) (nos:List Int) (l:List Mb) (vq:Value) (kx bm:Nat) (B9:List Own) (w0 w:World) (s:St w0 (.sl vq 42 68 K.length (aG K)::.grp ks (c6 K)::.blk bm (d5 nos)::B9) w) (hk:kx<K.length) (hkl:K.length≤40) (hrn:RN (K.getD kx z3).1) (hbx:(K.getD kx z3).1.sc.length≤300∧(K.getD kx z3).1.fg.length≤300) (hal:∀ no,decide (no∈nos)=cx l no):Calls Tryz.prog 88 [.pointer (some (a2 vq (kx*68))),.map (some bm)].toArray w (fun e w9=>∃ r,e=.returned r∧∃ du dv kn,St w0 (.sl vq 42 68 (K.set kx (((eE l (K.getD kx z3).1),du,dv):N3)).length (aG (K.set kx (((eE l (K.getD kx z3).1),du,dv):N3)))::.grp kn (c6 (K.set kx (((eE l (K.getD kx z3).1),du,dv):N3)))::.blk bm (d5 nos)::B9) w9):=by
 have hkx:(aJ (K.getD kx z3).1).length≤1000:=by simp only [aJ,List.length_append,List.length_cons];omega
 refine tW Tryz.func88 rfl Tryz.ntmps88 rfl [(0,.pointer (some (a2 vq (kx*68)))),(1,.map (some bm))] (by simp) fun f h=>?_
 refine al fun K1 hK1=>?_
 refine ae ?_
 refine bV (#[.map (some bm)]) h s rfl rfl rfl ?_;intro f w1 b3 h s
 refine ah ?_
 refine hK1 _ _ ?_
 refine al fun K2 hK2=>?_
 refine ae ?_
 refine bf (#[.slice none 0 0]) h s AP rfl rfl ?_;intro f w1 b4 h s
 refine ah ?_
 refine hK2 _ _ ?_
 refine al fun K3 hK3=>?_
 refine al fun K4 hK4=>?_
 refine ae ?_
 refine ac h (ag (h.ev rfl)) rfl ?_;intro f h
 refine ac h (bz (h.ev rfl)) rfl ?_;intro f h
 refine ax ((bX.of_own (s.getSl 2 rfl)).el (kx) (by omega) (by decide) (D:=ay (K.getD kx z3).1.me (K.getD kx z3).1.pr (K.getD kx z3).2.1 (K.getD kx z3).2.2) (df K kx hk)) h aW rfl (ap _ _ _ _) rfl ?_;intro f h
 replace s:=s.nilSl 3 1
 refine aI h s u0 (jj (K.getD kx z3).1 (K.getD kx z3).2.1 (K.getD kx z3).2.2 _ ((s.getG 4 rfl _ (bu hk))).1 ((s.getG 4 rfl _ (bu hk))).2 (by omega) (by omega)) rfl rfl ?_;rintro f w1 r9 ⟨bv,vk,rfl,hS⟩ hE h sq;replace s:=s.add hS;clear hS
 refine ah ?_
 refine hK4 _ _ ?_
 refine wpIn_block ?_
 refine dW (fun d A9=>∃ vb:Value,A9=(.sl vb 3 1 (hU l (K.getD kx z3).1 d).length ((hU l (K.getD kx z3).1 d).map (Value.int .i64))::.blk b4 (.cells #[vb] 78)::.blk b3 (.cells #[.map (some bm)] 84)::.sl vq 42 68 K.length (aG K)::.grp ks (c6 K)::.blk bm (d5 nos)::B9)) (.sl (Value.slice none 0 0) 3 1 (hU l (K.getD kx z3).1 0).length ((hU l (K.getD kx z3).1 0).map (Value.int .i64))::.blk b4 (.cells #[(Value.slice none 0 0)] 78)::.blk b3 (.cells #[.map (some bm)] 84)::.sl vq 42 68 K.length (aG K)::.grp ks (c6 K)::.blk bm (d5 nos)::B9) [.blk bv (.cells #[vk] 36),.sl vk 28 33 (aJ (K.getD kx z3).1).length (ar (aJ (K.getD kx z3).1))] ((aJ (K.getD kx z3).1).length) (fun _=>false) (fun d=>[Value.agg (av ((aJ (K.getD kx z3).1).getD d aZ))]) h s rfl nK (List.Perm.refl _) (⟨_,rfl⟩) (fun _=>rfl) ?_ ?_ ?_ ?_
 ·intro lp w2 GG g0 hg0 s2 hY;exact ji (aJ (K.getD kx z3).1) hkx vk lp bv (fun _=>false) GG g0 w0 w2 s2 hg0 hY
 ·intro lp D9 d9 rc R9 A9 w2 hd9 hq9 hJ9 s
  obtain ⟨vb,rfl⟩:=hJ9
  have h:=Sl.round1 (p:=10) (V:=.agg (av ((aJ (K.getD kx z3).1).getD d9 aZ))) h rfl
  have hdl9:=hd9
  refine ae ?_
  refine bf (av aZ) h s cB rfl rfl ?_;intro f w1 b5 h s
  refine az 0 h s aC rfl rfl rfl (aj _) (aj _) (aS _) ?_;intro w1 s
  refine ah ?_
  refine bT ?_
  refine ⟨_,s.perm (List.perm_middle (l₁:=[_])),fun w3 s=>?_⟩
  refine wpIn_block ?_
  refine al fun K5 hK5=>?_
  cases l1:(cx l ((aJ (K.getD kx z3).1).getD d9 aZ).1:Bool)
  ·skip
   refine ae ?_
   refine bR 5 h s jY rfl rfl (rfl) rfl ?_;intro f h
   refine ac h (ai aH (h.ev rfl)) rfl ?_;intro f h
   refine aq (am (aL.of_own s 1 rfl) 0 (aP _)) h bw rfl rfl ?_;intro f h
   refine aI h s rt (aM (.bool false) (lD nos bm ((aJ (K.getD kx z3).1).getD d9 aZ).1 _ (s.get 8 rfl)) (congrArg Value.bool ((hal _).trans l1))) rfl rfl ?_;intro f w1 v9 hT hE h s;obtain rfl:=hT
   refine ac h (aw (.bool true) (bB (h.ev rfl)) rfl) rfl ?_;intro f h
   refine ah ?_
   refine hK5 _ _ ?_
   refine wpIn_cond_true (h.ev rfl) ?_
   refine ae ?_
   refine bR 4 h s sk rfl rfl (rfl) rfl ?_;intro f h
   refine ac h (ai aH (h.ev rfl)) rfl ?_;intro f h
   refine aq (am (aL.of_own s 1 rfl) 0 (aP _)) h bw rfl rfl ?_;intro f h
   refine cm (vs:=[.int .i64 ((aJ (K.getD kx z3).1).getD d9 aZ).1]) [.tmp 18] h s Tryz.underlying78 yt rfl rfl (by simp [Value.cells]) rfl rfl rfl ?_;intro f w1 v19 h s
   refine dP 4 0 h s Tryz.underlying78 yt rfl rfl rfl rfl (by decide) (by simp [Value.oneCell',Value.cells]) (by have h9:=ny l (K.getD kx z3).1 d9;unfold maxLen;omega) (by have h9:=ny l (K.getD kx z3).1 d9;omega) rfl ?_;intro f w1 v20 h s
   replace s:=s.pick _ (List.sublist_cons_self _ _)
   replace s:=s.resl (m:=(hU l (K.getD kx z3).1 (d9+1)).length) (ys:=(hU l (K.getD kx z3).1 (d9+1)).map (Value.int .i64)) 3 rfl (by rw [wP hdl9 l1,List.length_append];rfl) (by rw [wP hdl9 l1,List.map_append];simp [Value.cells])
   refine br 4 h s sk rfl rfl rfl (by simp) (aQ (s.getSl 3 rfl)) ?_;intro w1 s
   refine ah ?_
   refine bF ?_
   refine ⟨rfl,_,⟨v20,rfl⟩,s.pick _ ?_⟩
   exact List.Sublist.cons_cons _ (List.Sublist.cons _ (List.Sublist.refl _))
  ·skip
   refine ae ?_
   refine bR 5 h s jY rfl rfl (rfl) rfl ?_;intro f h
   refine ac h (ai aH (h.ev rfl)) rfl ?_;intro f h
   refine aq (am (aL.of_own s 1 rfl) 0 (aP _)) h bw rfl rfl ?_;intro f h
   refine aI h s rt (aM (.bool true) (lD nos bm ((aJ (K.getD kx z3).1).getD d9 aZ).1 _ (s.get 8 rfl)) (congrArg Value.bool ((hal _).trans l1))) rfl rfl ?_;intro f w1 v9 hT hE h s;obtain rfl:=hT
   refine ac h (aw (.bool false) (bB (h.ev rfl)) rfl) rfl ?_;intro f h
   refine ah ?_
   refine hK5 _ _ ?_
   refine wpIn_cond_false (h.ev rfl) ?_
   refine wpIn_skip ?_
   refine bF ?_
   replace s:=s.resl (m:=(hU l (K.getD kx z3).1 (d9+1)).length) (ys:=(hU l (K.getD kx z3).1 (d9+1)).map (Value.int .i64)) 3 rfl (by rw [wA hdl9 l1]) (by rw [wA hdl9 l1])
   refine ⟨rfl,_,⟨vb,rfl⟩,s.pick _ ?_⟩
   exact List.Sublist.cons_cons _ (List.Sublist.cons _ (List.Sublist.refl _))
 ·intro D9 A9 w2 hJ9 hq9 s
  obtain ⟨vb,rfl⟩:=hJ9
  replace h:Sl _ {f with defers:={target:=.collected D9,args:=#[]}::f.defers} _ [{target:=.collected D9,args:=#[]}]:=⟨h.size,by rw [h.defers],h.holds⟩
  rw [pH] at s
  have hdw:(f3 l (K.getD kx z3).1).length≤1000:=by have h9:=ny l (K.getD kx z3).1 (aJ (K.getD kx z3).1).length;rw [pH] at h9;omega
  refine bF ?_
  refine hK3 _ _ ?_
  replace s:=s.bring 6 rfl
  replace s:St w0 (.sl vq 42 68 K.length (aG K)::.blk D9 (.deferred (some []))::.blk bv (.cells (#[vk]) 36)::.sl vk 28 33 (aJ (K.getD kx z3).1).length (ar (aJ (K.getD kx z3).1))::.sl vb 3 1 (f3 l (K.getD kx z3).1).length ((f3 l (K.getD kx z3).1).map (Value.int .i64))::.blk b4 (.cells (#[vb]) 78)::.blk b3 (.cells (#[.map (some bm)]) 84)::(.grp ks (c6 K))::.blk bm (d5 nos)::B9) _:=s
  have hrr:=qP.2 hrn
  have htd:AN (K.getD kx z3).1 (f3 l (K.getD kx z3).1)=(eE l (K.getD kx z3).1):=(ms _ hrr).1.trans (AK hrn).symm
  have hde:AY (K.getD kx z3).1=0:=(ms [] hrr).2
  refine nX 1 [[],[],[1],[1,2],[],[1,2,3,4],[1,2,3,4,5],[1,2,3,4,5,6],[1,2,3,4,5,6],[0,1,2,3,4,5,6,7],[0,1,2,3,4,5,6,7,9]] [[],[],[],[11],[],[],[],[],[],[],[3]] [fun _=>[],fun _=>[],fun _=>[],fun v=>[.sl vq 42 68 K.length (aG K)],fun _=>[],fun v=>[.sl (bI 66 (v 5)) 28 33 (eE l (K.getD kx z3).1).sc.length (ar (eE l (K.getD kx z3).1).sc),.sl (bI 67 (v 5)) 28 33 (eE l (K.getD kx z3).1).fg.length (ar (eE l (K.getD kx z3).1).fg)],fun _=>[],fun _=>[],fun _=>[],fun _=>[],fun v=>[.sl vq 42 68 (K.set kx (((eE l (K.getD kx z3).1),(bI 66 (v 5)),(bI 67 (v 5))):N3)).length (aG (K.set kx (((eE l (K.getD kx z3).1),(bI 66 (v 5)),(bI 67 (v 5))):N3)))]] [[.sl vq 42 68 K.length (aG K)]] [fun v=>v 0=.pointer (some (a2 vq (kx*68))),fun v=>v 1=.pointer (some (a2 vq (kx*68))),fun v=>v 2=.pointer (some (a2 vq (kx*68))),fun v=>v 3=.agg (ay (K.getD kx z3).1.me (K.getD kx z3).1.pr (K.getD kx z3).2.1 (K.getD kx z3).2.2),fun v=>v 4=vb,fun v=>v 5=.tuple #[.agg (ay (eE l (K.getD kx z3).1).me (eE l (K.getD kx z3).1).pr (bI 66 (v 5)) (bI 67 (v 5))),.int .i64 0],fun v=>v 6=.tuple #[.agg (ay (eE l (K.getD kx z3).1).me (eE l (K.getD kx z3).1).pr (bI 66 (v 5)) (bI 67 (v 5))),.int .i64 0],fun v=>v 7=.agg (ay (eE l (K.getD kx z3).1).me (eE l (K.getD kx z3).1).pr (bI 66 (v 5)) (bI 67 (v 5))),fun v=>v 8=.int .i64 0,fun v=>v 9=.pointer (some (a2 vq (kx*68))),fun _=>True] (.blk D9 (.deferred (some []))::.blk bv (.cells (#[vk]) 36)::.sl vk 28 33 (aJ (K.getD kx z3).1).length (ar (aJ (K.getD kx z3).1))::.sl vb 3 1 (f3 l (K.getD kx z3).1).length ((f3 l (K.getD kx z3).1).map (Value.int .i64))::.blk b4 (.cells (#[vb]) 78)::.blk b3 (.cells (#[.map (some bm)]) 84)::(.grp ks (c6 K))::.blk bm (d5 nos)::B9) h s rfl (by kernel_rfl) (by kernel_rfl) (by kernel_rfl) (And.intro ?_ (And.intro ?_ (And.intro ?_ (And.intro ?_ (And.intro ?_ (And.intro ?_ (And.intro ?_ (And.intro ?_ (And.intro ?_ (And.intro ?_ (And.intro ?_ (trivial)))))))))))) [0,1,2,4,5,6,7,8,9,10] (by kernel_rfl) ?_
  ·intro f9 w2 vl6 E9 hs9 hd9 hl hF s
   have e0:f9.tmps.getD 0 undef=_:=dt hl 0 (by kernel_rfl) (by kernel_rfl) (h.holds 0 _ rfl)
   have h:=aE [(0,_)] (hs9.trans h.size) (hd9.trans h.defers) (holds_lk ⟨e0,trivial⟩)
   replace s:St w0 (.blk D9 (.deferred (some []))::.blk bv (.cells (#[vk]) 36)::.sl vk 28 33 (aJ (K.getD kx z3).1).length (ar (aJ (K.getD kx z3).1))::.sl vb 3 1 (f3 l (K.getD kx z3).1).length ((f3 l (K.getD kx z3).1).map (Value.int .i64))::.blk b4 (.cells (#[vb]) 78)::.blk b3 (.cells (#[.map (some bm)]) 84)::(.grp ks (c6 K))::.blk bm (d5 nos)::(B9++E9)) _:=s
   refine ac h (ag (h.ev rfl)) rfl ?_;intro f h
   exact ah ⟨_,bY 22 rfl (h.holds 22 _ rfl),rfl,s⟩
  ·intro f9 w2 vl6 E9 hs9 hd9 hl hF s
   have e0:f9.tmps.getD 0 undef=_:=dt hl 0 (by kernel_rfl) (by kernel_rfl) (h.holds 0 _ rfl)
   have h:=aE [(0,_)] (hs9.trans h.size) (hd9.trans h.defers) (holds_lk ⟨e0,trivial⟩)
   replace s:St w0 (.blk D9 (.deferred (some []))::.blk bv (.cells (#[vk]) 36)::.sl vk 28 33 (aJ (K.getD kx z3).1).length (ar (aJ (K.getD kx z3).1))::.sl vb 3 1 (f3 l (K.getD kx z3).1).length ((f3 l (K.getD kx z3).1).map (Value.int .i64))::.blk b4 (.cells (#[vb]) 78)::.blk b3 (.cells (#[.map (some bm)]) 84)::(.grp ks (c6 K))::.blk bm (d5 nos)::(B9++E9)) _:=s
   refine ac h (ag (h.ev rfl)) rfl ?_;intro f h
   exact ah ⟨_,bY 23 rfl (h.holds 23 _ rfl),rfl,s⟩
  ·intro f9 w2 vl6 E9 hs9 hd9 hl hF s
   have e23:f9.tmps.getD 23 undef=.pointer (some (a2 vq (kx*68))):=(cd hl 23 1 (by kernel_rfl) (by kernel_rfl)).trans (hF 1 (by decide))
   have h:=aE [(23,.pointer (some (a2 vq (kx*68))))] (hs9.trans h.size) (hd9.trans h.defers) (holds_lk ⟨e23,trivial⟩)
   replace s:St w0 (.blk D9 (.deferred (some []))::.blk bv (.cells (#[vk]) 36)::.sl vk 28 33 (aJ (K.getD kx z3).1).length (ar (aJ (K.getD kx z3).1))::.sl vb 3 1 (f3 l (K.getD kx z3).1).length ((f3 l (K.getD kx z3).1).map (Value.int .i64))::.blk b4 (.cells (#[vb]) 78)::.blk b3 (.cells (#[.map (some bm)]) 84)::(.grp ks (c6 K))::.blk bm (d5 nos)::(B9++E9)) _:=s
   refine ac h (bz (h.ev rfl)) rfl ?_;intro f h
   exact ah ⟨_,bY 24 rfl (h.holds 24 _ rfl),rfl,s⟩
  ·intro f9 w2 vl6 E9 hs9 hd9 hl hF s
   have e24:f9.tmps.getD 24 undef=.pointer (some (a2 vq (kx*68))):=(cd hl 24 2 (by kernel_rfl) (by kernel_rfl)).trans (hF 2 (by decide))
   have h:=aE [(24,.pointer (some (a2 vq (kx*68))))] (hs9.trans h.size) (hd9.trans h.defers) (holds_lk ⟨e24,trivial⟩)
   replace s:St w0 (.sl vq 42 68 K.length (aG K)::.blk D9 (.deferred (some []))::.blk bv (.cells (#[vk]) 36)::.sl vk 28 33 (aJ (K.getD kx z3).1).length (ar (aJ (K.getD kx z3).1))::.sl vb 3 1 (f3 l (K.getD kx z3).1).length ((f3 l (K.getD kx z3).1).map (Value.int .i64))::.blk b4 (.cells (#[vb]) 78)::.blk b3 (.cells (#[.map (some bm)]) 84)::(.grp ks (c6 K))::.blk bm (d5 nos)::(B9++E9)) _:=s
   refine ax ((bX.of_own (s.getSl 0 rfl)).el (kx) (by omega) (by decide) (D:=ay (K.getD kx z3).1.me (K.getD kx z3).1.pr (K.getD kx z3).2.1 (K.getD kx z3).2.2) (df K kx hk)) h aW rfl (ap _ _ _ _) rfl ?_;intro f h
   exact ah ⟨_,bY 25 rfl (h.holds 25 _ rfl),rfl,s⟩
  ·intro f9 w2 vl6 E9 hs9 hd9 hl hF s
   have e4:f9.tmps.getD 4 undef=_:=dt hl 4 (by kernel_rfl) (by kernel_rfl) (h.holds 4 _ rfl)
   have h:=aE [(4,_)] (hs9.trans h.size) (hd9.trans h.defers) (holds_lk ⟨e4,trivial⟩)
   replace s:St w0 (.blk D9 (.deferred (some []))::.blk bv (.cells (#[vk]) 36)::.sl vk 28 33 (aJ (K.getD kx z3).1).length (ar (aJ (K.getD kx z3).1))::.sl vb 3 1 (f3 l (K.getD kx z3).1).length ((f3 l (K.getD kx z3).1).map (Value.int .i64))::.blk b4 (.cells (#[vb]) 78)::.blk b3 (.cells (#[.map (some bm)]) 84)::(.grp ks (c6 K))::.blk bm (d5 nos)::(B9++E9)) _:=s
   refine bR 4 h s sk rfl rfl (rfl) rfl ?_;intro f h
   exact ah ⟨_,bY 26 rfl (h.holds 26 _ rfl),rfl,s⟩
  ·intro f9 w2 vl6 E9 hs9 hd9 hl hF s
   have e25:f9.tmps.getD 25 undef=.agg (ay (K.getD kx z3).1.me (K.getD kx z3).1.pr (K.getD kx z3).2.1 (K.getD kx z3).2.2):=(cd hl 25 3 (by kernel_rfl) (by kernel_rfl)).trans (hF 3 (by decide))
   have e26:f9.tmps.getD 26 undef=vb:=(cd hl 26 4 (by kernel_rfl) (by kernel_rfl)).trans (hF 4 (by decide))
   have h:=aE [(25,.agg (ay (K.getD kx z3).1.me (K.getD kx z3).1.pr (K.getD kx z3).2.1 (K.getD kx z3).2.2)),(26,vb)] (hs9.trans h.size) (hd9.trans h.defers) (holds_lk ⟨e25,e26,trivial⟩)
   replace s:St w0 (.blk D9 (.deferred (some []))::.blk bv (.cells (#[vk]) 36)::.sl vk 28 33 (aJ (K.getD kx z3).1).length (ar (aJ (K.getD kx z3).1))::.sl vb 3 1 (f3 l (K.getD kx z3).1).length ((f3 l (K.getD kx z3).1).map (Value.int .i64))::.blk b4 (.cells (#[vb]) 78)::.blk b3 (.cells (#[.map (some bm)]) 84)::(.grp ks (c6 K))::.blk bm (d5 nos)::(B9++E9)) _:=s
   refine aI h s zH (nl (K.getD kx z3).1 (K.getD kx z3).2.1 (K.getD kx z3).2.2 (f3 l (K.getD kx z3).1) vb _ (s.getG 6 rfl _ (bu hk)).1 (s.getG 6 rfl _ (bu hk)).2 (by omega) (by omega) (bX.of_own (s.getSl 3 rfl)) (by omega)) rfl rfl ?_;rintro f w1 v27 ⟨cu,cv,hv9,hS⟩ hE h sq;rw [htd,hde] at hv9;rw [htd] at hS;replace s:=s.add hS
   have h66:cu=bI 66 v27:=by rw [hv9];exact(uc (bX.of_own (hS.getSl 0 rfl))).symm
   have h67:cv=bI 67 v27:=by rw [hv9];exact(vO (bX.of_own (hS.getSl 1 rfl))).symm
   clear hS
   subst h66;subst h67
   exact ah ⟨_,bY 27 rfl (h.holds 27 _ rfl),hv9,s⟩
  ·intro f9 w2 vl6 E9 hs9 hd9 hl hF s
   have e27:f9.tmps.getD 27 undef=.tuple #[.agg (ay (eE l (K.getD kx z3).1).me (eE l (K.getD kx z3).1).pr (bI 66 (vl6 5)) (bI 67 (vl6 5))),.int .i64 0]:=(cd hl 27 5 (by kernel_rfl) (by kernel_rfl)).trans (hF 5 (by decide))
   have h:=aE [(27,.tuple #[.agg (ay (eE l (K.getD kx z3).1).me (eE l (K.getD kx z3).1).pr (bI 66 (vl6 5)) (bI 67 (vl6 5))),.int .i64 0])] (hs9.trans h.size) (hd9.trans h.defers) (holds_lk ⟨e27,trivial⟩)
   replace s:St w0 (.blk D9 (.deferred (some []))::.blk bv (.cells (#[vk]) 36)::.sl vk 28 33 (aJ (K.getD kx z3).1).length (ar (aJ (K.getD kx z3).1))::.sl vb 3 1 (f3 l (K.getD kx z3).1).length ((f3 l (K.getD kx z3).1).map (Value.int .i64))::.blk b4 (.cells (#[vb]) 78)::.blk b3 (.cells (#[.map (some bm)]) 84)::(.grp ks (c6 K))::.blk bm (d5 nos)::(B9++E9)) _:=s
   refine ac h (ag (h.ev rfl)) rfl ?_;intro f h
   exact ah ⟨_,bY 21 rfl (h.holds 21 _ rfl),rfl,s⟩
  ·intro f9 w2 vl6 E9 hs9 hd9 hl hF s
   have e21:f9.tmps.getD 21 undef=.tuple #[.agg (ay (eE l (K.getD kx z3).1).me (eE l (K.getD kx z3).1).pr (bI 66 (vl6 5)) (bI 67 (vl6 5))),.int .i64 0]:=(cd hl 21 6 (by kernel_rfl) (by kernel_rfl)).trans (hF 6 (by decide))
   have h:=aE [(21,.tuple #[.agg (ay (eE l (K.getD kx z3).1).me (eE l (K.getD kx z3).1).pr (bI 66 (vl6 5)) (bI 67 (vl6 5))),.int .i64 0])] (hs9.trans h.size) (hd9.trans h.defers) (holds_lk ⟨e21,trivial⟩)
   replace s:St w0 (.blk D9 (.deferred (some []))::.blk bv (.cells (#[vk]) 36)::.sl vk 28 33 (aJ (K.getD kx z3).1).length (ar (aJ (K.getD kx z3).1))::.sl vb 3 1 (f3 l (K.getD kx z3).1).length ((f3 l (K.getD kx z3).1).map (Value.int .i64))::.blk b4 (.cells (#[vb]) 78)::.blk b3 (.cells (#[.map (some bm)]) 84)::(.grp ks (c6 K))::.blk bm (d5 nos)::(B9++E9)) _:=s
   refine ac h (bG (h.ev rfl) rfl) rfl ?_;intro f h
   exact ah ⟨_,bY 28 rfl (h.holds 28 _ rfl),rfl,s⟩
  ·intro f9 w2 vl6 E9 hs9 hd9 hl hF s
   have e21:f9.tmps.getD 21 undef=.tuple #[.agg (ay (eE l (K.getD kx z3).1).me (eE l (K.getD kx z3).1).pr (bI 66 (vl6 5)) (bI 67 (vl6 5))),.int .i64 0]:=(cd hl 21 6 (by kernel_rfl) (by kernel_rfl)).trans (hF 6 (by decide))
   have h:=aE [(21,.tuple #[.agg (ay (eE l (K.getD kx z3).1).me (eE l (K.getD kx z3).1).pr (bI 66 (vl6 5)) (bI 67 (vl6 5))),.int .i64 0])] (hs9.trans h.size) (hd9.trans h.defers) (holds_lk ⟨e21,trivial⟩)
   replace s:St w0 (.blk D9 (.deferred (some []))::.blk bv (.cells (#[vk]) 36)::.sl vk 28 33 (aJ (K.getD kx z3).1).length (ar (aJ (K.getD kx z3).1))::.sl vb 3 1 (f3 l (K.getD kx z3).1).length ((f3 l (K.getD kx z3).1).map (Value.int .i64))::.blk b4 (.cells (#[vb]) 78)::.blk b3 (.cells (#[.map (some bm)]) 84)::(.grp ks (c6 K))::.blk bm (d5 nos)::(B9++E9)) _:=s
   refine ac h (bG (h.ev rfl) rfl) rfl ?_;intro f h
   exact ah ⟨_,bY 29 rfl (h.holds 29 _ rfl),rfl,s⟩
  ·intro f9 w2 vl6 E9 hs9 hd9 hl hF s
   have e22:f9.tmps.getD 22 undef=.pointer (some (a2 vq (kx*68))):=(cd hl 22 0 (by kernel_rfl) (by kernel_rfl)).trans (hF 0 (by decide))
   have h:=aE [(22,.pointer (some (a2 vq (kx*68))))] (hs9.trans h.size) (hd9.trans h.defers) (holds_lk ⟨e22,trivial⟩)
   replace s:St w0 (.blk D9 (.deferred (some []))::.blk bv (.cells (#[vk]) 36)::.sl vk 28 33 (aJ (K.getD kx z3).1).length (ar (aJ (K.getD kx z3).1))::.sl vb 3 1 (f3 l (K.getD kx z3).1).length ((f3 l (K.getD kx z3).1).map (Value.int .i64))::.blk b4 (.cells (#[vb]) 78)::.blk b3 (.cells (#[.map (some bm)]) 84)::(.grp ks (c6 K))::.blk bm (d5 nos)::(B9++E9)) _:=s
   refine ac h (bz (h.ev rfl)) rfl ?_;intro f h
   exact ah ⟨_,bY 30 rfl (h.holds 30 _ rfl),rfl,s⟩
  ·intro f9 w2 vl6 E9 hs9 hd9 hl hF s
   have e30:f9.tmps.getD 30 undef=.pointer (some (a2 vq (kx*68))):=(cd hl 30 9 (by kernel_rfl) (by kernel_rfl)).trans (hF 9 (by decide))
   have e28:f9.tmps.getD 28 undef=.agg (ay (eE l (K.getD kx z3).1).me (eE l (K.getD kx z3).1).pr (bI 66 (vl6 5)) (bI 67 (vl6 5))):=(cd hl 28 7 (by kernel_rfl) (by kernel_rfl)).trans (hF 7 (by decide))
   have h:=aE [(30,.pointer (some (a2 vq (kx*68)))),(28,.agg (ay (eE l (K.getD kx z3).1).me (eE l (K.getD kx z3).1).pr (bI 66 (vl6 5)) (bI 67 (vl6 5))))] (hs9.trans h.size) (hd9.trans h.defers) (holds_lk ⟨e30,e28,trivial⟩)
   replace s:St w0 (.sl vq 42 68 K.length (aG K)::.blk D9 (.deferred (some []))::.blk bv (.cells (#[vk]) 36)::.sl vk 28 33 (aJ (K.getD kx z3).1).length (ar (aJ (K.getD kx z3).1))::.sl vb 3 1 (f3 l (K.getD kx z3).1).length ((f3 l (K.getD kx z3).1).map (Value.int .i64))::.blk b4 (.cells (#[vb]) 78)::.blk b3 (.cells (#[.map (some bm)]) 84)::(.grp ks (c6 K))::.blk bm (d5 nos)::(B9++E9)) _:=s
   refine eX 0 (kx) h s aW rfl rfl rfl (ap _ _ _ _) (by omega) (a7 (lf _ _) (lf _ _)) (show _=aG (K.set kx (((eE l (K.getD kx z3).1),(bI 66 (vl6 5)),(bI 67 (vl6 5))):N3)) from qq hk (((eE l (K.getD kx z3).1),(bI 66 (vl6 5)),(bI 67 (vl6 5))):N3)) ?_;intro w1 s
   replace s:=s.resl (m:=(K.set kx (((eE l (K.getD kx z3).1),(bI 66 (vl6 5)),(bI 67 (vl6 5))):N3)).length) (ys:=aG (K.set kx (((eE l (K.getD kx z3).1),(bI 66 (vl6 5)),(bI 67 (vl6 5))):N3))) 0 rfl (by rw [List.length_set]) rfl
   exact ah ⟨undef,ly rfl,trivial,s⟩
  intro f w1 vl6 hs9 hd9 hv hr hF s
  replace h:=rp (ops:=_) [(22,.pointer (some (a2 vq (kx*68)))),(23,.pointer (some (a2 vq (kx*68)))),(24,.pointer (some (a2 vq (kx*68)))),(25,.agg (ay (K.getD kx z3).1.me (K.getD kx z3).1.pr (K.getD kx z3).2.1 (K.getD kx z3).2.2)),(26,vb),(27,.tuple #[.agg (ay (eE l (K.getD kx z3).1).me (eE l (K.getD kx z3).1).pr (bI 66 (vl6 5)) (bI 67 (vl6 5))),.int .i64 0]),(21,.tuple #[.agg (ay (eE l (K.getD kx z3).1).me (eE l (K.getD kx z3).1).pr (bI 66 (vl6 5)) (bI 67 (vl6 5))),.int .i64 0]),(28,.agg (ay (eE l (K.getD kx z3).1).me (eE l (K.getD kx z3).1).pr (bI 66 (vl6 5)) (bI 67 (vl6 5)))),(29,.int .i64 0),(30,.pointer (some (a2 vq (kx*68))))] h hs9 hd9 hr ⟨(hv 0 22 rfl).trans (hF 0 (by kernel_rfl)),(hv 1 23 rfl).trans (hF 1 (by kernel_rfl)),(hv 2 24 rfl).trans (hF 2 (by kernel_rfl)),(hv 3 25 rfl).trans (hF 3 (by kernel_rfl)),(hv 4 26 rfl).trans (hF 4 (by kernel_rfl)),(hv 5 27 rfl).trans (hF 5 (by kernel_rfl)),(hv 6 21 rfl).trans (hF 6 (by kernel_rfl)),(hv 7 28 rfl).trans (hF 7 (by kernel_rfl)),(hv 8 29 rfl).trans (hF 8 (by kernel_rfl)),(hv 9 30 rfl).trans (hF 9 (by kernel_rfl)),trivial⟩ (by kernel_rfl)
  replace s:St w0 (.sl (bI 66 (vl6 5)) 28 33 (eE l (K.getD kx z3).1).sc.length (ar (eE l (K.getD kx z3).1).sc)::.sl (bI 67 (vl6 5)) 28 33 (eE l (K.getD kx z3).1).fg.length (ar (eE l (K.getD kx z3).1).fg)::.sl vq 42 68 (K.set kx (((eE l (K.getD kx z3).1),(bI 66 (vl6 5)),(bI 67 (vl6 5))):N3)).length (aG (K.set kx (((eE l (K.getD kx z3).1),(bI 66 (vl6 5)),(bI 67 (vl6 5))):N3)))::.blk D9 (.deferred (some []))::.blk bv (.cells (#[vk]) 36)::.sl vk 28 33 (aJ (K.getD kx z3).1).length (ar (aJ (K.getD kx z3).1))::.sl vb 3 1 (f3 l (K.getD kx z3).1).length ((f3 l (K.getD kx z3).1).map (Value.int .i64))::.blk b4 (.cells (#[vb]) 78)::.blk b3 (.cells (#[.map (some bm)]) 84)::(.grp ks (c6 K))::.blk bm (d5 nos)::B9) _:=s
  replace s:=s.bring 9 rfl
  replace s:=s.bring 2 rfl
  replace s:=s.bring 2 rfl
  replace s:St w0 (.sl (bI 66 (vl6 5)) 28 33 (eE l (K.getD kx z3).1).sc.length (ar (eE l (K.getD kx z3).1).sc)::.sl (bI 67 (vl6 5)) 28 33 (eE l (K.getD kx z3).1).fg.length (ar (eE l (K.getD kx z3).1).fg)::(.grp ks (c6 K))::.sl vq 42 68 (K.set kx (((eE l (K.getD kx z3).1),(bI 66 (vl6 5)),(bI 67 (vl6 5))):N3)).length (aG (K.set kx (((eE l (K.getD kx z3).1),(bI 66 (vl6 5)),(bI 67 (vl6 5))):N3)))::.blk D9 (.deferred (some []))::.blk bv (.cells (#[vk]) 36)::.sl vk 28 33 (aJ (K.getD kx z3).1).length (ar (aJ (K.getD kx z3).1))::.sl vb 3 1 (f3 l (K.getD kx z3).1).length ((f3 l (K.getD kx z3).1).map (Value.int .i64))::.blk b4 (.cells (#[vb]) 78)::.blk b3 (.cells (#[.map (some bm)]) 84)::.blk bm (d5 nos)::B9) _:=s
  obtain ⟨kn,s⟩:=s.grpR (S':=c6 (K.set kx (((eE l (K.getD kx z3).1),(bI 66 (vl6 5)),(bI 67 (vl6 5))):N3))) (fun w9 h1 h2 h3=>nT h3 ⟨h1,h2⟩)
  replace s:=s.bring 8 rfl
  replace s:=s.bring 1 rfl
  replace s:=s.bring 2 rfl
  replace s:St w0 (.sl vq 42 68 (K.set kx (((eE l (K.getD kx z3).1),(bI 66 (vl6 5)),(bI 67 (vl6 5))):N3)).length (aG (K.set kx (((eE l (K.getD kx z3).1),(bI 66 (vl6 5)),(bI 67 (vl6 5))):N3)))::(.grp kn (c6 (K.set kx (((eE l (K.getD kx z3).1),(bI 66 (vl6 5)),(bI 67 (vl6 5))):N3))))::.blk bm (d5 nos)::.blk D9 (.deferred (some []))::.blk bv (.cells (#[vk]) 36)::.sl vk 28 33 (aJ (K.getD kx z3).1).length (ar (aJ (K.getD kx z3).1))::.sl vb 3 1 (f3 l (K.getD kx z3).1).length ((f3 l (K.getD kx z3).1).map (Value.int .i64))::.blk b4 (.cells (#[vb]) 78)::.blk b3 (.cells (#[.map (some bm)]) 84)::B9) _:=s
  exact ox 3 rfl h s rfl (fun w9 s9=>⟨_,rfl,_,_,kn,(s9.pick _ (List.Sublist.cons_cons _ (List.Sublist.cons_cons _ (List.Sublist.cons_cons _ (List.Sublist.cons _ (List.Sublist.cons _ (List.Sublist.cons _ (List.Sublist.cons _ (List.Sublist.cons _ (List.Sublist.cons _ (List.Sublist.refl _)))))))))))⟩)
 ·intro D9 d9 A9 w2 hd9 hqd9 hq9 hJ9 s
  cases hqd9
end Go.Proofs.YthggibfkgofncaaGreat
