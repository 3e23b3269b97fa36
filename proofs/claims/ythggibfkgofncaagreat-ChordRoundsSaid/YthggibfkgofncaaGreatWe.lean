/- Who lives; who does not live is dropped. -/
import Derived.Test.YthggibfkgofncaaGreatWc
import Derived.Test.YthggibfkgofncaaGreatWd
set_option linter.unusedVariables false
set_option linter.unusedSimpArgs false
set_option linter.unusedSectionVars false
namespace Go.Proofs.YthggibfkgofncaaGreat
open Go.RowKit
theorem lc (ks:List Int) (bm:Nat) (no:Int) (w:World) (hm:w.heap[bm]? = some (cZ ks)):Calls Tryz.prog 89 [.map (some bm),.int .i64 no].toArray w (cO w (is (.bool (decide (no∈ks))))):=by
 refine bh Tryz.func89 rfl Tryz.ntmps89 rfl [(0,.map (some bm)),(1,.int .i64 no)] (by simp) fun f h=>?_
 have s:=St.start w
 refine ak fun K1 hK1=>?_
 refine ag ?_
 refine ac h (aj (h.ev rfl)) rfl ?_;intro f h
 refine ai ?_
 refine hK1 _ _ ?_
 refine ak fun K2 hK2=>?_
 refine ag ?_
 refine ac h (ah (h.ev rfl)) rfl ?_;intro f h
 refine ac h (ah (h.ev rfl)) rfl ?_;intro f h
 refine q6 (V:=.agg #[]) (ok:=decide (no∈ks)) h (nf hm s.ext) Tryz.underlying84 Tryz.underlying3 rJ rfl rfl (wX ks no) rfl ?_;intro f h
 refine ac h (ah (h.ev rfl)) rfl ?_;intro f h
 refine ac h (aW (h.ev rfl) rfl) rfl ?_;intro f h
 refine ac h (aW (h.ev rfl) rfl) rfl ?_;intro f h
 refine bi (#[]) h s rJ rfl rfl ?_;intro f w1 b5 h s
 refine aA 0 h s zI rfl rfl rfl (rfl) (rfl) (fun _ h=>by cases h) ?_;intro w1 s
 refine ac h (aj (h.ev rfl)) rfl ?_;intro f h
 refine ai ?_
 refine hK2 _ _ ?_
 refine ak fun K3 hK3=>?_
 refine ag ?_
 refine ac h (ah (h.ev rfl)) rfl ?_;intro f h
 refine ac h (aj (h.ev rfl)) rfl ?_;intro f h
 refine ai ?_
 refine hK3 _ _ ?_
 refine wpIn_ret ?_
 exact bu rfl h s rfl (rfl)
theorem p7 (L:List N3) (vo:Value) (w:World) (hO:cI w vo L) (hL:L.length≤40) (hd:L.Pairwise fun a b=>a.1.me.1≠b.1.me.1):Calls Tryz.prog 64 [.agg #[vo]].toArray w (cO w (fun v w9=>∃ bm,v=.map (some bm)∧St w [.blk bm (cZ (bJ L))] w9)):=by
 refine dZ Tryz.func64 rfl Tryz.ntmps64 rfl [(0,.agg #[vo])] (by simp) fun f h=>?_
 have s:=St.start w
 refine ak fun K1 hK1=>?_
 refine ag ?_
 refine bR (#[vo]) h s rfl rfl rfl ?_;intro f w1 b1 h s
 refine ac h (aj (h.ev rfl)) rfl ?_;intro f h
 refine ai ?_
 refine hK1 _ _ ?_
 refine ak fun K2 hK2=>?_
 refine ag ?_
 refine so h s rfl ?_;intro f w1 b5 h s
 refine bi (#[.map none]) h s Af rfl rfl ?_;intro f w1 b3 h s
 refine bk 0 h s pU rfl rfl rfl (by simp) (rfl) ?_;intro w1 s
 refine ai ?_
 refine hK2 _ _ ?_
 refine ak fun K3 hK3=>?_
 refine ak fun K4 hK4=>?_
 refine ag ?_
 refine ay 2 h s a7 rfl rfl (rfl) rfl ?_;intro f h
 refine cV [.agg #[vo]] h ko (eV vo _ _ _ s) rfl rfl ?_;rintro f w1 r ⟨bn,rfl,s⟩ h
 refine ai ?_
 refine hK4 _ _ ?_
 refine wpIn_block ?_
 refine dJ (fun d A9=>A9=[.blk b3 (.cells #[.map (some b5)] 84),.blk b5 (cZ (bJ (L.take d))),.blk b1 (.cells #[vo] 24)]) [.blk b3 (.cells #[.map (some b5)] 84),.blk b5 (cZ (bJ (L.take 0))),.blk b1 (.cells #[vo] 24)] [.blk bn (.cells #[vo] 24)] (L.length) (fun _=>false) (fun d=>[Value.pointer (some (aF vo (d*68)))]) h s rfl kv (List.Perm.refl _) (rfl) (fun _=>rfl) ?_ ?_ ?_ ?_
 ·intro lp w2 GG g0 hg0 s2 hY;exact ep L.length (by omega) vo _ _ hO.1 lp bn (fun _=>false) GG g0 w w2 s2 hg0 hY
 ·intro lp D9 d9 rc R9 A9 w2 hd9 hq9 hJ9 s
  obtain rfl:=hJ9
  have h:=Sl.round1 (p:=8) (V:=.pointer (some (aF vo (d9*68)))) h rfl
  have hdl9:=hd9
  refine ag ?_
  refine ac h (aj (h.ev rfl)) rfl ?_;intro f h
  refine ai ?_
  refine ca ?_
  refine ⟨_,s,fun w3 s=>?_⟩
  refine wpIn_block ?_
  refine bG 7 [[],[],[1],[1,2],[1,2,3],[1,2,3,4],[]] h (by kernel_rfl) (by kernel_rfl) (by kernel_rfl) ?_
  refine dD 2 h s pU rfl rfl (rfl) rfl ?_;intro f h
  refine ao h (ah (h.ev rfl)) rfl ?_;intro f h
  refine ao h (aZ (h.ev rfl)) rfl ?_;intro f h
  refine ao h (bB bA (h.ev rfl) ((hO.1.keep s.ext).some (by omega))) rfl ?_;intro f h
  refine ao h (bB aP (h.ev rfl) ((hO.1.keep s.ext).some (by omega))) rfl ?_;intro f h
  refine bz (V:=.int .i64 (L.getD d9 z3).1.me.1) (dq (hO.1.keep s.ext) (d9*68+0) (m8 L d9 hdl9)) h bV rfl rfl ?_;intro f h
  refine ao h (qr C3) rfl ?_;intro f h
  refine cn s fun w1 s=>?_
  refine tN 3 h s Tryz.underlying84 Tryz.underlying3 rfl rfl rfl rfl (oY (tK hd hdl9)) ?_;intro w1 s
  refine ai ?_
  refine bH ?_
  replace s:=s.reob9 (o':=cZ (bJ (L.take (d9+1)))) 3 rfl ((xT _ _).trans (by rw [wy hdl9]))
  refine ⟨rfl,_,rfl,s.pick _ ?_⟩
  exact List.Sublist.cons_cons _ (List.Sublist.refl _)
 ·intro D9 A9 w2 hJ9 hq9 s
  obtain rfl:=hJ9
  replace h:Sl _ {f with defers:={target:=.collected D9,args:=#[]}::f.defers} _ [{target:=.collected D9,args:=#[]}]:=⟨h.size,by rw [h.defers],h.holds⟩
  rw [List.take_length] at s
  refine bH ?_
  refine hK3 _ _ ?_
  refine ak fun K5 hK5=>?_
  refine ag ?_
  refine bX 2 h s pU rfl rfl (rfl) rfl ?_;intro f h
  refine ac h (aj (h.ev rfl)) rfl ?_;intro f h
  refine ai ?_
  refine hK5 _ _ ?_
  refine wpIn_ret ?_
  exact lx 0 rfl h s rfl rfl (fun w9 s9=>⟨b5,rfl,s9.sel [3] rfl (by decide)⟩)
 ·intro D9 d9 A9 w2 hd9 hqd9 hq9 hJ9 s
  cases hqd9
set_option maxHeartbeats 1000000 in
theorem n5 (K:List N3) (ks:List Nat) (nos:List Int) (l:List Mb) (vq:Value) (kx bm:Nat) (B9:List Own) (w0 w:World) (s:St w0 (.sl vq 42 68 K.length (aD K)::.grp ks (cD K)::.blk bm (cZ nos)::B9) w) (hk:kx<K.length) (hkl:K.length≤40) (hrn:RN (K.getD kx z3).1) (hbx:(K.getD kx z3).1.sc.length≤300∧(K.getD kx z3).1.fg.length≤300) (hal:∀ no,decide (no∈nos)=bP l no):Calls Tryz.prog 88 [.pointer (some (aF vq (kx*68))),.map (some bm)].toArray w (fun e w9=>∃ r,e=.returned r∧∃ du dv kn,St w0 (.sl vq 42 68 (K.set kx (((ar l (K.getD kx z3).1),du,dv):N3)).length (aD (K.set kx (((ar l (K.getD kx z3).1),du,dv):N3)))::.grp kn (cD (K.set kx (((ar l (K.getD kx z3).1),du,dv):N3)))::.blk bm (cZ nos)::B9) w9):=by
 have hkx:(aH (K.getD kx z3).1).length≤1000:=by simp only [aH,List.length_append,List.length_cons];omega
 refine tv Tryz.func88 rfl Tryz.ntmps88 rfl [(0,.pointer (some (aF vq (kx*68)))),(1,.map (some bm))] (by simp) fun f h=>?_
 refine ak fun K1 hK1=>?_
 refine ag ?_
 refine bR (#[.map (some bm)]) h s rfl rfl rfl ?_;intro f w1 b3 h s
 refine ai ?_
 refine hK1 _ _ ?_
 refine ak fun K2 hK2=>?_
 refine ag ?_
 refine bi (#[.slice none 0 0]) h s Bh rfl rfl ?_;intro f w1 b4 h s
 refine ai ?_
 refine hK2 _ _ ?_
 refine ak fun K3 hK3=>?_
 refine ak fun K4 hK4=>?_
 refine ag ?_
 refine ac h (ah (h.ev rfl)) rfl ?_;intro f h
 refine ac h (aZ (h.ev rfl)) rfl ?_;intro f h
 refine aI ((bO.of_own (s.getSl 2 rfl)).el (kx) (by omega) (by decide) (D:=au (K.getD kx z3).1.me (K.getD kx z3).1.pr (K.getD kx z3).2.1 (K.getD kx z3).2.2) (cR K kx hk)) h bw rfl (aw _ _ _ _) rfl ?_;intro f h
 replace s:=s.nilSl 3 1
 refine aK h s wG (iO (K.getD kx z3).1 (K.getD kx z3).2.1 (K.getD kx z3).2.2 _ ((s.getG 4 rfl _ (bj hk))).1 ((s.getG 4 rfl _ (bj hk))).2 (by omega) (by omega)) rfl rfl ?_;rintro f w1 r9 ⟨bv,vk,rfl,hS⟩ hE h sq;replace s:=s.add hS;clear hS
 refine ai ?_
 refine hK4 _ _ ?_
 refine wpIn_block ?_
 refine dJ (fun d A9=>∃ vb:Value,A9=(.sl vb 3 1 (gG l (K.getD kx z3).1 d).length ((gG l (K.getD kx z3).1 d).map (Value.int .i64))::.blk b4 (.cells #[vb] 78)::.blk b3 (.cells #[.map (some bm)] 84)::.sl vq 42 68 K.length (aD K)::.grp ks (cD K)::.blk bm (cZ nos)::B9)) (.sl (Value.slice none 0 0) 3 1 (gG l (K.getD kx z3).1 0).length ((gG l (K.getD kx z3).1 0).map (Value.int .i64))::.blk b4 (.cells #[(Value.slice none 0 0)] 78)::.blk b3 (.cells #[.map (some bm)] 84)::.sl vq 42 68 K.length (aD K)::.grp ks (cD K)::.blk bm (cZ nos)::B9) [.blk bv (.cells #[vk] 36),.sl vk 28 33 (aH (K.getD kx z3).1).length (am (aH (K.getD kx z3).1))] ((aH (K.getD kx z3).1).length) (fun _=>false) (fun d=>[Value.agg (av ((aH (K.getD kx z3).1).getD d ap))]) h s rfl nG (List.Perm.refl _) (⟨_,rfl⟩) (fun _=>rfl) ?_ ?_ ?_ ?_
 ·intro lp w2 GG g0 hg0 s2 hY;exact iK (aH (K.getD kx z3).1) hkx vk lp bv (fun _=>false) GG g0 w0 w2 s2 hg0 hY
 ·intro lp D9 d9 rc R9 A9 w2 hd9 hq9 hJ9 s
  obtain ⟨vb,rfl⟩:=hJ9
  have h:=Sl.round1 (p:=10) (V:=.agg (av ((aH (K.getD kx z3).1).getD d9 ap))) h rfl
  have hdl9:=hd9
  refine ag ?_
  refine bi (av ap) h s cF rfl rfl ?_;intro f w1 b5 h s
  refine aA 0 h s aJ rfl rfl rfl (al _) (al _) (aX _) ?_;intro w1 s
  refine ai ?_
  refine ca ?_
  refine ⟨_,s.perm (List.perm_middle (l₁:=[_])),fun w3 s=>?_⟩
  refine wpIn_block ?_
  refine ak fun K5 hK5=>?_
  cases l1:(bP l ((aH (K.getD kx z3).1).getD d9 ap).1:Bool)
  ·skip
   refine ag ?_
   refine bX 5 h s pU rfl rfl (rfl) rfl ?_;intro f h
   refine ac h (aq aP (h.ev rfl)) rfl ?_;intro f h
   refine aC (ax (bq.of_own s 1 rfl) 0 (aV _)) h bV rfl rfl ?_;intro f h
   refine aK h s rX (aT (.bool false) (lc nos bm ((aH (K.getD kx z3).1).getD d9 ap).1 _ (s.get 8 rfl)) (congrArg Value.bool ((hal _).trans l1))) rfl rfl ?_;intro f w1 v9 hT hE h s;obtain rfl:=hT
   refine ac h (aE (.bool true) (bI (h.ev rfl)) rfl) rfl ?_;intro f h
   refine ai ?_
   refine hK5 _ _ ?_
   refine wpIn_cond_true (h.ev rfl) ?_
   refine ag ?_
   refine bX 4 h s r5 rfl rfl (rfl) rfl ?_;intro f h
   refine ac h (aq aP (h.ev rfl)) rfl ?_;intro f h
   refine aC (ax (bq.of_own s 1 rfl) 0 (aV _)) h bV rfl rfl ?_;intro f h
   refine cW (vs:=[.int .i64 ((aH (K.getD kx z3).1).getD d9 ap).1]) [.tmp 18] h s Tryz.underlying78 BX rfl rfl (by simp [Value.cells]) rfl rfl rfl ?_;intro f w1 v19 h s
   refine eR 4 0 h s Tryz.underlying78 BX rfl rfl rfl rfl (by decide) (by simp [Value.oneCell',Value.cells]) (by have h9:=nO l (K.getD kx z3).1 d9;unfold maxLen;omega) (by have h9:=nO l (K.getD kx z3).1 d9;omega) rfl ?_;intro f w1 v20 h s
   replace s:=s.pick _ (List.sublist_cons_self _ _)
   replace s:=s.resl (m:=(gG l (K.getD kx z3).1 (d9+1)).length) (ys:=(gG l (K.getD kx z3).1 (d9+1)).map (Value.int .i64)) 3 rfl (by rw [uk hdl9 l1,List.length_append];rfl) (by rw [uk hdl9 l1,List.map_append];simp [Value.cells])
   refine bk 4 h s r5 rfl rfl rfl (by simp) (bo (s.getSl 3 rfl)) ?_;intro w1 s
   refine ai ?_
   refine bH ?_
   refine ⟨rfl,_,⟨v20,rfl⟩,s.pick _ ?_⟩
   exact List.Sublist.cons_cons _ (List.Sublist.cons _ (List.Sublist.refl _))
  ·skip
   refine ag ?_
   refine bX 5 h s pU rfl rfl (rfl) rfl ?_;intro f h
   refine ac h (aq aP (h.ev rfl)) rfl ?_;intro f h
   refine aC (ax (bq.of_own s 1 rfl) 0 (aV _)) h bV rfl rfl ?_;intro f h
   refine aK h s rX (aT (.bool true) (lc nos bm ((aH (K.getD kx z3).1).getD d9 ap).1 _ (s.get 8 rfl)) (congrArg Value.bool ((hal _).trans l1))) rfl rfl ?_;intro f w1 v9 hT hE h s;obtain rfl:=hT
   refine ac h (aE (.bool false) (bI (h.ev rfl)) rfl) rfl ?_;intro f h
   refine ai ?_
   refine hK5 _ _ ?_
   refine wpIn_cond_false (h.ev rfl) ?_
   refine wpIn_skip ?_
   refine bH ?_
   replace s:=s.resl (m:=(gG l (K.getD kx z3).1 (d9+1)).length) (ys:=(gG l (K.getD kx z3).1 (d9+1)).map (Value.int .i64)) 3 rfl (by rw [tY hdl9 l1]) (by rw [tY hdl9 l1])
   refine ⟨rfl,_,⟨vb,rfl⟩,s.pick _ ?_⟩
   exact List.Sublist.cons_cons _ (List.Sublist.cons _ (List.Sublist.refl _))
 ·intro D9 A9 w2 hJ9 hq9 s
  obtain ⟨vb,rfl⟩:=hJ9
  replace h:Sl _ {f with defers:={target:=.collected D9,args:=#[]}::f.defers} _ [{target:=.collected D9,args:=#[]}]:=⟨h.size,by rw [h.defers],h.holds⟩
  rw [oC] at s
  have hdw:(eW l (K.getD kx z3).1).length≤1000:=by have h9:=nO l (K.getD kx z3).1 (aH (K.getD kx z3).1).length;rw [oC] at h9;omega
  refine bH ?_
  refine hK3 _ _ ?_
  replace s:=s.bring 6 rfl
  replace s:St w0 (.sl vq 42 68 K.length (aD K)::.blk D9 (.deferred (some []))::.blk bv (.cells (#[vk]) 36)::.sl vk 28 33 (aH (K.getD kx z3).1).length (am (aH (K.getD kx z3).1))::.sl vb 3 1 (eW l (K.getD kx z3).1).length ((eW l (K.getD kx z3).1).map (Value.int .i64))::.blk b4 (.cells (#[vb]) 78)::.blk b3 (.cells (#[.map (some bm)]) 84)::(.grp ks (cD K))::.blk bm (cZ nos)::B9) _:=s
  have hrr:=ga.2 hrn
  have htd:Bx (K.getD kx z3).1 (eW l (K.getD kx z3).1)=(ar l (K.getD kx z3).1):=(mG _ hrr).1.trans (qx hrn).symm
  have hde:Bw (K.getD kx z3).1=0:=(mG [] hrr).2
  refine jP 1 [[],[],[1],[1,2],[],[1,2,3,4],[1,2,3,4,5],[1,2,3,4,5,6],[1,2,3,4,5,6],[0,1,2,3,4,5,6,7],[0,1,2,3,4,5,6,7,9]] [[],[],[],[11],[],[],[],[],[],[],[3]] [fun _=>[],fun _=>[],fun _=>[],fun v=>[.sl vq 42 68 K.length (aD K)],fun _=>[],fun v=>[.sl (bp 66 (v 5)) 28 33 (ar l (K.getD kx z3).1).sc.length (am (ar l (K.getD kx z3).1).sc),.sl (bp 67 (v 5)) 28 33 (ar l (K.getD kx z3).1).fg.length (am (ar l (K.getD kx z3).1).fg)],fun _=>[],fun _=>[],fun _=>[],fun _=>[],fun v=>[.sl vq 42 68 (K.set kx (((ar l (K.getD kx z3).1),(bp 66 (v 5)),(bp 67 (v 5))):N3)).length (aD (K.set kx (((ar l (K.getD kx z3).1),(bp 66 (v 5)),(bp 67 (v 5))):N3)))]] [[.sl vq 42 68 K.length (aD K)]] [fun v=>v 0=.pointer (some (aF vq (kx*68))),fun v=>v 1=.pointer (some (aF vq (kx*68))),fun v=>v 2=.pointer (some (aF vq (kx*68))),fun v=>v 3=.agg (au (K.getD kx z3).1.me (K.getD kx z3).1.pr (K.getD kx z3).2.1 (K.getD kx z3).2.2),fun v=>v 4=vb,fun v=>v 5=.tuple #[.agg (au (ar l (K.getD kx z3).1).me (ar l (K.getD kx z3).1).pr (bp 66 (v 5)) (bp 67 (v 5))),.int .i64 0],fun v=>v 6=.tuple #[.agg (au (ar l (K.getD kx z3).1).me (ar l (K.getD kx z3).1).pr (bp 66 (v 5)) (bp 67 (v 5))),.int .i64 0],fun v=>v 7=.agg (au (ar l (K.getD kx z3).1).me (ar l (K.getD kx z3).1).pr (bp 66 (v 5)) (bp 67 (v 5))),fun v=>v 8=.int .i64 0,fun v=>v 9=.pointer (some (aF vq (kx*68))),fun _=>True] (.blk D9 (.deferred (some []))::.blk bv (.cells (#[vk]) 36)::.sl vk 28 33 (aH (K.getD kx z3).1).length (am (aH (K.getD kx z3).1))::.sl vb 3 1 (eW l (K.getD kx z3).1).length ((eW l (K.getD kx z3).1).map (Value.int .i64))::.blk b4 (.cells (#[vb]) 78)::.blk b3 (.cells (#[.map (some bm)]) 84)::(.grp ks (cD K))::.blk bm (cZ nos)::B9) h s rfl (by kernel_rfl) (by kernel_rfl) (by kernel_rfl) (And.intro ?_ (And.intro ?_ (And.intro ?_ (And.intro ?_ (And.intro ?_ (And.intro ?_ (And.intro ?_ (And.intro ?_ (And.intro ?_ (And.intro ?_ (And.intro ?_ (trivial)))))))))))) [0,1,2,4,5,6,7,8,9,10] (by kernel_rfl) ?_
  ·intro f9 w2 vl6 E9 hs9 hd9 hl hF s
   have e0:f9.tmps.getD 0 undef=_:=cK hl 0 (by kernel_rfl) (by kernel_rfl) (h.holds 0 _ rfl)
   have h:=aB [(0,_)] (hs9.trans h.size) (hd9.trans h.defers) (holds_lk ⟨e0,trivial⟩)
   replace s:St w0 (.blk D9 (.deferred (some []))::.blk bv (.cells (#[vk]) 36)::.sl vk 28 33 (aH (K.getD kx z3).1).length (am (aH (K.getD kx z3).1))::.sl vb 3 1 (eW l (K.getD kx z3).1).length ((eW l (K.getD kx z3).1).map (Value.int .i64))::.blk b4 (.cells (#[vb]) 78)::.blk b3 (.cells (#[.map (some bm)]) 84)::(.grp ks (cD K))::.blk bm (cZ nos)::(B9++E9)) _:=s
   refine ac h (ah (h.ev rfl)) rfl ?_;intro f h
   exact ai ⟨_,a6 22 rfl (h.holds 22 _ rfl),rfl,s⟩
  ·intro f9 w2 vl6 E9 hs9 hd9 hl hF s
   have e0:f9.tmps.getD 0 undef=_:=cK hl 0 (by kernel_rfl) (by kernel_rfl) (h.holds 0 _ rfl)
   have h:=aB [(0,_)] (hs9.trans h.size) (hd9.trans h.defers) (holds_lk ⟨e0,trivial⟩)
   replace s:St w0 (.blk D9 (.deferred (some []))::.blk bv (.cells (#[vk]) 36)::.sl vk 28 33 (aH (K.getD kx z3).1).length (am (aH (K.getD kx z3).1))::.sl vb 3 1 (eW l (K.getD kx z3).1).length ((eW l (K.getD kx z3).1).map (Value.int .i64))::.blk b4 (.cells (#[vb]) 78)::.blk b3 (.cells (#[.map (some bm)]) 84)::(.grp ks (cD K))::.blk bm (cZ nos)::(B9++E9)) _:=s
   refine ac h (ah (h.ev rfl)) rfl ?_;intro f h
   exact ai ⟨_,a6 23 rfl (h.holds 23 _ rfl),rfl,s⟩
  ·intro f9 w2 vl6 E9 hs9 hd9 hl hF s
   have e23:f9.tmps.getD 23 undef=.pointer (some (aF vq (kx*68))):=(bc hl 23 1 (by kernel_rfl) (by kernel_rfl)).trans (hF 1 (by decide))
   have h:=aB [(23,.pointer (some (aF vq (kx*68))))] (hs9.trans h.size) (hd9.trans h.defers) (holds_lk ⟨e23,trivial⟩)
   replace s:St w0 (.blk D9 (.deferred (some []))::.blk bv (.cells (#[vk]) 36)::.sl vk 28 33 (aH (K.getD kx z3).1).length (am (aH (K.getD kx z3).1))::.sl vb 3 1 (eW l (K.getD kx z3).1).length ((eW l (K.getD kx z3).1).map (Value.int .i64))::.blk b4 (.cells (#[vb]) 78)::.blk b3 (.cells (#[.map (some bm)]) 84)::(.grp ks (cD K))::.blk bm (cZ nos)::(B9++E9)) _:=s
   refine ac h (aZ (h.ev rfl)) rfl ?_;intro f h
   exact ai ⟨_,a6 24 rfl (h.holds 24 _ rfl),rfl,s⟩
  ·intro f9 w2 vl6 E9 hs9 hd9 hl hF s
   have e24:f9.tmps.getD 24 undef=.pointer (some (aF vq (kx*68))):=(bc hl 24 2 (by kernel_rfl) (by kernel_rfl)).trans (hF 2 (by decide))
   have h:=aB [(24,.pointer (some (aF vq (kx*68))))] (hs9.trans h.size) (hd9.trans h.defers) (holds_lk ⟨e24,trivial⟩)
   replace s:St w0 (.sl vq 42 68 K.length (aD K)::.blk D9 (.deferred (some []))::.blk bv (.cells (#[vk]) 36)::.sl vk 28 33 (aH (K.getD kx z3).1).length (am (aH (K.getD kx z3).1))::.sl vb 3 1 (eW l (K.getD kx z3).1).length ((eW l (K.getD kx z3).1).map (Value.int .i64))::.blk b4 (.cells (#[vb]) 78)::.blk b3 (.cells (#[.map (some bm)]) 84)::(.grp ks (cD K))::.blk bm (cZ nos)::(B9++E9)) _:=s
   refine aI ((bO.of_own (s.getSl 0 rfl)).el (kx) (by omega) (by decide) (D:=au (K.getD kx z3).1.me (K.getD kx z3).1.pr (K.getD kx z3).2.1 (K.getD kx z3).2.2) (cR K kx hk)) h bw rfl (aw _ _ _ _) rfl ?_;intro f h
   exact ai ⟨_,a6 25 rfl (h.holds 25 _ rfl),rfl,s⟩
  ·intro f9 w2 vl6 E9 hs9 hd9 hl hF s
   have e4:f9.tmps.getD 4 undef=_:=cK hl 4 (by kernel_rfl) (by kernel_rfl) (h.holds 4 _ rfl)
   have h:=aB [(4,_)] (hs9.trans h.size) (hd9.trans h.defers) (holds_lk ⟨e4,trivial⟩)
   replace s:St w0 (.blk D9 (.deferred (some []))::.blk bv (.cells (#[vk]) 36)::.sl vk 28 33 (aH (K.getD kx z3).1).length (am (aH (K.getD kx z3).1))::.sl vb 3 1 (eW l (K.getD kx z3).1).length ((eW l (K.getD kx z3).1).map (Value.int .i64))::.blk b4 (.cells (#[vb]) 78)::.blk b3 (.cells (#[.map (some bm)]) 84)::(.grp ks (cD K))::.blk bm (cZ nos)::(B9++E9)) _:=s
   refine bX 4 h s r5 rfl rfl (rfl) rfl ?_;intro f h
   exact ai ⟨_,a6 26 rfl (h.holds 26 _ rfl),rfl,s⟩
  ·intro f9 w2 vl6 E9 hs9 hd9 hl hF s
   have e25:f9.tmps.getD 25 undef=.agg (au (K.getD kx z3).1.me (K.getD kx z3).1.pr (K.getD kx z3).2.1 (K.getD kx z3).2.2):=(bc hl 25 3 (by kernel_rfl) (by kernel_rfl)).trans (hF 3 (by decide))
   have e26:f9.tmps.getD 26 undef=vb:=(bc hl 26 4 (by kernel_rfl) (by kernel_rfl)).trans (hF 4 (by decide))
   have h:=aB [(25,.agg (au (K.getD kx z3).1.me (K.getD kx z3).1.pr (K.getD kx z3).2.1 (K.getD kx z3).2.2)),(26,vb)] (hs9.trans h.size) (hd9.trans h.defers) (holds_lk ⟨e25,e26,trivial⟩)
   replace s:St w0 (.blk D9 (.deferred (some []))::.blk bv (.cells (#[vk]) 36)::.sl vk 28 33 (aH (K.getD kx z3).1).length (am (aH (K.getD kx z3).1))::.sl vb 3 1 (eW l (K.getD kx z3).1).length ((eW l (K.getD kx z3).1).map (Value.int .i64))::.blk b4 (.cells (#[vb]) 78)::.blk b3 (.cells (#[.map (some bm)]) 84)::(.grp ks (cD K))::.blk bm (cZ nos)::(B9++E9)) _:=s
   refine aK h s Ca (sW (K.getD kx z3).1 (K.getD kx z3).2.1 (K.getD kx z3).2.2 (eW l (K.getD kx z3).1) vb _ (s.getG 6 rfl _ (bj hk)).1 (s.getG 6 rfl _ (bj hk)).2 (by omega) (by omega) (bO.of_own (s.getSl 3 rfl)) (by omega)) rfl rfl ?_;rintro f w1 v27 ⟨cu,cv,hv9,hS⟩ hE h sq;rw [htd,hde] at hv9;rw [htd] at hS;replace s:=s.add hS
   have h66:cu=bp 66 v27:=by rw [hv9];exact(lm (bO.of_own (hS.getSl 0 rfl))).symm
   have h67:cv=bp 67 v27:=by rw [hv9];exact(mc (bO.of_own (hS.getSl 1 rfl))).symm
   clear hS
   subst h66;subst h67
   exact ai ⟨_,a6 27 rfl (h.holds 27 _ rfl),hv9,s⟩
  ·intro f9 w2 vl6 E9 hs9 hd9 hl hF s
   have e27:f9.tmps.getD 27 undef=.tuple #[.agg (au (ar l (K.getD kx z3).1).me (ar l (K.getD kx z3).1).pr (bp 66 (vl6 5)) (bp 67 (vl6 5))),.int .i64 0]:=(bc hl 27 5 (by kernel_rfl) (by kernel_rfl)).trans (hF 5 (by decide))
   have h:=aB [(27,.tuple #[.agg (au (ar l (K.getD kx z3).1).me (ar l (K.getD kx z3).1).pr (bp 66 (vl6 5)) (bp 67 (vl6 5))),.int .i64 0])] (hs9.trans h.size) (hd9.trans h.defers) (holds_lk ⟨e27,trivial⟩)
   replace s:St w0 (.blk D9 (.deferred (some []))::.blk bv (.cells (#[vk]) 36)::.sl vk 28 33 (aH (K.getD kx z3).1).length (am (aH (K.getD kx z3).1))::.sl vb 3 1 (eW l (K.getD kx z3).1).length ((eW l (K.getD kx z3).1).map (Value.int .i64))::.blk b4 (.cells (#[vb]) 78)::.blk b3 (.cells (#[.map (some bm)]) 84)::(.grp ks (cD K))::.blk bm (cZ nos)::(B9++E9)) _:=s
   refine ac h (ah (h.ev rfl)) rfl ?_;intro f h
   exact ai ⟨_,a6 21 rfl (h.holds 21 _ rfl),rfl,s⟩
  ·intro f9 w2 vl6 E9 hs9 hd9 hl hF s
   have e21:f9.tmps.getD 21 undef=.tuple #[.agg (au (ar l (K.getD kx z3).1).me (ar l (K.getD kx z3).1).pr (bp 66 (vl6 5)) (bp 67 (vl6 5))),.int .i64 0]:=(bc hl 21 6 (by kernel_rfl) (by kernel_rfl)).trans (hF 6 (by decide))
   have h:=aB [(21,.tuple #[.agg (au (ar l (K.getD kx z3).1).me (ar l (K.getD kx z3).1).pr (bp 66 (vl6 5)) (bp 67 (vl6 5))),.int .i64 0])] (hs9.trans h.size) (hd9.trans h.defers) (holds_lk ⟨e21,trivial⟩)
   replace s:St w0 (.blk D9 (.deferred (some []))::.blk bv (.cells (#[vk]) 36)::.sl vk 28 33 (aH (K.getD kx z3).1).length (am (aH (K.getD kx z3).1))::.sl vb 3 1 (eW l (K.getD kx z3).1).length ((eW l (K.getD kx z3).1).map (Value.int .i64))::.blk b4 (.cells (#[vb]) 78)::.blk b3 (.cells (#[.map (some bm)]) 84)::(.grp ks (cD K))::.blk bm (cZ nos)::(B9++E9)) _:=s
   refine ac h (aW (h.ev rfl) rfl) rfl ?_;intro f h
   exact ai ⟨_,a6 28 rfl (h.holds 28 _ rfl),rfl,s⟩
  ·intro f9 w2 vl6 E9 hs9 hd9 hl hF s
   have e21:f9.tmps.getD 21 undef=.tuple #[.agg (au (ar l (K.getD kx z3).1).me (ar l (K.getD kx z3).1).pr (bp 66 (vl6 5)) (bp 67 (vl6 5))),.int .i64 0]:=(bc hl 21 6 (by kernel_rfl) (by kernel_rfl)).trans (hF 6 (by decide))
   have h:=aB [(21,.tuple #[.agg (au (ar l (K.getD kx z3).1).me (ar l (K.getD kx z3).1).pr (bp 66 (vl6 5)) (bp 67 (vl6 5))),.int .i64 0])] (hs9.trans h.size) (hd9.trans h.defers) (holds_lk ⟨e21,trivial⟩)
   replace s:St w0 (.blk D9 (.deferred (some []))::.blk bv (.cells (#[vk]) 36)::.sl vk 28 33 (aH (K.getD kx z3).1).length (am (aH (K.getD kx z3).1))::.sl vb 3 1 (eW l (K.getD kx z3).1).length ((eW l (K.getD kx z3).1).map (Value.int .i64))::.blk b4 (.cells (#[vb]) 78)::.blk b3 (.cells (#[.map (some bm)]) 84)::(.grp ks (cD K))::.blk bm (cZ nos)::(B9++E9)) _:=s
   refine ac h (aW (h.ev rfl) rfl) rfl ?_;intro f h
   exact ai ⟨_,a6 29 rfl (h.holds 29 _ rfl),rfl,s⟩
  ·intro f9 w2 vl6 E9 hs9 hd9 hl hF s
   have e22:f9.tmps.getD 22 undef=.pointer (some (aF vq (kx*68))):=(bc hl 22 0 (by kernel_rfl) (by kernel_rfl)).trans (hF 0 (by decide))
   have h:=aB [(22,.pointer (some (aF vq (kx*68))))] (hs9.trans h.size) (hd9.trans h.defers) (holds_lk ⟨e22,trivial⟩)
   replace s:St w0 (.blk D9 (.deferred (some []))::.blk bv (.cells (#[vk]) 36)::.sl vk 28 33 (aH (K.getD kx z3).1).length (am (aH (K.getD kx z3).1))::.sl vb 3 1 (eW l (K.getD kx z3).1).length ((eW l (K.getD kx z3).1).map (Value.int .i64))::.blk b4 (.cells (#[vb]) 78)::.blk b3 (.cells (#[.map (some bm)]) 84)::(.grp ks (cD K))::.blk bm (cZ nos)::(B9++E9)) _:=s
   refine ac h (aZ (h.ev rfl)) rfl ?_;intro f h
   exact ai ⟨_,a6 30 rfl (h.holds 30 _ rfl),rfl,s⟩
  ·intro f9 w2 vl6 E9 hs9 hd9 hl hF s
   have e30:f9.tmps.getD 30 undef=.pointer (some (aF vq (kx*68))):=(bc hl 30 9 (by kernel_rfl) (by kernel_rfl)).trans (hF 9 (by decide))
   have e28:f9.tmps.getD 28 undef=.agg (au (ar l (K.getD kx z3).1).me (ar l (K.getD kx z3).1).pr (bp 66 (vl6 5)) (bp 67 (vl6 5))):=(bc hl 28 7 (by kernel_rfl) (by kernel_rfl)).trans (hF 7 (by decide))
   have h:=aB [(30,.pointer (some (aF vq (kx*68)))),(28,.agg (au (ar l (K.getD kx z3).1).me (ar l (K.getD kx z3).1).pr (bp 66 (vl6 5)) (bp 67 (vl6 5))))] (hs9.trans h.size) (hd9.trans h.defers) (holds_lk ⟨e30,e28,trivial⟩)
   replace s:St w0 (.sl vq 42 68 K.length (aD K)::.blk D9 (.deferred (some []))::.blk bv (.cells (#[vk]) 36)::.sl vk 28 33 (aH (K.getD kx z3).1).length (am (aH (K.getD kx z3).1))::.sl vb 3 1 (eW l (K.getD kx z3).1).length ((eW l (K.getD kx z3).1).map (Value.int .i64))::.blk b4 (.cells (#[vb]) 78)::.blk b3 (.cells (#[.map (some bm)]) 84)::(.grp ks (cD K))::.blk bm (cZ nos)::(B9++E9)) _:=s
   refine dH 0 (kx) h s bw rfl rfl rfl (aw _ _ _ _) (by omega) (br (eN _ _) (eN _ _)) (show _=aD (K.set kx (((ar l (K.getD kx z3).1),(bp 66 (vl6 5)),(bp 67 (vl6 5))):N3)) from jW hk (((ar l (K.getD kx z3).1),(bp 66 (vl6 5)),(bp 67 (vl6 5))):N3)) ?_;intro w1 s
   replace s:=s.resl (m:=(K.set kx (((ar l (K.getD kx z3).1),(bp 66 (vl6 5)),(bp 67 (vl6 5))):N3)).length) (ys:=aD (K.set kx (((ar l (K.getD kx z3).1),(bp 66 (vl6 5)),(bp 67 (vl6 5))):N3))) 0 rfl (by rw [List.length_set]) rfl
   exact ai ⟨undef,fM rfl,trivial,s⟩
  intro f w1 vl6 hs9 hd9 hv hr hF s
  replace h:=j5 (ops:=_) [(22,.pointer (some (aF vq (kx*68)))),(23,.pointer (some (aF vq (kx*68)))),(24,.pointer (some (aF vq (kx*68)))),(25,.agg (au (K.getD kx z3).1.me (K.getD kx z3).1.pr (K.getD kx z3).2.1 (K.getD kx z3).2.2)),(26,vb),(27,.tuple #[.agg (au (ar l (K.getD kx z3).1).me (ar l (K.getD kx z3).1).pr (bp 66 (vl6 5)) (bp 67 (vl6 5))),.int .i64 0]),(21,.tuple #[.agg (au (ar l (K.getD kx z3).1).me (ar l (K.getD kx z3).1).pr (bp 66 (vl6 5)) (bp 67 (vl6 5))),.int .i64 0]),(28,.agg (au (ar l (K.getD kx z3).1).me (ar l (K.getD kx z3).1).pr (bp 66 (vl6 5)) (bp 67 (vl6 5)))),(29,.int .i64 0),(30,.pointer (some (aF vq (kx*68))))] h hs9 hd9 hr ⟨(hv 0 22 rfl).trans (hF 0 (by kernel_rfl)),(hv 1 23 rfl).trans (hF 1 (by kernel_rfl)),(hv 2 24 rfl).trans (hF 2 (by kernel_rfl)),(hv 3 25 rfl).trans (hF 3 (by kernel_rfl)),(hv 4 26 rfl).trans (hF 4 (by kernel_rfl)),(hv 5 27 rfl).trans (hF 5 (by kernel_rfl)),(hv 6 21 rfl).trans (hF 6 (by kernel_rfl)),(hv 7 28 rfl).trans (hF 7 (by kernel_rfl)),(hv 8 29 rfl).trans (hF 8 (by kernel_rfl)),(hv 9 30 rfl).trans (hF 9 (by kernel_rfl)),trivial⟩ (by kernel_rfl)
  replace s:St w0 (.sl (bp 66 (vl6 5)) 28 33 (ar l (K.getD kx z3).1).sc.length (am (ar l (K.getD kx z3).1).sc)::.sl (bp 67 (vl6 5)) 28 33 (ar l (K.getD kx z3).1).fg.length (am (ar l (K.getD kx z3).1).fg)::.sl vq 42 68 (K.set kx (((ar l (K.getD kx z3).1),(bp 66 (vl6 5)),(bp 67 (vl6 5))):N3)).length (aD (K.set kx (((ar l (K.getD kx z3).1),(bp 66 (vl6 5)),(bp 67 (vl6 5))):N3)))::.blk D9 (.deferred (some []))::.blk bv (.cells (#[vk]) 36)::.sl vk 28 33 (aH (K.getD kx z3).1).length (am (aH (K.getD kx z3).1))::.sl vb 3 1 (eW l (K.getD kx z3).1).length ((eW l (K.getD kx z3).1).map (Value.int .i64))::.blk b4 (.cells (#[vb]) 78)::.blk b3 (.cells (#[.map (some bm)]) 84)::(.grp ks (cD K))::.blk bm (cZ nos)::B9) _:=s
  replace s:=s.bring 9 rfl
  replace s:=s.bring 2 rfl
  replace s:=s.bring 2 rfl
  replace s:St w0 (.sl (bp 66 (vl6 5)) 28 33 (ar l (K.getD kx z3).1).sc.length (am (ar l (K.getD kx z3).1).sc)::.sl (bp 67 (vl6 5)) 28 33 (ar l (K.getD kx z3).1).fg.length (am (ar l (K.getD kx z3).1).fg)::(.grp ks (cD K))::.sl vq 42 68 (K.set kx (((ar l (K.getD kx z3).1),(bp 66 (vl6 5)),(bp 67 (vl6 5))):N3)).length (aD (K.set kx (((ar l (K.getD kx z3).1),(bp 66 (vl6 5)),(bp 67 (vl6 5))):N3)))::.blk D9 (.deferred (some []))::.blk bv (.cells (#[vk]) 36)::.sl vk 28 33 (aH (K.getD kx z3).1).length (am (aH (K.getD kx z3).1))::.sl vb 3 1 (eW l (K.getD kx z3).1).length ((eW l (K.getD kx z3).1).map (Value.int .i64))::.blk b4 (.cells (#[vb]) 78)::.blk b3 (.cells (#[.map (some bm)]) 84)::.blk bm (cZ nos)::B9) _:=s
  obtain ⟨kn,s⟩:=s.grpR (S':=cD (K.set kx (((ar l (K.getD kx z3).1),(bp 66 (vl6 5)),(bp 67 (vl6 5))):N3))) (fun w9 h1 h2 h3=>jz h3 ⟨h1,h2⟩)
  replace s:=s.bring 8 rfl
  replace s:=s.bring 1 rfl
  replace s:=s.bring 2 rfl
  replace s:St w0 (.sl vq 42 68 (K.set kx (((ar l (K.getD kx z3).1),(bp 66 (vl6 5)),(bp 67 (vl6 5))):N3)).length (aD (K.set kx (((ar l (K.getD kx z3).1),(bp 66 (vl6 5)),(bp 67 (vl6 5))):N3)))::(.grp kn (cD (K.set kx (((ar l (K.getD kx z3).1),(bp 66 (vl6 5)),(bp 67 (vl6 5))):N3))))::.blk bm (cZ nos)::.blk D9 (.deferred (some []))::.blk bv (.cells (#[vk]) 36)::.sl vk 28 33 (aH (K.getD kx z3).1).length (am (aH (K.getD kx z3).1))::.sl vb 3 1 (eW l (K.getD kx z3).1).length ((eW l (K.getD kx z3).1).map (Value.int .i64))::.blk b4 (.cells (#[vb]) 78)::.blk b3 (.cells (#[.map (some bm)]) 84)::B9) _:=s
  exact nv 3 rfl h s rfl (fun w9 s9=>⟨_,rfl,_,_,kn,(s9.pick _ (List.Sublist.cons_cons _ (List.Sublist.cons_cons _ (List.Sublist.cons_cons _ (List.Sublist.cons _ (List.Sublist.cons _ (List.Sublist.cons _ (List.Sublist.cons _ (List.Sublist.cons _ (List.Sublist.cons _ (List.Sublist.refl _)))))))))))⟩)
 ·intro D9 d9 A9 w2 hd9 hqd9 hq9 hJ9 s
  cases hqd9
end Go.Proofs.YthggibfkgofncaaGreat
