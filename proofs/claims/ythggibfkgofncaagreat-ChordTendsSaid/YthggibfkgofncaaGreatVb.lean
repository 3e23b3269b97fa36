/- What the reference of chord answers for members, who is known, who lives, a node, an overlay without one. -/
import Derived.Test.YthggibfkgofncaaGreatCon
set_option linter.unusedVariables false
set_option linter.unusedSimpArgs false
set_option linter.unusedSectionVars false
namespace Go.Proofs.YthggibfkgofncaaGreat
open Go.RowKit
theorem ff (l:List Mb) (vh:Value) (no:Int) (w:World) (hR:bq w vh 33 l.length (ap l)) (hln:l.length≤1000):Calls Tryz.prog 43 [vh,.int .i64 no].toArray w (cU w (is (.agg (aw (fB l no))))):=by
 refine bp Tryz.func43 rfl Tryz.ntmps43 rfl [(0,vh),(1,.int .i64 no)] (by simp) fun f h=>?_
 have s:=St.start w
 refine al fun K1 hK1=>?_
 refine ae ?_
 refine bj (aw aT) h s cB rfl rfl ?_;intro f w1 b4 h s
 refine ah ?_
 refine hK1 _ _ ?_
 refine al fun K2 hK2=>?_
 refine al fun K3 hK3=>?_
 refine ae ?_
 refine ac h (ag (h.ev rfl)) rfl ?_;intro f h
 refine ac h (bc (hR.keep s.ext) Tryz.underlying36 (h.ev rfl)) rfl ?_;intro f h
 refine ac h (ag (h.ev rfl)) rfl ?_;intro f h
 refine ah ?_
 refine hK3 _ _ ?_
 refine wpIn_block ?_
 refine wpIn_loop_ghost (fun nn aa ww=>∃ k:Nat,Sl 20 aa [(0,vh),(1,.int .i64 no),(4,.pointer (some ⟨b4,0,none⟩)),(7,vh),(8,.int .i64 (l.length:Int)),(9,.int .i64 (k:Int))]∧St w [.blk b4 (.cells (aw aT) 28)] ww∧nn=l.length - k∧k≤l.length∧∀ j,j<k→decide ((l.getD j aT).1=no)=false) (l.length - (0)) ⟨0,h.only ⟨rfl,rfl,rfl,rfl,rfl,aQ rfl (by omega),trivial⟩,s.as ⟨rfl,trivial⟩,rfl,Nat.zero_le _,fun j hj=>absurd hj (Nat.not_lt_zero _)⟩ ?_
 rintro _ f w1 ⟨k,h,s,hnn,hp0,hp1⟩
 refine al fun K4 hK4=>?_
 refine ae ?_
 refine ac h (bN (h.ev rfl) (h.ev rfl)) rfl ?_;intro f h
 refine ah ?_
 refine hK4 _ _ ?_
 refine al fun K5 hK5=>?_
 refine bM h rfl (fun hc=>?_) (fun hc=>?_)
 ·replace hc:=of_decide_eq_true hc
  refine wpIn_skip ?_
  refine hK5 _ _ ?_
  refine al fun K6 hK6=>?_
  refine wpIn_block ?_
  refine al fun K7 hK7=>?_
  refine ae ?_
  have hkl:k<l.length:=by omega
  refine ac h (bZ (hR.keep s.ext) (k) Tryz.underlying36 cz (h.ev rfl) (h.ev rfl) (by omega) (by omega)) rfl ?_;intro f h
  refine aB ((hR.keep s.ext).el (k) (by omega) (by decide) (D:=aw (l.getD k aT)) (cL l k hkl)) h aL rfl (ak _) rfl ?_;intro f h
  refine bj (aw aT) h s cB rfl rfl ?_;intro f w1 b6 h s
  refine ax 0 h s aL rfl rfl rfl (ak _) (ak _) (aS _) ?_;intro w1 s
  refine ah ?_
  refine hK7 _ _ ?_
  refine al fun K8 hK8=>?_
  refine ae ?_
  refine ac h (ai aJ (h.ev rfl)) rfl ?_;intro f h
  refine au (am (aU.of_own s 0 rfl) 0 (aP _)) h bz rfl rfl ?_;intro f h
  refine ac h (ag (h.ev rfl)) rfl ?_;intro f h
  refine ac h (bX (h.ev rfl) (h.ev rfl)) rfl ?_;intro f h
  refine ah ?_
  refine hK8 _ _ ?_
  refine bM h rfl (fun hc=>?_) (fun hc=>?_)
  ·refine al fun K9 hK9=>?_
   refine ae ?_
   refine ar 0 h s aL rfl rfl (ak _) rfl ?_;intro f h
   refine ax 1 h s aL rfl rfl rfl (ak _) (ak _) (aS _) ?_;intro w1 s
   refine ah ?_
   refine hK9 _ _ ?_
   refine wpIn_ret ?_
   refine bU ?_
   refine aW ?_
   refine aW ?_
   refine bU ?_
   refine aW ?_
   exact c8 1 rfl h s aL rfl rfl (ak _) (by show _=_;unfold fB;rw [mg hkl hp1 hc]<;>rfl)
  ·refine wpIn_skip ?_
   refine bF ?_
   refine hK6 _ _ ?_
   refine ae ?_
   refine ac h (cf (h.ev rfl) (h.ev rfl) (by omega)) rfl ?_;intro f h
   refine ac h (ag (h.ev rfl)) rfl ?_;intro f h
   refine ah ?_
   refine bQ ?_
   exact ⟨_,by omega,⟨k+1,h.only ⟨rfl,rfl,rfl,rfl,rfl,aQ rfl (by omega),trivial⟩,St.as (s.pick _ (List.sublist_append_right [_] _)) ⟨rfl,trivial⟩,rfl,by omega,dm (q:=fun j=>decide ((l.getD j aT).1=no)) hp1 hc⟩⟩
 ·replace hc:=of_decide_eq_false hc
  refine wpIn_exit ?_
  refine bJ ?_
  refine bJ ?_
  refine cC ?_
  refine hK2 _ _ ?_
  refine al fun K10 hK10=>?_
  refine ae ?_
  refine ac h (dO mO (h.ev rfl)) rfl ?_;intro f h
  refine ax 0 h s aL rfl rfl rfl (ak _) (ak _) (aS _) ?_;intro w1 s
  refine ah ?_
  refine hK10 _ _ ?_
  refine wpIn_ret ?_
  exact c8 0 rfl h s aL rfl rfl (ak _) (by show _=_;unfold fB;rw [l7 (by omega) hp1]<;>rfl)
theorem ge (L:List N3) (vo:Value) (w:World) (hO:dN w vo L) (hL:L.length≤40):Calls Tryz.prog 16 [.agg #[vo]].toArray w (cU w (fun v w'=>cQ w' w.heap.size 28 33 v (aM L).length (ap (aM L)))):=by
 refine bp Tryz.func16 rfl Tryz.ntmps16 rfl [(0,.agg #[vo])] (by simp) fun f h=>?_
 have s:=St.start w
 refine al fun K1 hK1=>?_
 refine ae ?_
 refine bV (#[vo]) h s rfl rfl rfl ?_;intro f w1 b1 h s
 refine ac h (aj (h.ev rfl)) rfl ?_;intro f h
 refine ah ?_
 refine hK1 _ _ ?_
 refine al fun K2 hK2=>?_
 refine ae ?_
 refine cg (vs:=[]) [] h s Tryz.underlying36 cP rfl rfl (by simp) rfl rfl rfl ?_;intro f w1 v6 h s
 replace s:=s.resl (m:=(aM (L.take 0)).length) (ys:=ap (aM (L.take 0))) 0 rfl (rfl) (rfl)
 refine ac h (aj (h.ev rfl)) rfl ?_;intro f h
 refine ah ?_
 refine hK2 _ _ ?_
 refine al fun K3 hK3=>?_
 refine al fun K4 hK4=>?_
 refine ae ?_
 refine ac h (ai cp (h.ev rfl)) rfl ?_;intro f h
 refine au (V:=vo) (am (aU.of_own s 1 rfl) 0 rfl) h c4 rfl rfl ?_;intro f h
 refine ac h (bc (hO.1.keep s.ext) Tryz.underlying22 (h.ev rfl)) rfl ?_;intro f h
 refine ac h (ag (h.ev rfl)) rfl ?_;intro f h
 refine ah ?_
 refine hK4 _ _ ?_
 refine wpIn_block ?_
 refine wpIn_loop_ghost (fun nn aa ww=>∃ k:Nat,∃ vb:Value,Sl 21 aa [(0,.agg #[vo]),(1,.pointer (some ⟨b1,0,none⟩)),(3,vb),(8,vo),(9,.int .i64 (L.length:Int)),(10,.int .i64 (k:Int))]∧St w [.sl vb 28 33 (aM (L.take k)).length (ap (aM (L.take k))),.blk b1 (.cells (#[vo]) 24)] ww∧nn=L.length - k∧k≤L.length) (L.length - (0)) ⟨0,v6,h.only ⟨rfl,rfl,rfl,rfl,rfl,aQ rfl (by omega),trivial⟩,s.as ⟨rfl,rfl,trivial⟩,rfl,Nat.zero_le _⟩ ?_
 rintro _ f w1 ⟨k,vb,h,s,hnn,hp0⟩
 refine al fun K5 hK5=>?_
 refine ae ?_
 refine ac h (bN (h.ev rfl) (h.ev rfl)) rfl ?_;intro f h
 refine ah ?_
 refine hK5 _ _ ?_
 refine al fun K6 hK6=>?_
 refine bM h rfl (fun hc=>?_) (fun hc=>?_)
 ·replace hc:=of_decide_eq_true hc
  refine wpIn_skip ?_
  refine hK6 _ _ ?_
  refine al fun K7 hK7=>?_
  refine wpIn_block ?_
  refine al fun K8 hK8=>?_
  refine ae ?_
  have hkl:k<L.length:=by omega
  refine ac h (bZ (hO.1.keep s.ext) (k) Tryz.underlying22 gc (h.ev rfl) (h.ev rfl) (by omega) (by omega)) rfl ?_;intro f h
  refine aB ((hO.1.keep s.ext).el (k) (by omega) (by decide) (D:=aC (L.getD k z3).1.me (L.getD k z3).1.pr (L.getD k z3).2.1 (L.getD k z3).2.2) (df L k hkl)) h aZ rfl (aq _ _ _ _) rfl ?_;intro f h
  refine bj (aC aT aT a8 a8) h s ea rfl rfl ?_;intro f w1 b5 h s
  refine ax 0 h s aZ rfl rfl rfl (aq _ _ _ _) (aq _ _ _ _) (a7 (co ((hO.2 _ (bw hkl)).1.keep s.ext)) (co ((hO.2 _ (bw hkl)).2.keep s.ext))) ?_;intro w1 s
  refine ah ?_
  refine hK8 _ _ ?_
  refine ae ?_
  refine ac h (ag (h.ev rfl)) rfl ?_;intro f h
  refine ac h (ai aR (h.ev rfl)) rfl ?_;intro f h
  refine aB (aU.subL (aU.of_own s 0 rfl) 0 33 (D:=aw (L.getD k z3).1.me) (bT _ _ _ _)) h aL rfl (ak _) rfl ?_;intro f h
  refine cg (vs:=[.agg (aw (L.getD k z3).1.me)]) [.tmp 16] h s Tryz.underlying36 cP rfl rfl (eS _) rfl rfl rfl ?_;intro f w1 v17 h s
  refine cZ 2 0 h s Tryz.underlying36 cP rfl rfl rfl rfl (by decide) (by rw [c0];exact aS _) (by rw [List.length_map,List.length_take];unfold maxLen;omega) (by rw [List.length_map,List.length_take];omega) rfl ?_;intro f w1 v18 h s
  replace s:=s.pick _ (List.sublist_cons_self _ _)
  replace s:=s.resl (m:=(aM (L.take (k+1))).length) (ys:=ap (aM (L.take (k+1)))) 1 rfl (by rw [j2 hkl,List.length_append];rfl) (by rw [j2 hkl,c0,gJ])
  refine ac h (aj (h.ev rfl)) rfl ?_;intro f h
  refine ah ?_
  refine bF ?_
  refine hK7 _ _ ?_
  refine ae ?_
  refine ac h (cf (h.ev rfl) (h.ev rfl) (by omega)) rfl ?_;intro f h
  refine ac h (ag (h.ev rfl)) rfl ?_;intro f h
  refine ah ?_
  refine bQ ?_
  exact ⟨_,by omega,⟨k+1,v18,h.only ⟨rfl,rfl,rfl,rfl,rfl,aQ rfl (by omega),trivial⟩,St.as (s.pick _ (List.sublist_append_right [_] _)) ⟨rfl,rfl,trivial⟩,rfl,by omega⟩⟩
 ·replace hc:=of_decide_eq_false hc
  refine wpIn_exit ?_
  refine bJ ?_
  refine bJ ?_
  refine cC ?_
  refine hK3 _ _ ?_
  refine al fun K9 hK9=>?_
  refine ae ?_
  refine ac h (ag (h.ev rfl)) rfl ?_;intro f h
  refine ac h (aj (h.ev rfl)) rfl ?_;intro f h
  refine ah ?_
  refine hK9 _ _ ?_
  refine wpIn_ret ?_
  exact bf rfl h s rfl ((by obtain rfl:k=L.length:=(by omega);rw [List.take_length] at s;exact(s.getSl 0 rfl)))
theorem kv (n:Nd) (vs vf:Value) (w:World) (hRs:bq w vs 33 n.sc.length (ap n.sc)) (hRf:bq w vf 33 n.fg.length (ap n.fg)) (hns:n.sc.length≤400) (hnf:n.fg.length≤400):Calls Tryz.prog 42 [.agg (aC n.me n.pr vs vf)].toArray w (cU w (fun v w'=>cQ w' w.heap.size 28 33 v (aE n).length (ap (aE n)))):=by
 refine bp Tryz.func42 rfl Tryz.ntmps42 rfl [(0,.agg (aC n.me n.pr vs vf))] (by simp) fun f h=>?_
 have s:=St.start w
 refine al fun K1 hK1=>?_
 refine ae ?_
 refine bV (aC n.me n.pr vs vf) h s rfl rfl rfl ?_;intro f w1 b1 h s
 refine ac h (aj (h.ev rfl)) rfl ?_;intro f h
 refine ah ?_
 refine hK1 _ _ ?_
 refine al fun K2 hK2=>?_
 refine ae ?_
 refine ac h (ai bR (h.ev rfl)) rfl ?_;intro f h
 refine aB (aU.subL (aU.of_own s 0 rfl) 33 33 (D:=aw n.pr) (cb _ _ _ _)) h aL rfl (ak _) rfl ?_;intro f h
 refine cg (vs:=[.agg (aw n.pr)]) [.tmp 5] h s Tryz.underlying36 cP rfl rfl (eS _) rfl rfl rfl ?_;intro f w1 v6 h s
 replace s:=s.resl (m:=[n.pr].length) (ys:=ap [n.pr]) 0 rfl (rfl) (by rw [c0,cM])
 refine ac h (aj (h.ev rfl)) rfl ?_;intro f h
 refine ah ?_
 refine hK2 _ _ ?_
 refine al fun K3 hK3=>?_
 refine ae ?_
 refine ac h (ag (h.ev rfl)) rfl ?_;intro f h
 refine ac h (ai bD (h.ev rfl)) rfl ?_;intro f h
 refine au (V:=vs) (am (aU.of_own s 1 rfl) 66 (bL _ _ _ _)) h bE rfl rfl ?_;intro f h
 refine eQ 0 (hRs.keep s.ext) h s Tryz.underlying36 cP rfl rfl rfl (eG _) (by show 1+_≤_;unfold maxLen;omega) (by show (1+_)*_≤_;omega) rfl ?_;intro f w1 v10 h s
 replace s:=s.resl (m:=([n.pr]++n.sc).length) (ys:=ap ([n.pr]++n.sc)) 0 rfl (List.length_append.symm) ((dz _ _).symm)
 refine ac h (aj (h.ev rfl)) rfl ?_;intro f h
 refine ah ?_
 refine hK3 _ _ ?_
 refine al fun K4 hK4=>?_
 refine ae ?_
 refine ac h (ag (h.ev rfl)) rfl ?_;intro f h
 refine ac h (ai cR (h.ev rfl)) rfl ?_;intro f h
 refine au (V:=vf) (am (aU.of_own s 1 rfl) 67 (cT _ _ _ _)) h bE rfl rfl ?_;intro f h
 refine eQ 0 (hRf.keep s.ext) h s Tryz.underlying36 cP rfl rfl rfl (eG _) (by rw [List.length_append];show 1+_+_≤_;unfold maxLen;omega) (by rw [List.length_append];show (1+_+_)*_≤_;omega) rfl ?_;intro f w1 v14 h s
 replace s:=s.resl (m:=(aE n).length) (ys:=ap (aE n)) 0 rfl (by simp only [aE,List.length_append,List.length_cons,List.length_nil];omega) ((dz _ _).symm)
 refine ac h (aj (h.ev rfl)) rfl ?_;intro f h
 refine ah ?_
 refine hK4 _ _ ?_
 refine al fun K5 hK5=>?_
 refine ae ?_
 refine ac h (ag (h.ev rfl)) rfl ?_;intro f h
 refine ac h (aj (h.ev rfl)) rfl ?_;intro f h
 refine ah ?_
 refine hK5 _ _ ?_
 refine wpIn_ret ?_
 exact bf rfl h s rfl (s.getSl 0 rfl)
theorem eg (L:List N3) (vo:Value) (no:Int) (w:World) (hO:dN w vo L) (hL:L.length≤40):Calls Tryz.prog 20 [.agg #[vo],.int .i64 no].toArray w (cU w (is (.bool (ce (aM L) no)))):=by
 refine bp Tryz.func20 rfl Tryz.ntmps20 rfl [(0,.agg #[vo]),(1,.int .i64 no)] (by simp) fun f h=>?_
 have s:=St.start w
 refine al fun K1 hK1=>?_
 refine ae ?_
 refine bV (#[vo]) h s rfl rfl rfl ?_;intro f w1 b2 h s
 refine ac h (aj (h.ev rfl)) rfl ?_;intro f h
 refine ah ?_
 refine hK1 _ _ ?_
 refine al fun K2 hK2=>?_
 cases l0:(decide ((fB (aM L) no).1=no):Bool)
 ·skip
  refine ae ?_
  refine ar 0 h s a6 rfl rfl (rfl) rfl ?_;intro f h
  refine aH h s sG (ge L vo _ (hO.keep s.ext) hL) rfl rfl ?_;intro f w1 v6 hT hE h sq;replace s:=s.sl_new hE hT
  refine ac h (ag (h.ev rfl)) rfl ?_;intro f h
  refine aH h s mS (ff (aM L) v6 no _ (bq.of_own (s.getSl 0 rfl)) (by rw [List.length_map];omega)) rfl rfl ?_;intro f w1 v9 hT hE h s;obtain rfl:=hT
  refine ac h (gt kg bz (h.ev rfl) (aP _)) rfl ?_;intro f h
  refine ac h (ag (h.ev rfl)) rfl ?_;intro f h
  refine ac h (av (.bool false) (bX (h.ev rfl) (h.ev rfl)) (congrArg Value.bool l0)) rfl ?_;intro f h
  refine ac h (ag (h.ev rfl)) rfl ?_;intro f h
  refine aA (b:=true) h rfl rfl rfl rfl ?_;intro f h
  refine aA (b:=true) h rfl rfl rfl rfl ?_;intro f h
  refine ac h (aG (h.ev rfl) (h.ev rfl)) rfl ?_;intro f h
  refine ac h (aj (h.ev rfl)) rfl ?_;intro f h
  refine ah ?_
  refine hK2 _ _ ?_
  refine wpIn_ret ?_
  exact bf rfl h s rfl (by show _=_;rw [EB l0])
 ·skip
  refine ae ?_
  refine ar 0 h s a6 rfl rfl (rfl) rfl ?_;intro f h
  refine aH h s sG (ge L vo _ (hO.keep s.ext) hL) rfl rfl ?_;intro f w1 v6 hT hE h sq;replace s:=s.sl_new hE hT
  refine ac h (ag (h.ev rfl)) rfl ?_;intro f h
  refine aH h s mS (ff (aM L) v6 no _ (bq.of_own (s.getSl 0 rfl)) (by rw [List.length_map];omega)) rfl rfl ?_;intro f w1 v9 hT hE h s;obtain rfl:=hT
  refine ac h (gt kg bz (h.ev rfl) (aP _)) rfl ?_;intro f h
  refine ac h (ag (h.ev rfl)) rfl ?_;intro f h
  refine ac h (av (.bool true) (bX (h.ev rfl) (h.ev rfl)) (congrArg Value.bool l0)) rfl ?_;intro f h
  refine ac h (ag (h.ev rfl)) rfl ?_;intro f h
  refine az h rfl rfl rfl ?_
  refine ac h (ag (h.ev rfl)) rfl ?_;intro f h
  refine az h rfl rfl rfl ?_
  refine ac h (dg (h.ev rfl) (h.ev rfl)) rfl ?_;intro f h
  refine ac h (aI (h.ev rfl) (h.ev rfl)) rfl ?_;intro f h
  refine ac h (aj (h.ev rfl)) rfl ?_;intro f h
  refine ah ?_
  refine hK2 _ _ ?_
  refine wpIn_ret ?_
  exact bf rfl h s rfl (by show _=_;rw [D6 l0])
theorem mi (L:List N3) (vo:Value) (no:Int) (w:World) (hO:dN w vo L) (hL:L.length≤40):Calls Tryz.prog 22 [.agg #[vo],.int .i64 no].toArray w (cU w (is (.agg (aC (bC L no).1.me (bC L no).1.pr (bC L no).2.1 (bC L no).2.2)))):=by
 refine bp Tryz.func22 rfl Tryz.ntmps22 rfl [(0,.agg #[vo]),(1,.int .i64 no)] (by simp) fun f h=>?_
 have s:=St.start w
 refine al fun K1 hK1=>?_
 refine ae ?_
 refine bV (#[vo]) h s rfl rfl rfl ?_;intro f w1 b2 h s
 refine bj (aC aT aT a8 a8) h s ea rfl rfl ?_;intro f w1 b4 h s
 refine ah ?_
 refine hK1 _ _ ?_
 refine al fun K2 hK2=>?_
 refine al fun K3 hK3=>?_
 refine ae ?_
 refine ac h (ai cp (h.ev rfl)) rfl ?_;intro f h
 refine au (V:=vo) (am (aU.of_own s 1 rfl) 0 rfl) h c4 rfl rfl ?_;intro f h
 refine ac h (bc (hO.1.keep s.ext) Tryz.underlying22 (h.ev rfl)) rfl ?_;intro f h
 refine ac h (ag (h.ev rfl)) rfl ?_;intro f h
 refine ah ?_
 refine hK3 _ _ ?_
 refine wpIn_block ?_
 refine wpIn_loop_ghost (fun nn aa ww=>∃ k:Nat,Sl 23 aa [(0,.agg #[vo]),(1,.int .i64 no),(2,.pointer (some ⟨b2,0,none⟩)),(4,.pointer (some ⟨b4,0,none⟩)),(8,vo),(9,.int .i64 (L.length:Int)),(10,.int .i64 (k:Int))]∧St w [.blk b4 (.cells (aC aT aT a8 a8) 42),.blk b2 (.cells (#[vo]) 24)] ww∧nn=L.length - k∧k≤L.length∧∀ j,j<k→decide ((L.getD j z3).1.me.1=no)=false) (L.length - (0)) ⟨0,h.only ⟨rfl,rfl,rfl,rfl,rfl,rfl,aQ rfl (by omega),trivial⟩,s.as ⟨rfl,rfl,trivial⟩,rfl,Nat.zero_le _,fun j hj=>absurd hj (Nat.not_lt_zero _)⟩ ?_
 rintro _ f w1 ⟨k,h,s,hnn,hp0,hp1⟩
 refine al fun K4 hK4=>?_
 refine ae ?_
 refine ac h (bN (h.ev rfl) (h.ev rfl)) rfl ?_;intro f h
 refine ah ?_
 refine hK4 _ _ ?_
 refine al fun K5 hK5=>?_
 refine bM h rfl (fun hc=>?_) (fun hc=>?_)
 ·replace hc:=of_decide_eq_true hc
  refine wpIn_skip ?_
  refine hK5 _ _ ?_
  refine al fun K6 hK6=>?_
  refine wpIn_block ?_
  refine al fun K7 hK7=>?_
  refine ae ?_
  have hkl:k<L.length:=by omega
  refine ac h (bZ (hO.1.keep s.ext) (k) Tryz.underlying22 gc (h.ev rfl) (h.ev rfl) (by omega) (by omega)) rfl ?_;intro f h
  refine aB ((hO.1.keep s.ext).el (k) (by omega) (by decide) (D:=aC (L.getD k z3).1.me (L.getD k z3).1.pr (L.getD k z3).2.1 (L.getD k z3).2.2) (df L k hkl)) h aZ rfl (aq _ _ _ _) rfl ?_;intro f h
  refine bj (aC aT aT a8 a8) h s ea rfl rfl ?_;intro f w1 b6 h s
  refine ax 0 h s aZ rfl rfl rfl (aq _ _ _ _) (aq _ _ _ _) (a7 (co ((hO.2 _ (bw hkl)).1.keep s.ext)) (co ((hO.2 _ (bw hkl)).2.keep s.ext))) ?_;intro w1 s
  refine ah ?_
  refine hK7 _ _ ?_
  refine al fun K8 hK8=>?_
  refine ae ?_
  refine ac h (ai aR (h.ev rfl)) rfl ?_;intro f h
  refine ac h (ai aJ (h.ev rfl)) rfl ?_;intro f h
  refine au (am (aU.of_own s 0 rfl) 0 (bO _ _ _ _)) h bz rfl rfl ?_;intro f h
  refine ac h (ag (h.ev rfl)) rfl ?_;intro f h
  refine ac h (bX (h.ev rfl) (h.ev rfl)) rfl ?_;intro f h
  refine ah ?_
  refine hK8 _ _ ?_
  refine bM h rfl (fun hc=>?_) (fun hc=>?_)
  ·refine al fun K9 hK9=>?_
   refine ae ?_
   refine ar 0 h s aZ rfl rfl (aq _ _ _ _) rfl ?_;intro f h
   refine ax 1 h s aZ rfl rfl rfl (aq _ _ _ _) (aq _ _ _ _) (a7 (co ((hO.2 _ (bw hkl)).1.keep s.ext)) (co ((hO.2 _ (bw hkl)).2.keep s.ext))) ?_;intro w1 s
   refine ah ?_
   refine hK9 _ _ ?_
   refine wpIn_ret ?_
   refine bU ?_
   refine aW ?_
   refine aW ?_
   refine bU ?_
   refine aW ?_
   exact c8 1 rfl h s aZ rfl rfl (aq _ _ _ _) (by show _=_;rw [r4 hkl hp1 hc])
  ·refine wpIn_skip ?_
   refine bF ?_
   refine hK6 _ _ ?_
   refine ae ?_
   refine ac h (cf (h.ev rfl) (h.ev rfl) (by omega)) rfl ?_;intro f h
   refine ac h (ag (h.ev rfl)) rfl ?_;intro f h
   refine ah ?_
   refine bQ ?_
   exact ⟨_,by omega,⟨k+1,h.only ⟨rfl,rfl,rfl,rfl,rfl,rfl,aQ rfl (by omega),trivial⟩,St.as (s.pick _ (List.sublist_append_right [_] _)) ⟨rfl,rfl,trivial⟩,rfl,by omega,dm (q:=fun j=>decide ((L.getD j z3).1.me.1=no)) hp1 hc⟩⟩
 ·replace hc:=of_decide_eq_false hc
  refine wpIn_exit ?_
  refine bJ ?_
  refine bJ ?_
  refine cC ?_
  refine hK2 _ _ ?_
  refine al fun K10 hK10=>?_
  refine ae ?_
  refine ac h (dO mO rfl) rfl ?_;intro f h
  refine ac h (oG qt (h.ev rfl)) rfl ?_;intro f h
  refine ax 0 h s aZ rfl rfl rfl (aq _ _ _ _) (aq _ _ _ _) (a7 (rfl) (rfl)) ?_;intro w1 s
  refine ah ?_
  refine hK10 _ _ ?_
  refine wpIn_ret ?_
  exact c8 0 rfl h s aZ rfl rfl (aq _ _ _ _) (by show _=_;rw [wP (by omega) hp1];rfl)
end Go.Proofs.YthggibfkgofncaaGreat
