/- What the reference of chord answers for members, who is known, who lives, a node, an overlay without one. -/
import Derived.Test.YthggibfkgofncaaGreatCon
set_option linter.unusedVariables false
set_option linter.unusedSimpArgs false
set_option linter.unusedSectionVars false
namespace Go.Proofs.YthggibfkgofncaaGreat
open Go.RowKit
theorem iQ (l:List Mb) (vh:Value) (no:Int) (w:World) (hR:bX w vh 33 l.length (ar l)) (hln:l.length≤1000):Calls Tryz.prog 43 [vh,.int .i64 no].toArray w (cU w (is (.agg (av (ft l no))))):=by
 refine bq Tryz.func43 rfl Tryz.ntmps43 rfl [(0,vh),(1,.int .i64 no)] (by simp) fun f h=>?_
 have s:=St.start w
 refine al fun K1 hK1=>?_
 refine ae ?_
 refine bf (av aZ) h s cB rfl rfl ?_;intro f w1 b4 h s
 refine ah ?_
 refine hK1 _ _ ?_
 refine al fun K2 hK2=>?_
 refine al fun K3 hK3=>?_
 refine ae ?_
 refine ac h (ag (h.ev rfl)) rfl ?_;intro f h
 refine ac h (a8 (hR.keep s.ext) Tryz.underlying36 (h.ev rfl)) rfl ?_;intro f h
 refine ac h (ag (h.ev rfl)) rfl ?_;intro f h
 refine ah ?_
 refine hK3 _ _ ?_
 refine wpIn_block ?_
 refine wpIn_loop_ghost (fun nn aa ww=>∃ k:Nat,Sl 20 aa [(0,vh),(1,.int .i64 no),(4,.pointer (some ⟨b4,0,none⟩)),(7,vh),(8,.int .i64 (l.length:Int)),(9,.int .i64 (k:Int))]∧St w [.blk b4 (.cells (av aZ) 28)] ww∧nn=l.length - k∧k≤l.length∧∀ j,j<k→decide ((l.getD j aZ).1=no)=false) (l.length - (0)) ⟨0,h.only ⟨rfl,rfl,rfl,rfl,rfl,aO rfl (by omega),trivial⟩,s.as ⟨rfl,trivial⟩,rfl,Nat.zero_le _,fun j hj=>absurd hj (Nat.not_lt_zero _)⟩ ?_
 rintro _ f w1 ⟨k,h,s,hnn,hp0,hp1⟩
 refine al fun K4 hK4=>?_
 refine ae ?_
 refine ac h (bS (h.ev rfl) (h.ev rfl)) rfl ?_;intro f h
 refine ah ?_
 refine hK4 _ _ ?_
 refine al fun K5 hK5=>?_
 refine bK h rfl (fun hc=>?_) (fun hc=>?_)
 ·replace hc:=of_decide_eq_true hc
  refine wpIn_skip ?_
  refine hK5 _ _ ?_
  refine al fun K6 hK6=>?_
  refine wpIn_block ?_
  refine al fun K7 hK7=>?_
  refine ae ?_
  have hkl:k<l.length:=by omega
  refine ac h (cc (hR.keep s.ext) (k) Tryz.underlying36 cD (h.ev rfl) (h.ev rfl) (by omega) (by omega)) rfl ?_;intro f h
  refine ax ((hR.keep s.ext).el (k) (by omega) (by decide) (D:=av (l.getD k aZ)) (cI l k hkl)) h aC rfl (aj _) rfl ?_;intro f h
  refine bf (av aZ) h s cB rfl rfl ?_;intro f w1 b6 h s
  refine az 0 h s aC rfl rfl rfl (aj _) (aj _) (aS _) ?_;intro w1 s
  refine ah ?_
  refine hK7 _ _ ?_
  refine al fun K8 hK8=>?_
  refine ae ?_
  refine ac h (ai aH (h.ev rfl)) rfl ?_;intro f h
  refine aq (am (aL.of_own s 0 rfl) 0 (aP _)) h bw rfl rfl ?_;intro f h
  refine ac h (ag (h.ev rfl)) rfl ?_;intro f h
  refine ac h (bU (h.ev rfl) (h.ev rfl)) rfl ?_;intro f h
  refine ah ?_
  refine hK8 _ _ ?_
  refine bK h rfl (fun hc=>?_) (fun hc=>?_)
  ·refine al fun K9 hK9=>?_
   refine ae ?_
   refine au 0 h s aC rfl rfl (aj _) rfl ?_;intro f h
   refine az 1 h s aC rfl rfl rfl (aj _) (aj _) (aS _) ?_;intro w1 s
   refine ah ?_
   refine hK9 _ _ ?_
   refine wpIn_ret ?_
   refine bQ ?_
   refine aY ?_
   refine aY ?_
   refine bQ ?_
   refine aY ?_
   exact c5 1 rfl h s aC rfl rfl (aj _) (by show _=_;unfold ft;rw [lw hkl hp1 hc]<;>rfl)
  ·refine wpIn_skip ?_
   refine bF ?_
   refine hK6 _ _ ?_
   refine ae ?_
   refine ac h (ce (h.ev rfl) (h.ev rfl) (by omega)) rfl ?_;intro f h
   refine ac h (ag (h.ev rfl)) rfl ?_;intro f h
   refine ah ?_
   refine bT ?_
   exact ⟨_,by omega,⟨k+1,h.only ⟨rfl,rfl,rfl,rfl,rfl,aO rfl (by omega),trivial⟩,St.as (s.pick _ (List.sublist_append_right [_] _)) ⟨rfl,trivial⟩,rfl,by omega,de (q:=fun j=>decide ((l.getD j aZ).1=no)) hp1 hc⟩⟩
 ·replace hc:=of_decide_eq_false hc
  refine wpIn_exit ?_
  refine bJ ?_
  refine bJ ?_
  refine cC ?_
  refine hK2 _ _ ?_
  refine al fun K10 hK10=>?_
  refine ae ?_
  refine ac h (dU mM (h.ev rfl)) rfl ?_;intro f h
  refine az 0 h s aC rfl rfl rfl (aj _) (aj _) (aS _) ?_;intro w1 s
  refine ah ?_
  refine hK10 _ _ ?_
  refine wpIn_ret ?_
  exact c5 0 rfl h s aC rfl rfl (aj _) (by show _=_;unfold ft;rw [lg (by omega) hp1]<;>rfl)
theorem ik (L:List N3) (vo:Value) (w:World) (hO:eN w vo L) (hL:L.length≤40):Calls Tryz.prog 16 [.agg #[vo]].toArray w (cU w (fun v w'=>cS w' w.heap.size 28 33 v (aR L).length (ar (aR L)))):=by
 refine bq Tryz.func16 rfl Tryz.ntmps16 rfl [(0,.agg #[vo])] (by simp) fun f h=>?_
 have s:=St.start w
 refine al fun K1 hK1=>?_
 refine ae ?_
 refine bV (#[vo]) h s rfl rfl rfl ?_;intro f w1 b1 h s
 refine ac h (ak (h.ev rfl)) rfl ?_;intro f h
 refine ah ?_
 refine hK1 _ _ ?_
 refine al fun K2 hK2=>?_
 refine ae ?_
 refine cm (vs:=[]) [] h s Tryz.underlying36 c8 rfl rfl (by simp) rfl rfl rfl ?_;intro f w1 v6 h s
 replace s:=s.resl (m:=(aR (L.take 0)).length) (ys:=ar (aR (L.take 0))) 0 rfl (rfl) (rfl)
 refine ac h (ak (h.ev rfl)) rfl ?_;intro f h
 refine ah ?_
 refine hK2 _ _ ?_
 refine al fun K3 hK3=>?_
 refine al fun K4 hK4=>?_
 refine ae ?_
 refine ac h (ai cp (h.ev rfl)) rfl ?_;intro f h
 refine aq (V:=vo) (am (aL.of_own s 1 rfl) 0 rfl) h da rfl rfl ?_;intro f h
 refine ac h (a8 (hO.1.keep s.ext) Tryz.underlying22 (h.ev rfl)) rfl ?_;intro f h
 refine ac h (ag (h.ev rfl)) rfl ?_;intro f h
 refine ah ?_
 refine hK4 _ _ ?_
 refine wpIn_block ?_
 refine wpIn_loop_ghost (fun nn aa ww=>∃ k:Nat,∃ vb:Value,Sl 21 aa [(0,.agg #[vo]),(1,.pointer (some ⟨b1,0,none⟩)),(3,vb),(8,vo),(9,.int .i64 (L.length:Int)),(10,.int .i64 (k:Int))]∧St w [.sl vb 28 33 (aR (L.take k)).length (ar (aR (L.take k))),.blk b1 (.cells (#[vo]) 24)] ww∧nn=L.length - k∧k≤L.length) (L.length - (0)) ⟨0,v6,h.only ⟨rfl,rfl,rfl,rfl,rfl,aO rfl (by omega),trivial⟩,s.as ⟨rfl,rfl,trivial⟩,rfl,Nat.zero_le _⟩ ?_
 rintro _ f w1 ⟨k,vb,h,s,hnn,hp0⟩
 refine al fun K5 hK5=>?_
 refine ae ?_
 refine ac h (bS (h.ev rfl) (h.ev rfl)) rfl ?_;intro f h
 refine ah ?_
 refine hK5 _ _ ?_
 refine al fun K6 hK6=>?_
 refine bK h rfl (fun hc=>?_) (fun hc=>?_)
 ·replace hc:=of_decide_eq_true hc
  refine wpIn_skip ?_
  refine hK6 _ _ ?_
  refine al fun K7 hK7=>?_
  refine wpIn_block ?_
  refine al fun K8 hK8=>?_
  refine ae ?_
  have hkl:k<L.length:=by omega
  refine ac h (cc (hO.1.keep s.ext) (k) Tryz.underlying22 eA (h.ev rfl) (h.ev rfl) (by omega) (by omega)) rfl ?_;intro f h
  refine ax ((hO.1.keep s.ext).el (k) (by omega) (by decide) (D:=ay (L.getD k z3).1.me (L.getD k z3).1.pr (L.getD k z3).2.1 (L.getD k z3).2.2) (df L k hkl)) h aW rfl (ap _ _ _ _) rfl ?_;intro f h
  refine bf (ay aZ aZ bp bp) h s dL rfl rfl ?_;intro f w1 b5 h s
  refine az 0 h s aW rfl rfl rfl (ap _ _ _ _) (ap _ _ _ _) (a7 (dc ((hO.2 _ (bu hkl)).1.keep s.ext)) (dc ((hO.2 _ (bu hkl)).2.keep s.ext))) ?_;intro w1 s
  refine ah ?_
  refine hK8 _ _ ?_
  refine ae ?_
  refine ac h (ag (h.ev rfl)) rfl ?_;intro f h
  refine ac h (ai aK (h.ev rfl)) rfl ?_;intro f h
  refine ax (aL.subL (aL.of_own s 0 rfl) 0 33 (D:=av (L.getD k z3).1.me) (bj _ _ _ _)) h aC rfl (aj _) rfl ?_;intro f h
  refine cm (vs:=[.agg (av (L.getD k z3).1.me)]) [.tmp 16] h s Tryz.underlying36 c8 rfl rfl (eI _) rfl rfl rfl ?_;intro f w1 v17 h s
  refine dP 2 0 h s Tryz.underlying36 c8 rfl rfl rfl rfl (by decide) (by rw [dh];exact aS _) (by rw [List.length_map,List.length_take];unfold maxLen;omega) (by rw [List.length_map,List.length_take];omega) rfl ?_;intro f w1 v18 h s
  replace s:=s.pick _ (List.sublist_cons_self _ _)
  replace s:=s.resl (m:=(aR (L.take (k+1))).length) (ys:=ar (aR (L.take (k+1)))) 1 rfl (by rw [jW hkl,List.length_append];rfl) (by rw [jW hkl,dh,gA])
  refine ac h (ak (h.ev rfl)) rfl ?_;intro f h
  refine ah ?_
  refine bF ?_
  refine hK7 _ _ ?_
  refine ae ?_
  refine ac h (ce (h.ev rfl) (h.ev rfl) (by omega)) rfl ?_;intro f h
  refine ac h (ag (h.ev rfl)) rfl ?_;intro f h
  refine ah ?_
  refine bT ?_
  exact ⟨_,by omega,⟨k+1,v18,h.only ⟨rfl,rfl,rfl,rfl,rfl,aO rfl (by omega),trivial⟩,St.as (s.pick _ (List.sublist_append_right [_] _)) ⟨rfl,rfl,trivial⟩,rfl,by omega⟩⟩
 ·replace hc:=of_decide_eq_false hc
  refine wpIn_exit ?_
  refine bJ ?_
  refine bJ ?_
  refine cC ?_
  refine hK3 _ _ ?_
  refine al fun K9 hK9=>?_
  refine ae ?_
  refine ac h (ag (h.ev rfl)) rfl ?_;intro f h
  refine ac h (ak (h.ev rfl)) rfl ?_;intro f h
  refine ah ?_
  refine hK9 _ _ ?_
  refine wpIn_ret ?_
  exact bo rfl h s rfl ((by obtain rfl:k=L.length:=(by omega);rw [List.take_length] at s;exact(s.getSl 0 rfl)))
theorem mV (n:Nd) (vs vf:Value) (w:World) (hRs:bX w vs 33 n.sc.length (ar n.sc)) (hRf:bX w vf 33 n.fg.length (ar n.fg)) (hns:n.sc.length≤400) (hnf:n.fg.length≤400):Calls Tryz.prog 42 [.agg (ay n.me n.pr vs vf)].toArray w (cU w (fun v w'=>cS w' w.heap.size 28 33 v (aJ n).length (ar (aJ n)))):=by
 refine bq Tryz.func42 rfl Tryz.ntmps42 rfl [(0,.agg (ay n.me n.pr vs vf))] (by simp) fun f h=>?_
 have s:=St.start w
 refine al fun K1 hK1=>?_
 refine ae ?_
 refine bV (ay n.me n.pr vs vf) h s rfl rfl rfl ?_;intro f w1 b1 h s
 refine ac h (ak (h.ev rfl)) rfl ?_;intro f h
 refine ah ?_
 refine hK1 _ _ ?_
 refine al fun K2 hK2=>?_
 refine ae ?_
 refine ac h (ai aV (h.ev rfl)) rfl ?_;intro f h
 refine ax (aL.subL (aL.of_own s 0 rfl) 33 33 (D:=av n.pr) (bc _ _ _ _)) h aC rfl (aj _) rfl ?_;intro f h
 refine cm (vs:=[.agg (av n.pr)]) [.tmp 5] h s Tryz.underlying36 c8 rfl rfl (eI _) rfl rfl rfl ?_;intro f w1 v6 h s
 replace s:=s.resl (m:=[n.pr].length) (ys:=ar [n.pr]) 0 rfl (rfl) (by rw [dh,cQ])
 refine ac h (ak (h.ev rfl)) rfl ?_;intro f h
 refine ah ?_
 refine hK2 _ _ ?_
 refine al fun K3 hK3=>?_
 refine ae ?_
 refine ac h (ag (h.ev rfl)) rfl ?_;intro f h
 refine ac h (ai bC (h.ev rfl)) rfl ?_;intro f h
 refine aq (V:=vs) (am (aL.of_own s 1 rfl) 66 (bA _ _ _ _)) h bE rfl rfl ?_;intro f h
 refine fj 0 (hRs.keep s.ext) h s Tryz.underlying36 c8 rfl rfl rfl (eL _) (by show 1+_≤_;unfold maxLen;omega) (by show (1+_)*_≤_;omega) rfl ?_;intro f w1 v10 h s
 replace s:=s.resl (m:=([n.pr]++n.sc).length) (ys:=ar ([n.pr]++n.sc)) 0 rfl (List.length_append.symm) ((dI _ _).symm)
 refine ac h (ak (h.ev rfl)) rfl ?_;intro f h
 refine ah ?_
 refine hK3 _ _ ?_
 refine al fun K4 hK4=>?_
 refine ae ?_
 refine ac h (ag (h.ev rfl)) rfl ?_;intro f h
 refine ac h (ai cP (h.ev rfl)) rfl ?_;intro f h
 refine aq (V:=vf) (am (aL.of_own s 1 rfl) 67 (cO _ _ _ _)) h bE rfl rfl ?_;intro f h
 refine fj 0 (hRf.keep s.ext) h s Tryz.underlying36 c8 rfl rfl rfl (eL _) (by rw [List.length_append];show 1+_+_≤_;unfold maxLen;omega) (by rw [List.length_append];show (1+_+_)*_≤_;omega) rfl ?_;intro f w1 v14 h s
 replace s:=s.resl (m:=(aJ n).length) (ys:=ar (aJ n)) 0 rfl (by simp only [aJ,List.length_append,List.length_cons,List.length_nil];omega) ((dI _ _).symm)
 refine ac h (ak (h.ev rfl)) rfl ?_;intro f h
 refine ah ?_
 refine hK4 _ _ ?_
 refine al fun K5 hK5=>?_
 refine ae ?_
 refine ac h (ag (h.ev rfl)) rfl ?_;intro f h
 refine ac h (ak (h.ev rfl)) rfl ?_;intro f h
 refine ah ?_
 refine hK5 _ _ ?_
 refine wpIn_ret ?_
 exact bo rfl h s rfl (s.getSl 0 rfl)
theorem c3 (L:List N3) (vo:Value) (no:Int) (w:World) (hO:eN w vo L) (hL:L.length≤40):Calls Tryz.prog 20 [.agg #[vo],.int .i64 no].toArray w (cU w (is (.bool (cx (aR L) no)))):=by
 refine bq Tryz.func20 rfl Tryz.ntmps20 rfl [(0,.agg #[vo]),(1,.int .i64 no)] (by simp) fun f h=>?_
 have s:=St.start w
 refine al fun K1 hK1=>?_
 refine ae ?_
 refine bV (#[vo]) h s rfl rfl rfl ?_;intro f w1 b2 h s
 refine ac h (ak (h.ev rfl)) rfl ?_;intro f h
 refine ah ?_
 refine hK1 _ _ ?_
 refine al fun K2 hK2=>?_
 cases l0:(decide ((ft (aR L) no).1=no):Bool)
 ·skip
  refine ae ?_
  refine au 0 h s bk rfl rfl (rfl) rfl ?_;intro f h
  refine aI h s uz (ik L vo _ (hO.keep s.ext) hL) rfl rfl ?_;intro f w1 v6 hT hE h sq;replace s:=s.sl_new hE hT
  refine ac h (ag (h.ev rfl)) rfl ?_;intro f h
  refine aI h s rF (iQ (aR L) v6 no _ (bX.of_own (s.getSl 0 rfl)) (by rw [List.length_map];omega)) rfl rfl ?_;intro f w1 v9 hT hE h s;obtain rfl:=hT
  refine ac h (mN rR bw (h.ev rfl) (aP _)) rfl ?_;intro f h
  refine ac h (ag (h.ev rfl)) rfl ?_;intro f h
  refine ac h (aw (.bool false) (bU (h.ev rfl) (h.ev rfl)) (congrArg Value.bool l0)) rfl ?_;intro f h
  refine ac h (ag (h.ev rfl)) rfl ?_;intro f h
  refine aB (b:=true) h rfl rfl rfl rfl ?_;intro f h
  refine aB (b:=true) h rfl rfl rfl rfl ?_;intro f h
  refine ac h (aF (h.ev rfl) (h.ev rfl)) rfl ?_;intro f h
  refine ac h (ak (h.ev rfl)) rfl ?_;intro f h
  refine ah ?_
  refine hK2 _ _ ?_
  refine wpIn_ret ?_
  exact bo rfl h s rfl (by show _=_;rw [Dy l0])
 ·skip
  refine ae ?_
  refine au 0 h s bk rfl rfl (rfl) rfl ?_;intro f h
  refine aI h s uz (ik L vo _ (hO.keep s.ext) hL) rfl rfl ?_;intro f w1 v6 hT hE h sq;replace s:=s.sl_new hE hT
  refine ac h (ag (h.ev rfl)) rfl ?_;intro f h
  refine aI h s rF (iQ (aR L) v6 no _ (bX.of_own (s.getSl 0 rfl)) (by rw [List.length_map];omega)) rfl rfl ?_;intro f w1 v9 hT hE h s;obtain rfl:=hT
  refine ac h (mN rR bw (h.ev rfl) (aP _)) rfl ?_;intro f h
  refine ac h (ag (h.ev rfl)) rfl ?_;intro f h
  refine ac h (aw (.bool true) (bU (h.ev rfl) (h.ev rfl)) (congrArg Value.bool l0)) rfl ?_;intro f h
  refine ac h (ag (h.ev rfl)) rfl ?_;intro f h
  refine aA h rfl rfl rfl ?_
  refine ac h (ag (h.ev rfl)) rfl ?_;intro f h
  refine aA h rfl rfl rfl ?_
  refine ac h (dm (h.ev rfl) (h.ev rfl)) rfl ?_;intro f h
  refine ac h (aD (h.ev rfl) (h.ev rfl)) rfl ?_;intro f h
  refine ac h (ak (h.ev rfl)) rfl ?_;intro f h
  refine ah ?_
  refine hK2 _ _ ?_
  refine wpIn_ret ?_
  exact bo rfl h s rfl (by show _=_;rw [DD l0])
theorem yI (L:List N3) (vo:Value) (no:Int) (w:World) (hO:eN w vo L) (hL:L.length≤40):Calls Tryz.prog 22 [.agg #[vo],.int .i64 no].toArray w (cU w (is (.agg (ay (cb L no).1.me (cb L no).1.pr (cb L no).2.1 (cb L no).2.2)))):=by
 refine bq Tryz.func22 rfl Tryz.ntmps22 rfl [(0,.agg #[vo]),(1,.int .i64 no)] (by simp) fun f h=>?_
 have s:=St.start w
 refine al fun K1 hK1=>?_
 refine ae ?_
 refine bV (#[vo]) h s rfl rfl rfl ?_;intro f w1 b2 h s
 refine bf (ay aZ aZ bp bp) h s dL rfl rfl ?_;intro f w1 b4 h s
 refine ah ?_
 refine hK1 _ _ ?_
 refine al fun K2 hK2=>?_
 refine al fun K3 hK3=>?_
 refine ae ?_
 refine ac h (ai cp (h.ev rfl)) rfl ?_;intro f h
 refine aq (V:=vo) (am (aL.of_own s 1 rfl) 0 rfl) h da rfl rfl ?_;intro f h
 refine ac h (a8 (hO.1.keep s.ext) Tryz.underlying22 (h.ev rfl)) rfl ?_;intro f h
 refine ac h (ag (h.ev rfl)) rfl ?_;intro f h
 refine ah ?_
 refine hK3 _ _ ?_
 refine wpIn_block ?_
 refine wpIn_loop_ghost (fun nn aa ww=>∃ k:Nat,Sl 23 aa [(0,.agg #[vo]),(1,.int .i64 no),(2,.pointer (some ⟨b2,0,none⟩)),(4,.pointer (some ⟨b4,0,none⟩)),(8,vo),(9,.int .i64 (L.length:Int)),(10,.int .i64 (k:Int))]∧St w [.blk b4 (.cells (ay aZ aZ bp bp) 42),.blk b2 (.cells (#[vo]) 24)] ww∧nn=L.length - k∧k≤L.length∧∀ j,j<k→decide ((L.getD j z3).1.me.1=no)=false) (L.length - (0)) ⟨0,h.only ⟨rfl,rfl,rfl,rfl,rfl,rfl,aO rfl (by omega),trivial⟩,s.as ⟨rfl,rfl,trivial⟩,rfl,Nat.zero_le _,fun j hj=>absurd hj (Nat.not_lt_zero _)⟩ ?_
 rintro _ f w1 ⟨k,h,s,hnn,hp0,hp1⟩
 refine al fun K4 hK4=>?_
 refine ae ?_
 refine ac h (bS (h.ev rfl) (h.ev rfl)) rfl ?_;intro f h
 refine ah ?_
 refine hK4 _ _ ?_
 refine al fun K5 hK5=>?_
 refine bK h rfl (fun hc=>?_) (fun hc=>?_)
 ·replace hc:=of_decide_eq_true hc
  refine wpIn_skip ?_
  refine hK5 _ _ ?_
  refine al fun K6 hK6=>?_
  refine wpIn_block ?_
  refine al fun K7 hK7=>?_
  refine ae ?_
  have hkl:k<L.length:=by omega
  refine ac h (cc (hO.1.keep s.ext) (k) Tryz.underlying22 eA (h.ev rfl) (h.ev rfl) (by omega) (by omega)) rfl ?_;intro f h
  refine ax ((hO.1.keep s.ext).el (k) (by omega) (by decide) (D:=ay (L.getD k z3).1.me (L.getD k z3).1.pr (L.getD k z3).2.1 (L.getD k z3).2.2) (df L k hkl)) h aW rfl (ap _ _ _ _) rfl ?_;intro f h
  refine bf (ay aZ aZ bp bp) h s dL rfl rfl ?_;intro f w1 b6 h s
  refine az 0 h s aW rfl rfl rfl (ap _ _ _ _) (ap _ _ _ _) (a7 (dc ((hO.2 _ (bu hkl)).1.keep s.ext)) (dc ((hO.2 _ (bu hkl)).2.keep s.ext))) ?_;intro w1 s
  refine ah ?_
  refine hK7 _ _ ?_
  refine al fun K8 hK8=>?_
  refine ae ?_
  refine ac h (ai aK (h.ev rfl)) rfl ?_;intro f h
  refine ac h (ai aH (h.ev rfl)) rfl ?_;intro f h
  refine aq (am (aL.of_own s 0 rfl) 0 (bZ _ _ _ _)) h bw rfl rfl ?_;intro f h
  refine ac h (ag (h.ev rfl)) rfl ?_;intro f h
  refine ac h (bU (h.ev rfl) (h.ev rfl)) rfl ?_;intro f h
  refine ah ?_
  refine hK8 _ _ ?_
  refine bK h rfl (fun hc=>?_) (fun hc=>?_)
  ·refine al fun K9 hK9=>?_
   refine ae ?_
   refine au 0 h s aW rfl rfl (ap _ _ _ _) rfl ?_;intro f h
   refine az 1 h s aW rfl rfl rfl (ap _ _ _ _) (ap _ _ _ _) (a7 (dc ((hO.2 _ (bu hkl)).1.keep s.ext)) (dc ((hO.2 _ (bu hkl)).2.keep s.ext))) ?_;intro w1 s
   refine ah ?_
   refine hK9 _ _ ?_
   refine wpIn_ret ?_
   refine bQ ?_
   refine aY ?_
   refine aY ?_
   refine bQ ?_
   refine aY ?_
   exact c5 1 rfl h s aW rfl rfl (ap _ _ _ _) (by show _=_;rw [uG hkl hp1 hc])
  ·refine wpIn_skip ?_
   refine bF ?_
   refine hK6 _ _ ?_
   refine ae ?_
   refine ac h (ce (h.ev rfl) (h.ev rfl) (by omega)) rfl ?_;intro f h
   refine ac h (ag (h.ev rfl)) rfl ?_;intro f h
   refine ah ?_
   refine bT ?_
   exact ⟨_,by omega,⟨k+1,h.only ⟨rfl,rfl,rfl,rfl,rfl,rfl,aO rfl (by omega),trivial⟩,St.as (s.pick _ (List.sublist_append_right [_] _)) ⟨rfl,rfl,trivial⟩,rfl,by omega,de (q:=fun j=>decide ((L.getD j z3).1.me.1=no)) hp1 hc⟩⟩
 ·replace hc:=of_decide_eq_false hc
  refine wpIn_exit ?_
  refine bJ ?_
  refine bJ ?_
  refine cC ?_
  refine hK2 _ _ ?_
  refine al fun K10 hK10=>?_
  refine ae ?_
  refine ac h (dU mM rfl) rfl ?_;intro f h
  refine ac h (nA p3 (h.ev rfl)) rfl ?_;intro f h
  refine az 0 h s aW rfl rfl rfl (ap _ _ _ _) (ap _ _ _ _) (a7 (rfl) (rfl)) ?_;intro w1 s
  refine ah ?_
  refine hK10 _ _ ?_
  refine wpIn_ret ?_
  exact c5 0 rfl h s aW rfl rfl (ap _ _ _ _) (by show _=_;rw [wX (by omega) hp1];rfl)
theorem r3 (L:List N3) (vo:Value) (no:Int) (w:World) (hO:eN w vo L) (hL:L.length≤40):Calls Tryz.prog 30 [.agg #[vo],.int .i64 no].toArray w (cU w (BR w 42 (gN L no))):=by
 refine bq Tryz.func30 rfl Tryz.ntmps30 rfl [(0,.agg #[vo]),(1,.int .i64 no)] (by simp) fun f h=>?_
 have s:=St.start w
 refine al fun K1 hK1=>?_
 refine ae ?_
 refine bV (#[vo]) h s rfl rfl rfl ?_;intro f w1 b2 h s
 refine bf (#[bp]) h s d3 rfl rfl ?_;intro f w1 b4 h s
 refine ah ?_
 refine hK1 _ _ ?_
 refine al fun K2 hK2=>?_
 refine ae ?_
 refine ac h (co g5) rfl ?_;intro f h
 refine bf (#[bp]) h s d3 rfl rfl ?_;intro f w1 b5 h s
 refine az 0 h s bk rfl rfl rfl (rfl) (rfl) (cq (rfl)) ?_;intro w1 s
 refine ah ?_
 refine hK2 _ _ ?_
 refine al fun K3 hK3=>?_
 refine al fun K4 hK4=>?_
 refine ae ?_
 replace s:=s.nilSl 42 68
 refine ac h (ai cp (h.ev rfl)) rfl ?_;intro f h
 refine aq (V:=vo) (am (aL.of_own s 3 rfl) 0 rfl) h da rfl rfl ?_;intro f h
 refine ac h (a8 (hO.1.keep s.ext) Tryz.underlying22 (h.ev rfl)) rfl ?_;intro f h
 refine ac h (ag (h.ev rfl)) rfl ?_;intro f h
 refine ah ?_
 refine hK4 _ _ ?_
 refine wpIn_block ?_
 refine wpIn_loop_ghost (fun nn aa ww=>∃ k:Nat,∃ vb:Value,Sl 29 aa [(0,.agg #[vo]),(1,.int .i64 no),(2,.pointer (some ⟨b2,0,none⟩)),(4,.pointer (some ⟨b4,0,none⟩)),(5,.pointer (some ⟨b5,0,none⟩)),(10,vo),(11,.int .i64 (L.length:Int)),(12,.int .i64 (k:Int))]∧St w [.sl vb 42 68 (gN (L.take k) no).length (aG (gN (L.take k) no)),.blk b5 (.cells (#[vb]) 24),.blk b4 (.cells (#[bp]) 24),.blk b2 (.cells (#[vo]) 24)] ww∧nn=L.length - k∧k≤L.length) (L.length - (0)) ⟨0,bp,h.only ⟨rfl,rfl,rfl,rfl,rfl,rfl,rfl,aO rfl (by omega),trivial⟩,s.as ⟨rfl,rfl,rfl,rfl,trivial⟩,rfl,Nat.zero_le _⟩ ?_
 rintro _ f w1 ⟨k,vb,h,s,hnn,hp0⟩
 have hpl:=uv (L.take k) no
 rw [List.length_take] at hpl
 refine al fun K5 hK5=>?_
 refine ae ?_
 refine ac h (bS (h.ev rfl) (h.ev rfl)) rfl ?_;intro f h
 refine ah ?_
 refine hK5 _ _ ?_
 refine al fun K6 hK6=>?_
 refine bK h rfl (fun hc=>?_) (fun hc=>?_)
 ·replace hc:=of_decide_eq_true hc
  refine wpIn_skip ?_
  refine hK6 _ _ ?_
  refine al fun K7 hK7=>?_
  refine wpIn_block ?_
  refine al fun K8 hK8=>?_
  refine ae ?_
  have hkl:k<L.length:=by omega
  refine ac h (cc (hO.1.keep s.ext) (k) Tryz.underlying22 eA (h.ev rfl) (h.ev rfl) (by omega) (by omega)) rfl ?_;intro f h
  refine ax ((hO.1.keep s.ext).el (k) (by omega) (by decide) (D:=ay (L.getD k z3).1.me (L.getD k z3).1.pr (L.getD k z3).2.1 (L.getD k z3).2.2) (df L k hkl)) h aW rfl (ap _ _ _ _) rfl ?_;intro f h
  refine bf (ay aZ aZ bp bp) h s dL rfl rfl ?_;intro f w1 b7 h s
  refine az 0 h s aW rfl rfl rfl (ap _ _ _ _) (ap _ _ _ _) (a7 (dc ((hO.2 _ (bu hkl)).1.keep s.ext)) (dc ((hO.2 _ (bu hkl)).2.keep s.ext))) ?_;intro w1 s
  refine ah ?_
  refine hK8 _ _ ?_
  refine al fun K9 hK9=>?_
  cases h2:(decide ((L.getD k z3).1.me.1≠no):Bool)
  ·skip
   refine ae ?_
   refine ac h (ai aK (h.ev rfl)) rfl ?_;intro f h
   refine ac h (ai aH (h.ev rfl)) rfl ?_;intro f h
   refine aq (am (aL.of_own s 0 rfl) 0 (bZ _ _ _ _)) h bw rfl rfl ?_;intro f h
   refine ac h (ag (h.ev rfl)) rfl ?_;intro f h
   refine ac h (aw (.bool false) (cy (h.ev rfl) (h.ev rfl)) (congrArg Value.bool h2)) rfl ?_;intro f h
   refine ah ?_
   refine hK9 _ _ ?_
   refine wpIn_cond_false (h.ev rfl) ?_
   refine wpIn_skip ?_
   refine bF ?_
   refine hK7 _ _ ?_
   refine ae ?_
   refine ac h (ce (h.ev rfl) (h.ev rfl) (by omega)) rfl ?_;intro f h
   refine ac h (ag (h.ev rfl)) rfl ?_;intro f h
   refine ah ?_
   refine bT ?_
   exact ⟨_,by omega,⟨k+1,vb,h.only ⟨rfl,rfl,rfl,rfl,rfl,rfl,rfl,aO rfl (by omega),trivial⟩,St.as (s.pick _ (List.sublist_append_right [_] _)) ⟨gX (by rw [zN hkl h2]) (by rw [zN hkl h2]),rfl,rfl,rfl,trivial⟩,rfl,by omega⟩⟩
  ·skip
   refine ae ?_
   refine ac h (ai aK (h.ev rfl)) rfl ?_;intro f h
   refine ac h (ai aH (h.ev rfl)) rfl ?_;intro f h
   refine aq (am (aL.of_own s 0 rfl) 0 (bZ _ _ _ _)) h bw rfl rfl ?_;intro f h
   refine ac h (ag (h.ev rfl)) rfl ?_;intro f h
   refine ac h (aw (.bool true) (cy (h.ev rfl) (h.ev rfl)) (congrArg Value.bool h2)) rfl ?_;intro f h
   refine ah ?_
   refine hK9 _ _ ?_
   refine wpIn_cond_true (h.ev rfl) ?_
   refine ae ?_
   refine ac h (ai cp (h.ev rfl)) rfl ?_;intro f h
   refine aq (V:=vb) (am (aL.of_own s 2 rfl) 0 rfl) h da rfl rfl ?_;intro f h
   refine au 0 h s aW rfl rfl (ap _ _ _ _) rfl ?_;intro f h
   refine cm (vs:=[.agg (ay (L.getD k z3).1.me (L.getD k z3).1.pr (L.getD k z3).2.1 (L.getD k z3).2.2)]) [.tmp 23] h s Tryz.underlying22 gY rfl rfl (jU (L.getD k z3)) rfl rfl rfl ?_;intro f w1 v24 h s
   refine dP 2 0 h s Tryz.underlying22 gY rfl rfl rfl rfl (by decide) (rH (dc (hO.2 _ (bu hkl)).1) (dc (hO.2 _ (bu hkl)).2)) (by first|(unfold maxLen;omega)|(simp only [List.length_append,List.length_cons,List.length_nil];unfold maxLen;omega)) (by first|omega|(simp only [List.length_append,List.length_cons,List.length_nil];omega)) rfl ?_;intro f w1 v25 h s
   replace s:=s.pick _ (List.sublist_cons_self _ _)
   replace s:=s.resl (m:=((gN (L.take k) no)++[(L.getD k z3)]).length) (ys:=aG ((gN (L.take k) no)++[(L.getD k z3)])) 1 rfl (by simp only [List.length_append,List.length_cons,List.length_nil]) (by rw [kp,jM])
   refine ac h (ai cp (h.ev rfl)) rfl ?_;intro f h
   refine br 2 h s da rfl rfl rfl (by show 0<1;decide) (aQ (s.getSl 1 rfl)) ?_;intro w1 s
   replace s:=s.recell (D:=#[v25]) 2 rfl rfl
   refine ah ?_
   refine bF ?_
   refine hK7 _ _ ?_
   refine ae ?_
   refine ac h (ce (h.ev rfl) (h.ev rfl) (by omega)) rfl ?_;intro f h
   refine ac h (ag (h.ev rfl)) rfl ?_;intro f h
   refine ah ?_
   refine bT ?_
   exact ⟨_,by omega,⟨k+1,v25,h.only ⟨rfl,rfl,rfl,rfl,rfl,rfl,rfl,aO rfl (by omega),trivial⟩,St.as (s.pick _ (List.sublist_append_right [_] _)) ⟨gX (by rw [zZ hkl h2]) (by rw [zZ hkl h2]),rfl,rfl,rfl,trivial⟩,rfl,by omega⟩⟩
 ·replace hc:=of_decide_eq_false hc
  refine wpIn_exit ?_
  refine bJ ?_
  refine bJ ?_
  refine cC ?_
  refine hK3 _ _ ?_
  refine al fun K10 hK10=>?_
  refine ae ?_
  refine au 1 h s bk rfl rfl (rfl) rfl ?_;intro f h
  refine az 2 h s bk rfl rfl rfl (rfl) (rfl) (cq (aQ (s.getSl 0 rfl))) ?_;intro w1 s
  refine ah ?_
  refine hK10 _ _ ?_
  refine wpIn_ret ?_
  exact c5 2 rfl h s bk rfl rfl (rfl) (wD (by obtain rfl:k=L.length:=(by omega);rw [List.take_length]) (s.getSl 0 rfl))
end Go.Proofs.YthggibfkgofncaaGreat
