/- What the reference of chord answers for members, who is known, who lives, a node, an overlay without one. -/
import Derived.Test.YthggibfkgofncaaGreatCon
set_option linter.unusedVariables false
set_option linter.unusedSimpArgs false
set_option linter.unusedSectionVars false
namespace Go.Proofs.YthggibfkgofncaaGreat
open Go.RowKit
theorem iE (l:List Mb) (vh:Value) (no:Int) (w:World) (hR:bK w vh 33 l.length (av l)) (hln:l.length≤1000):Calls Tryz.prog 43 [vh,.int .i64 no].toArray w (cT w (is (.agg (au (fm l no))))):=by
 refine bj Tryz.func43 rfl Tryz.ntmps43 rfl [(0,vh),(1,.int .i64 no)] (by simp) fun f h=>?_
 have s:=St.start w
 refine aj fun K1 hK1=>?_
 refine ae ?_
 refine ba (au a8) h s cz rfl rfl ?_;intro f w1 b4 h s
 refine ah ?_
 refine hK1 _ _ ?_
 refine aj fun K2 hK2=>?_
 refine aj fun K3 hK3=>?_
 refine ae ?_
 refine ac h (ag (h.ev rfl)) rfl ?_;intro f h
 refine ac h (aY (hR.keep s.ext) Tryz.underlying36 (h.ev rfl)) rfl ?_;intro f h
 refine ac h (ag (h.ev rfl)) rfl ?_;intro f h
 refine ah ?_
 refine hK3 _ _ ?_
 refine wpIn_block ?_
 refine wpIn_loop_ghost (fun nn aa ww=>∃ k:Nat,Sl 20 aa [(0,vh),(1,.int .i64 no),(4,.pointer (some ⟨b4,0,none⟩)),(7,vh),(8,.int .i64 (l.length:Int)),(9,.int .i64 (k:Int))]∧St w [.blk b4 (.cells (au a8) 28)] ww∧nn=l.length - k∧k≤l.length∧∀ j,j<k→decide ((l.getD j a8).1=no)=false) (l.length - (0)) ⟨0,h.only ⟨rfl,rfl,rfl,rfl,rfl,aR rfl (by omega),trivial⟩,s.as ⟨rfl,trivial⟩,rfl,Nat.zero_le _,fun j hj=>absurd hj (Nat.not_lt_zero _)⟩ ?_
 rintro _ f w1 ⟨k,h,s,hnn,hp0,hp1⟩
 refine aj fun K4 hK4=>?_
 refine ae ?_
 refine ac h (bD (h.ev rfl) (h.ev rfl)) rfl ?_;intro f h
 refine ah ?_
 refine hK4 _ _ ?_
 refine aj fun K5 hK5=>?_
 refine bA h rfl (fun hc=>?_) (fun hc=>?_)
 ·replace hc:=of_decide_eq_true hc
  refine wpIn_skip ?_
  refine hK5 _ _ ?_
  refine aj fun K6 hK6=>?_
  refine wpIn_block ?_
  refine aj fun K7 hK7=>?_
  refine ae ?_
  have hkl:k<l.length:=by omega
  refine ac h (ce (hR.keep s.ext) (k) Tryz.underlying36 cG (h.ev rfl) (h.ev rfl) (by omega) (by omega)) rfl ?_;intro f h
  refine aM ((hR.keep s.ext).el (k) (by omega) (by decide) (D:=au (l.getD k a8)) (cK l k hkl)) h aL rfl (ak _) rfl ?_;intro f h
  refine ba (au a8) h s cz rfl rfl ?_;intro f w1 b6 h s
  refine ay 0 h s aL rfl rfl rfl (ak _) (ak _) (bf _) ?_;intro w1 s
  refine ah ?_
  refine hK7 _ _ ?_
  refine aj fun K8 hK8=>?_
  refine ae ?_
  refine ac h (al aP (h.ev rfl)) rfl ?_;intro f h
  refine ar (am (bc.of_own s 0 rfl) 0 (aV _)) h bO rfl rfl ?_;intro f h
  refine ac h (ag (h.ev rfl)) rfl ?_;intro f h
  refine ac h (cc (h.ev rfl) (h.ev rfl)) rfl ?_;intro f h
  refine ah ?_
  refine hK8 _ _ ?_
  refine bA h rfl (fun hc=>?_) (fun hc=>?_)
  ·refine aj fun K9 hK9=>?_
   refine ae ?_
   refine ao 0 h s aL rfl rfl (ak _) rfl ?_;intro f h
   refine ay 1 h s aL rfl rfl rfl (ak _) (ak _) (bf _) ?_;intro w1 s
   refine ah ?_
   refine hK9 _ _ ?_
   refine wpIn_ret ?_
   refine bu ?_
   refine aQ ?_
   refine aQ ?_
   refine bu ?_
   refine aQ ?_
   exact d7 1 rfl h s aL rfl rfl (ak _) (by show _=_;unfold fm;rw [ld hkl hp1 hc]<;>rfl)
  ·refine wpIn_skip ?_
   refine bF ?_
   refine hK6 _ _ ?_
   refine ae ?_
   refine ac h (cg (h.ev rfl) (h.ev rfl) (by omega)) rfl ?_;intro f h
   refine ac h (ag (h.ev rfl)) rfl ?_;intro f h
   refine ah ?_
   refine bQ ?_
   exact ⟨_,by omega,⟨k+1,h.only ⟨rfl,rfl,rfl,rfl,rfl,aR rfl (by omega),trivial⟩,St.as (s.pick _ (List.sublist_append_right [_] _)) ⟨rfl,trivial⟩,rfl,by omega,cV (q:=fun j=>decide ((l.getD j a8).1=no)) hp1 hc⟩⟩
 ·replace hc:=of_decide_eq_false hc
  refine wpIn_exit ?_
  refine bw ?_
  refine bw ?_
  refine cq ?_
  refine hK2 _ _ ?_
  refine aj fun K10 hK10=>?_
  refine ae ?_
  refine ac h (dz my (h.ev rfl)) rfl ?_;intro f h
  refine ay 0 h s aL rfl rfl rfl (ak _) (ak _) (bf _) ?_;intro w1 s
  refine ah ?_
  refine hK10 _ _ ?_
  refine wpIn_ret ?_
  exact d7 0 rfl h s aL rfl rfl (ak _) (by show _=_;unfold fm;rw [k4 (by omega) hp1]<;>rfl)
theorem eo (L:List N3) (vo:Value) (w:World) (hO:cf w vo L) (hL:L.length≤40):Calls Tryz.prog 16 [.agg #[vo]].toArray w (cT w (fun v w'=>cN w' w.heap.size 28 33 v (aN L).length (av (aN L)))):=by
 refine bj Tryz.func16 rfl Tryz.ntmps16 rfl [(0,.agg #[vo])] (by simp) fun f h=>?_
 have s:=St.start w
 refine aj fun K1 hK1=>?_
 refine ae ?_
 refine bT (#[vo]) h s rfl rfl rfl ?_;intro f w1 b1 h s
 refine ac h (ai (h.ev rfl)) rfl ?_;intro f h
 refine ah ?_
 refine hK1 _ _ ?_
 refine aj fun K2 hK2=>?_
 refine ae ?_
 refine cF (vs:=[]) [] h s Tryz.underlying36 dD rfl rfl (by simp) rfl rfl rfl ?_;intro f w1 v6 h s
 replace s:=s.resl (m:=(aN (L.take 0)).length) (ys:=av (aN (L.take 0))) 0 rfl (rfl) (rfl)
 refine ac h (ai (h.ev rfl)) rfl ?_;intro f h
 refine ah ?_
 refine hK2 _ _ ?_
 refine aj fun K3 hK3=>?_
 refine aj fun K4 hK4=>?_
 refine ae ?_
 refine ac h (al cb (h.ev rfl)) rfl ?_;intro f h
 refine ar (V:=vo) (am (bc.of_own s 1 rfl) 0 rfl) h cH rfl rfl ?_;intro f h
 refine ac h (aY (hO.1.keep s.ext) Tryz.underlying22 (h.ev rfl)) rfl ?_;intro f h
 refine ac h (ag (h.ev rfl)) rfl ?_;intro f h
 refine ah ?_
 refine hK4 _ _ ?_
 refine wpIn_block ?_
 refine wpIn_loop_ghost (fun nn aa ww=>∃ k:Nat,∃ vb:Value,Sl 21 aa [(0,.agg #[vo]),(1,.pointer (some ⟨b1,0,none⟩)),(3,vb),(8,vo),(9,.int .i64 (L.length:Int)),(10,.int .i64 (k:Int))]∧St w [.sl vb 28 33 (aN (L.take k)).length (av (aN (L.take k))),.blk b1 (.cells (#[vo]) 24)] ww∧nn=L.length - k∧k≤L.length) (L.length - (0)) ⟨0,v6,h.only ⟨rfl,rfl,rfl,rfl,rfl,aR rfl (by omega),trivial⟩,s.as ⟨rfl,rfl,trivial⟩,rfl,Nat.zero_le _⟩ ?_
 rintro _ f w1 ⟨k,vb,h,s,hnn,hp0⟩
 refine aj fun K5 hK5=>?_
 refine ae ?_
 refine ac h (bD (h.ev rfl) (h.ev rfl)) rfl ?_;intro f h
 refine ah ?_
 refine hK5 _ _ ?_
 refine aj fun K6 hK6=>?_
 refine bA h rfl (fun hc=>?_) (fun hc=>?_)
 ·replace hc:=of_decide_eq_true hc
  refine wpIn_skip ?_
  refine hK6 _ _ ?_
  refine aj fun K7 hK7=>?_
  refine wpIn_block ?_
  refine aj fun K8 hK8=>?_
  refine ae ?_
  have hkl:k<L.length:=by omega
  refine ac h (ce (hO.1.keep s.ext) (k) Tryz.underlying22 eX (h.ev rfl) (h.ev rfl) (by omega) (by omega)) rfl ?_;intro f h
  refine aM ((hO.1.keep s.ext).el (k) (by omega) (by decide) (D:=aD (L.getD k z3).1.me (L.getD k z3).1.pr (L.getD k z3).2.1 (L.getD k z3).2.2) (c6 L k hkl)) h bS rfl (aA _ _ _ _) rfl ?_;intro f h
  refine ba (aD a8 a8 bo bo) h s dH rfl rfl ?_;intro f w1 b5 h s
  refine ay 0 h s bS rfl rfl rfl (aA _ _ _ _) (aA _ _ _ _) (bW (cx ((hO.2 _ (bh hkl)).1.keep s.ext)) (cx ((hO.2 _ (bh hkl)).2.keep s.ext))) ?_;intro w1 s
  refine ah ?_
  refine hK8 _ _ ?_
  refine ae ?_
  refine ac h (ag (h.ev rfl)) rfl ?_;intro f h
  refine ac h (al a6 (h.ev rfl)) rfl ?_;intro f h
  refine aM (bc.subL (bc.of_own s 0 rfl) 0 33 (D:=au (L.getD k z3).1.me) (bU _ _ _ _)) h aL rfl (ak _) rfl ?_;intro f h
  refine cF (vs:=[.agg (au (L.getD k z3).1.me)]) [.tmp 16] h s Tryz.underlying36 dD rfl rfl (gU _) rfl rfl rfl ?_;intro f w1 v17 h s
  refine dt 2 0 h s Tryz.underlying36 dD rfl rfl rfl rfl (by decide) (by rw [eh];exact bf _) (by rw [List.length_map,List.length_take];unfold maxLen;omega) (by rw [List.length_map,List.length_take];omega) rfl ?_;intro f w1 v18 h s
  replace s:=s.pick _ (List.sublist_cons_self _ _)
  replace s:=s.resl (m:=(aN (L.take (k+1))).length) (ys:=av (aN (L.take (k+1)))) 1 rfl (by rw [jE hkl,List.length_append];rfl) (by rw [jE hkl,eh,jD])
  refine ac h (ai (h.ev rfl)) rfl ?_;intro f h
  refine ah ?_
  refine bF ?_
  refine hK7 _ _ ?_
  refine ae ?_
  refine ac h (cg (h.ev rfl) (h.ev rfl) (by omega)) rfl ?_;intro f h
  refine ac h (ag (h.ev rfl)) rfl ?_;intro f h
  refine ah ?_
  refine bQ ?_
  exact ⟨_,by omega,⟨k+1,v18,h.only ⟨rfl,rfl,rfl,rfl,rfl,aR rfl (by omega),trivial⟩,St.as (s.pick _ (List.sublist_append_right [_] _)) ⟨rfl,rfl,trivial⟩,rfl,by omega⟩⟩
 ·replace hc:=of_decide_eq_false hc
  refine wpIn_exit ?_
  refine bw ?_
  refine bw ?_
  refine cq ?_
  refine hK3 _ _ ?_
  refine aj fun K9 hK9=>?_
  refine ae ?_
  refine ac h (ag (h.ev rfl)) rfl ?_;intro f h
  refine ac h (ai (h.ev rfl)) rfl ?_;intro f h
  refine ah ?_
  refine hK9 _ _ ?_
  refine wpIn_ret ?_
  exact aX rfl h s rfl ((by obtain rfl:k=L.length:=(by omega);rw [List.take_length] at s;exact(s.getSl 0 rfl)))
theorem kj (n:Nd) (vs vf:Value) (w:World) (hRs:bK w vs 33 n.sc.length (av n.sc)) (hRf:bK w vf 33 n.fg.length (av n.fg)) (hns:n.sc.length≤400) (hnf:n.fg.length≤400):Calls Tryz.prog 42 [.agg (aD n.me n.pr vs vf)].toArray w (cT w (fun v w'=>cN w' w.heap.size 28 33 v (aS n).length (av (aS n)))):=by
 refine bj Tryz.func42 rfl Tryz.ntmps42 rfl [(0,.agg (aD n.me n.pr vs vf))] (by simp) fun f h=>?_
 have s:=St.start w
 refine aj fun K1 hK1=>?_
 refine ae ?_
 refine bT (aD n.me n.pr vs vf) h s rfl rfl rfl ?_;intro f w1 b1 h s
 refine ac h (ai (h.ev rfl)) rfl ?_;intro f h
 refine ah ?_
 refine hK1 _ _ ?_
 refine aj fun K2 hK2=>?_
 refine ae ?_
 refine ac h (al cy (h.ev rfl)) rfl ?_;intro f h
 refine aM (bc.subL (bc.of_own s 0 rfl) 33 33 (D:=au n.pr) (co _ _ _ _)) h aL rfl (ak _) rfl ?_;intro f h
 refine cF (vs:=[.agg (au n.pr)]) [.tmp 5] h s Tryz.underlying36 dD rfl rfl (gU _) rfl rfl rfl ?_;intro f w1 v6 h s
 replace s:=s.resl (m:=[n.pr].length) (ys:=av [n.pr]) 0 rfl (rfl) (by rw [eh,dx])
 refine ac h (ai (h.ev rfl)) rfl ?_;intro f h
 refine ah ?_
 refine hK2 _ _ ?_
 refine aj fun K3 hK3=>?_
 refine ae ?_
 refine ac h (ag (h.ev rfl)) rfl ?_;intro f h
 refine ac h (al bI (h.ev rfl)) rfl ?_;intro f h
 refine ar (V:=vs) (am (bc.of_own s 1 rfl) 66 (bC _ _ _ _)) h bH rfl rfl ?_;intro f h
 refine fM 0 (hRs.keep s.ext) h s Tryz.underlying36 dD rfl rfl rfl (fe _) (by show 1+_≤_;unfold maxLen;omega) (by show (1+_)*_≤_;omega) rfl ?_;intro f w1 v10 h s
 replace s:=s.resl (m:=([n.pr]++n.sc).length) (ys:=av ([n.pr]++n.sc)) 0 rfl (List.length_append.symm) ((dR _ _).symm)
 refine ac h (ai (h.ev rfl)) rfl ?_;intro f h
 refine ah ?_
 refine hK3 _ _ ?_
 refine aj fun K4 hK4=>?_
 refine ae ?_
 refine ac h (ag (h.ev rfl)) rfl ?_;intro f h
 refine ac h (al cC (h.ev rfl)) rfl ?_;intro f h
 refine ar (V:=vf) (am (bc.of_own s 1 rfl) 67 (cB _ _ _ _)) h bH rfl rfl ?_;intro f h
 refine fM 0 (hRf.keep s.ext) h s Tryz.underlying36 dD rfl rfl rfl (fe _) (by rw [List.length_append];show 1+_+_≤_;unfold maxLen;omega) (by rw [List.length_append];show (1+_+_)*_≤_;omega) rfl ?_;intro f w1 v14 h s
 replace s:=s.resl (m:=(aS n).length) (ys:=av (aS n)) 0 rfl (by simp only [aS,List.length_append,List.length_cons,List.length_nil];omega) ((dR _ _).symm)
 refine ac h (ai (h.ev rfl)) rfl ?_;intro f h
 refine ah ?_
 refine hK4 _ _ ?_
 refine aj fun K5 hK5=>?_
 refine ae ?_
 refine ac h (ag (h.ev rfl)) rfl ?_;intro f h
 refine ac h (ai (h.ev rfl)) rfl ?_;intro f h
 refine ah ?_
 refine hK5 _ _ ?_
 refine wpIn_ret ?_
 exact aX rfl h s rfl (s.getSl 0 rfl)
theorem cS (L:List N3) (vo:Value) (no:Int) (w:World) (hO:cf w vo L) (hL:L.length≤40):Calls Tryz.prog 20 [.agg #[vo],.int .i64 no].toArray w (cT w (is (.bool (cw (aN L) no)))):=by
 refine bj Tryz.func20 rfl Tryz.ntmps20 rfl [(0,.agg #[vo]),(1,.int .i64 no)] (by simp) fun f h=>?_
 have s:=St.start w
 refine aj fun K1 hK1=>?_
 refine ae ?_
 refine bT (#[vo]) h s rfl rfl rfl ?_;intro f w1 b2 h s
 refine ac h (ai (h.ev rfl)) rfl ?_;intro f h
 refine ah ?_
 refine hK1 _ _ ?_
 refine aj fun K2 hK2=>?_
 cases l0:(decide ((fm (aN L) no).1=no):Bool)
 ·skip
  refine ae ?_
  refine ao 0 h s aU rfl rfl (rfl) rfl ?_;intro f h
  refine aF h s mL (eo L vo _ (hO.keep s.ext) hL) rfl rfl ?_;intro f w1 v6 hT hE h sq;replace s:=s.sl_new hE hT
  refine ac h (ag (h.ev rfl)) rfl ?_;intro f h
  refine aF h s rN (iE (aN L) v6 no _ (bK.of_own (s.getSl 0 rfl)) (by rw [List.length_map];omega)) rfl rfl ?_;intro f w1 v9 hT hE h s;obtain rfl:=hT
  refine ac h (mO qZ bO (h.ev rfl) (aV _)) rfl ?_;intro f h
  refine ac h (ag (h.ev rfl)) rfl ?_;intro f h
  refine ac h (aw (.bool false) (cc (h.ev rfl) (h.ev rfl)) (congrArg Value.bool l0)) rfl ?_;intro f h
  refine ac h (ag (h.ev rfl)) rfl ?_;intro f h
  refine aC (b:=true) h rfl rfl rfl rfl ?_;intro f h
  refine aC (b:=true) h rfl rfl rfl rfl ?_;intro f h
  refine ac h (aE (h.ev rfl) (h.ev rfl)) rfl ?_;intro f h
  refine ac h (ai (h.ev rfl)) rfl ?_;intro f h
  refine ah ?_
  refine hK2 _ _ ?_
  refine wpIn_ret ?_
  exact aX rfl h s rfl (by show _=_;rw [Bo l0])
 ·skip
  refine ae ?_
  refine ao 0 h s aU rfl rfl (rfl) rfl ?_;intro f h
  refine aF h s mL (eo L vo _ (hO.keep s.ext) hL) rfl rfl ?_;intro f w1 v6 hT hE h sq;replace s:=s.sl_new hE hT
  refine ac h (ag (h.ev rfl)) rfl ?_;intro f h
  refine aF h s rN (iE (aN L) v6 no _ (bK.of_own (s.getSl 0 rfl)) (by rw [List.length_map];omega)) rfl rfl ?_;intro f w1 v9 hT hE h s;obtain rfl:=hT
  refine ac h (mO qZ bO (h.ev rfl) (aV _)) rfl ?_;intro f h
  refine ac h (ag (h.ev rfl)) rfl ?_;intro f h
  refine ac h (aw (.bool true) (cc (h.ev rfl) (h.ev rfl)) (congrArg Value.bool l0)) rfl ?_;intro f h
  refine ac h (ag (h.ev rfl)) rfl ?_;intro f h
  refine aB h rfl rfl rfl ?_
  refine ac h (ag (h.ev rfl)) rfl ?_;intro f h
  refine aB h rfl rfl rfl ?_
  refine ac h (c0 (h.ev rfl) (h.ev rfl)) rfl ?_;intro f h
  refine ac h (aJ (h.ev rfl) (h.ev rfl)) rfl ?_;intro f h
  refine ac h (ai (h.ev rfl)) rfl ?_;intro f h
  refine ah ?_
  refine hK2 _ _ ?_
  refine wpIn_ret ?_
  exact aX rfl h s rfl (by show _=_;rw [BD l0])
theorem gx (L:List N3) (vo:Value) (no:Int) (w:World) (hO:cf w vo L) (hL:L.length≤40):Calls Tryz.prog 22 [.agg #[vo],.int .i64 no].toArray w (cT w (is (.agg (aD (ax L no).1.me (ax L no).1.pr (ax L no).2.1 (ax L no).2.2)))):=by
 refine bj Tryz.func22 rfl Tryz.ntmps22 rfl [(0,.agg #[vo]),(1,.int .i64 no)] (by simp) fun f h=>?_
 have s:=St.start w
 refine aj fun K1 hK1=>?_
 refine ae ?_
 refine bT (#[vo]) h s rfl rfl rfl ?_;intro f w1 b2 h s
 refine ba (aD a8 a8 bo bo) h s dH rfl rfl ?_;intro f w1 b4 h s
 refine ah ?_
 refine hK1 _ _ ?_
 refine aj fun K2 hK2=>?_
 refine aj fun K3 hK3=>?_
 refine ae ?_
 refine ac h (al cb (h.ev rfl)) rfl ?_;intro f h
 refine ar (V:=vo) (am (bc.of_own s 1 rfl) 0 rfl) h cH rfl rfl ?_;intro f h
 refine ac h (aY (hO.1.keep s.ext) Tryz.underlying22 (h.ev rfl)) rfl ?_;intro f h
 refine ac h (ag (h.ev rfl)) rfl ?_;intro f h
 refine ah ?_
 refine hK3 _ _ ?_
 refine wpIn_block ?_
 refine wpIn_loop_ghost (fun nn aa ww=>∃ k:Nat,Sl 23 aa [(0,.agg #[vo]),(1,.int .i64 no),(2,.pointer (some ⟨b2,0,none⟩)),(4,.pointer (some ⟨b4,0,none⟩)),(8,vo),(9,.int .i64 (L.length:Int)),(10,.int .i64 (k:Int))]∧St w [.blk b4 (.cells (aD a8 a8 bo bo) 42),.blk b2 (.cells (#[vo]) 24)] ww∧nn=L.length - k∧k≤L.length∧∀ j,j<k→decide ((L.getD j z3).1.me.1=no)=false) (L.length - (0)) ⟨0,h.only ⟨rfl,rfl,rfl,rfl,rfl,rfl,aR rfl (by omega),trivial⟩,s.as ⟨rfl,rfl,trivial⟩,rfl,Nat.zero_le _,fun j hj=>absurd hj (Nat.not_lt_zero _)⟩ ?_
 rintro _ f w1 ⟨k,h,s,hnn,hp0,hp1⟩
 refine aj fun K4 hK4=>?_
 refine ae ?_
 refine ac h (bD (h.ev rfl) (h.ev rfl)) rfl ?_;intro f h
 refine ah ?_
 refine hK4 _ _ ?_
 refine aj fun K5 hK5=>?_
 refine bA h rfl (fun hc=>?_) (fun hc=>?_)
 ·replace hc:=of_decide_eq_true hc
  refine wpIn_skip ?_
  refine hK5 _ _ ?_
  refine aj fun K6 hK6=>?_
  refine wpIn_block ?_
  refine aj fun K7 hK7=>?_
  refine ae ?_
  have hkl:k<L.length:=by omega
  refine ac h (ce (hO.1.keep s.ext) (k) Tryz.underlying22 eX (h.ev rfl) (h.ev rfl) (by omega) (by omega)) rfl ?_;intro f h
  refine aM ((hO.1.keep s.ext).el (k) (by omega) (by decide) (D:=aD (L.getD k z3).1.me (L.getD k z3).1.pr (L.getD k z3).2.1 (L.getD k z3).2.2) (c6 L k hkl)) h bS rfl (aA _ _ _ _) rfl ?_;intro f h
  refine ba (aD a8 a8 bo bo) h s dH rfl rfl ?_;intro f w1 b6 h s
  refine ay 0 h s bS rfl rfl rfl (aA _ _ _ _) (aA _ _ _ _) (bW (cx ((hO.2 _ (bh hkl)).1.keep s.ext)) (cx ((hO.2 _ (bh hkl)).2.keep s.ext))) ?_;intro w1 s
  refine ah ?_
  refine hK7 _ _ ?_
  refine aj fun K8 hK8=>?_
  refine ae ?_
  refine ac h (al a6 (h.ev rfl)) rfl ?_;intro f h
  refine ac h (al aP (h.ev rfl)) rfl ?_;intro f h
  refine ar (am (bc.of_own s 0 rfl) 0 (bY _ _ _ _)) h bO rfl rfl ?_;intro f h
  refine ac h (ag (h.ev rfl)) rfl ?_;intro f h
  refine ac h (cc (h.ev rfl) (h.ev rfl)) rfl ?_;intro f h
  refine ah ?_
  refine hK8 _ _ ?_
  refine bA h rfl (fun hc=>?_) (fun hc=>?_)
  ·refine aj fun K9 hK9=>?_
   refine ae ?_
   refine ao 0 h s bS rfl rfl (aA _ _ _ _) rfl ?_;intro f h
   refine ay 1 h s bS rfl rfl rfl (aA _ _ _ _) (aA _ _ _ _) (bW (cx ((hO.2 _ (bh hkl)).1.keep s.ext)) (cx ((hO.2 _ (bh hkl)).2.keep s.ext))) ?_;intro w1 s
   refine ah ?_
   refine hK9 _ _ ?_
   refine wpIn_ret ?_
   refine bu ?_
   refine aQ ?_
   refine aQ ?_
   refine bu ?_
   refine aQ ?_
   exact d7 1 rfl h s bS rfl rfl (aA _ _ _ _) (by show _=_;rw [tN hkl hp1 hc])
  ·refine wpIn_skip ?_
   refine bF ?_
   refine hK6 _ _ ?_
   refine ae ?_
   refine ac h (cg (h.ev rfl) (h.ev rfl) (by omega)) rfl ?_;intro f h
   refine ac h (ag (h.ev rfl)) rfl ?_;intro f h
   refine ah ?_
   refine bQ ?_
   exact ⟨_,by omega,⟨k+1,h.only ⟨rfl,rfl,rfl,rfl,rfl,rfl,aR rfl (by omega),trivial⟩,St.as (s.pick _ (List.sublist_append_right [_] _)) ⟨rfl,rfl,trivial⟩,rfl,by omega,cV (q:=fun j=>decide ((L.getD j z3).1.me.1=no)) hp1 hc⟩⟩
 ·replace hc:=of_decide_eq_false hc
  refine wpIn_exit ?_
  refine bw ?_
  refine bw ?_
  refine cq ?_
  refine hK2 _ _ ?_
  refine aj fun K10 hK10=>?_
  refine ae ?_
  refine ac h (dz my rfl) rfl ?_;intro f h
  refine ac h (oh oP (h.ev rfl)) rfl ?_;intro f h
  refine ay 0 h s bS rfl rfl rfl (aA _ _ _ _) (aA _ _ _ _) (bW (rfl) (rfl)) ?_;intro w1 s
  refine ah ?_
  refine hK10 _ _ ?_
  refine wpIn_ret ?_
  exact d7 0 rfl h s bS rfl rfl (aA _ _ _ _) (by show _=_;rw [t2 (by omega) hp1];rfl)
theorem A5 (L:List N3) (vo:Value) (no:Int) (w:World) (hO:cf w vo L) (hL:L.length≤40):Calls Tryz.prog 30 [.agg #[vo],.int .i64 no].toArray w (cT w (zT w 42 (kQ L no))):=by
 refine bj Tryz.func30 rfl Tryz.ntmps30 rfl [(0,.agg #[vo]),(1,.int .i64 no)] (by simp) fun f h=>?_
 have s:=St.start w
 refine aj fun K1 hK1=>?_
 refine ae ?_
 refine bT (#[vo]) h s rfl rfl rfl ?_;intro f w1 b2 h s
 refine ba (#[bo]) h s dY rfl rfl ?_;intro f w1 b4 h s
 refine ah ?_
 refine hK1 _ _ ?_
 refine aj fun K2 hK2=>?_
 refine ae ?_
 refine ac h (bM eE) rfl ?_;intro f h
 refine ba (#[bo]) h s dY rfl rfl ?_;intro f w1 b5 h s
 refine ay 0 h s aU rfl rfl rfl (rfl) (rfl) (cj (rfl)) ?_;intro w1 s
 refine ah ?_
 refine hK2 _ _ ?_
 refine aj fun K3 hK3=>?_
 refine aj fun K4 hK4=>?_
 refine ae ?_
 replace s:=s.nilSl 42 68
 refine ac h (al cb (h.ev rfl)) rfl ?_;intro f h
 refine ar (V:=vo) (am (bc.of_own s 3 rfl) 0 rfl) h cH rfl rfl ?_;intro f h
 refine ac h (aY (hO.1.keep s.ext) Tryz.underlying22 (h.ev rfl)) rfl ?_;intro f h
 refine ac h (ag (h.ev rfl)) rfl ?_;intro f h
 refine ah ?_
 refine hK4 _ _ ?_
 refine wpIn_block ?_
 refine wpIn_loop_ghost (fun nn aa ww=>∃ k:Nat,∃ vb:Value,Sl 29 aa [(0,.agg #[vo]),(1,.int .i64 no),(2,.pointer (some ⟨b2,0,none⟩)),(4,.pointer (some ⟨b4,0,none⟩)),(5,.pointer (some ⟨b5,0,none⟩)),(10,vo),(11,.int .i64 (L.length:Int)),(12,.int .i64 (k:Int))]∧St w [.sl vb 42 68 (kQ (L.take k) no).length (aK (kQ (L.take k) no)),.blk b5 (.cells (#[vb]) 24),.blk b4 (.cells (#[bo]) 24),.blk b2 (.cells (#[vo]) 24)] ww∧nn=L.length - k∧k≤L.length) (L.length - (0)) ⟨0,bo,h.only ⟨rfl,rfl,rfl,rfl,rfl,rfl,rfl,aR rfl (by omega),trivial⟩,s.as ⟨rfl,rfl,rfl,rfl,trivial⟩,rfl,Nat.zero_le _⟩ ?_
 rintro _ f w1 ⟨k,vb,h,s,hnn,hp0⟩
 have hpl:=y6 (L.take k) no
 rw [List.length_take] at hpl
 refine aj fun K5 hK5=>?_
 refine ae ?_
 refine ac h (bD (h.ev rfl) (h.ev rfl)) rfl ?_;intro f h
 refine ah ?_
 refine hK5 _ _ ?_
 refine aj fun K6 hK6=>?_
 refine bA h rfl (fun hc=>?_) (fun hc=>?_)
 ·replace hc:=of_decide_eq_true hc
  refine wpIn_skip ?_
  refine hK6 _ _ ?_
  refine aj fun K7 hK7=>?_
  refine wpIn_block ?_
  refine aj fun K8 hK8=>?_
  refine ae ?_
  have hkl:k<L.length:=by omega
  refine ac h (ce (hO.1.keep s.ext) (k) Tryz.underlying22 eX (h.ev rfl) (h.ev rfl) (by omega) (by omega)) rfl ?_;intro f h
  refine aM ((hO.1.keep s.ext).el (k) (by omega) (by decide) (D:=aD (L.getD k z3).1.me (L.getD k z3).1.pr (L.getD k z3).2.1 (L.getD k z3).2.2) (c6 L k hkl)) h bS rfl (aA _ _ _ _) rfl ?_;intro f h
  refine ba (aD a8 a8 bo bo) h s dH rfl rfl ?_;intro f w1 b7 h s
  refine ay 0 h s bS rfl rfl rfl (aA _ _ _ _) (aA _ _ _ _) (bW (cx ((hO.2 _ (bh hkl)).1.keep s.ext)) (cx ((hO.2 _ (bh hkl)).2.keep s.ext))) ?_;intro w1 s
  refine ah ?_
  refine hK8 _ _ ?_
  refine aj fun K9 hK9=>?_
  cases h2:(decide ((L.getD k z3).1.me.1≠no):Bool)
  ·skip
   refine ae ?_
   refine ac h (al a6 (h.ev rfl)) rfl ?_;intro f h
   refine ac h (al aP (h.ev rfl)) rfl ?_;intro f h
   refine ar (am (bc.of_own s 0 rfl) 0 (bY _ _ _ _)) h bO rfl rfl ?_;intro f h
   refine ac h (ag (h.ev rfl)) rfl ?_;intro f h
   refine ac h (aw (.bool false) (cO (h.ev rfl) (h.ev rfl)) (congrArg Value.bool h2)) rfl ?_;intro f h
   refine ah ?_
   refine hK9 _ _ ?_
   refine wpIn_cond_false (h.ev rfl) ?_
   refine wpIn_skip ?_
   refine bF ?_
   refine hK7 _ _ ?_
   refine ae ?_
   refine ac h (cg (h.ev rfl) (h.ev rfl) (by omega)) rfl ?_;intro f h
   refine ac h (ag (h.ev rfl)) rfl ?_;intro f h
   refine ah ?_
   refine bQ ?_
   exact ⟨_,by omega,⟨k+1,vb,h.only ⟨rfl,rfl,rfl,rfl,rfl,rfl,rfl,aR rfl (by omega),trivial⟩,St.as (s.pick _ (List.sublist_append_right [_] _)) ⟨iN (by rw [xW hkl h2]) (by rw [xW hkl h2]),rfl,rfl,rfl,trivial⟩,rfl,by omega⟩⟩
  ·skip
   refine ae ?_
   refine ac h (al a6 (h.ev rfl)) rfl ?_;intro f h
   refine ac h (al aP (h.ev rfl)) rfl ?_;intro f h
   refine ar (am (bc.of_own s 0 rfl) 0 (bY _ _ _ _)) h bO rfl rfl ?_;intro f h
   refine ac h (ag (h.ev rfl)) rfl ?_;intro f h
   refine ac h (aw (.bool true) (cO (h.ev rfl) (h.ev rfl)) (congrArg Value.bool h2)) rfl ?_;intro f h
   refine ah ?_
   refine hK9 _ _ ?_
   refine wpIn_cond_true (h.ev rfl) ?_
   refine ae ?_
   refine ac h (al cb (h.ev rfl)) rfl ?_;intro f h
   refine ar (V:=vb) (am (bc.of_own s 2 rfl) 0 rfl) h cH rfl rfl ?_;intro f h
   refine ao 0 h s bS rfl rfl (aA _ _ _ _) rfl ?_;intro f h
   refine cF (vs:=[.agg (aD (L.getD k z3).1.me (L.getD k z3).1.pr (L.getD k z3).2.1 (L.getD k z3).2.2)]) [.tmp 23] h s Tryz.underlying22 er rfl rfl (fc (L.getD k z3)) rfl rfl rfl ?_;intro f w1 v24 h s
   refine dt 2 0 h s Tryz.underlying22 er rfl rfl rfl rfl (by decide) (gA (cx (hO.2 _ (bh hkl)).1) (cx (hO.2 _ (bh hkl)).2)) (by first|(unfold maxLen;omega)|(simp only [List.length_append,List.length_cons,List.length_nil];unfold maxLen;omega)) (by first|omega|(simp only [List.length_append,List.length_cons,List.length_nil];omega)) rfl ?_;intro f w1 v25 h s
   replace s:=s.pick _ (List.sublist_cons_self _ _)
   replace s:=s.resl (m:=((kQ (L.take k) no)++[(L.getD k z3)]).length) (ys:=aK ((kQ (L.take k) no)++[(L.getD k z3)])) 1 rfl (by simp only [List.length_append,List.length_cons,List.length_nil]) (by rw [fW,fh])
   refine ac h (al cb (h.ev rfl)) rfl ?_;intro f h
   refine bp 2 h s cH rfl rfl rfl (by show 0<1;decide) (bP (s.getSl 1 rfl)) ?_;intro w1 s
   replace s:=s.recell (D:=#[v25]) 2 rfl rfl
   refine ah ?_
   refine bF ?_
   refine hK7 _ _ ?_
   refine ae ?_
   refine ac h (cg (h.ev rfl) (h.ev rfl) (by omega)) rfl ?_;intro f h
   refine ac h (ag (h.ev rfl)) rfl ?_;intro f h
   refine ah ?_
   refine bQ ?_
   exact ⟨_,by omega,⟨k+1,v25,h.only ⟨rfl,rfl,rfl,rfl,rfl,rfl,rfl,aR rfl (by omega),trivial⟩,St.as (s.pick _ (List.sublist_append_right [_] _)) ⟨iN (by rw [yB hkl h2]) (by rw [yB hkl h2]),rfl,rfl,rfl,trivial⟩,rfl,by omega⟩⟩
 ·replace hc:=of_decide_eq_false hc
  refine wpIn_exit ?_
  refine bw ?_
  refine bw ?_
  refine cq ?_
  refine hK3 _ _ ?_
  refine aj fun K10 hK10=>?_
  refine ae ?_
  refine ao 1 h s aU rfl rfl (rfl) rfl ?_;intro f h
  refine ay 2 h s aU rfl rfl rfl (rfl) (rfl) (cj (bP (s.getSl 0 rfl))) ?_;intro w1 s
  refine ah ?_
  refine hK10 _ _ ?_
  refine wpIn_ret ?_
  exact d7 2 rfl h s aU rfl rfl (rfl) (nQ (by obtain rfl:k=L.length:=(by omega);rw [List.take_length]) (s.getSl 0 rfl))
end Go.Proofs.YthggibfkgofncaaGreat
