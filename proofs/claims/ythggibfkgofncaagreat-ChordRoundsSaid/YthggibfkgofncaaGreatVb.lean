/- What the reference of chord answers for members, who is known, who lives, a node, an overlay without one. -/
import Derived.Test.YthggibfkgofncaaGreatCon
set_option linter.unusedVariables false
set_option linter.unusedSimpArgs false
set_option linter.unusedSectionVars false
namespace Go.Proofs.YthggibfkgofncaaGreat
open Go.RowKit
theorem mD (l:List Mb) (vh:Value) (no:Int) (w:World) (hR:bO w vh 33 l.length (am l)) (hln:l.length≤1000):Calls Tryz.prog 43 [vh,.int .i64 no].toArray w (cO w (is (.agg (av (fR l no))))):=by
 refine bh Tryz.func43 rfl Tryz.ntmps43 rfl [(0,vh),(1,.int .i64 no)] (by simp) fun f h=>?_
 have s:=St.start w
 refine ak fun K1 hK1=>?_
 refine ag ?_
 refine bi (av ap) h s cF rfl rfl ?_;intro f w1 b4 h s
 refine ai ?_
 refine hK1 _ _ ?_
 refine ak fun K2 hK2=>?_
 refine ak fun K3 hK3=>?_
 refine ag ?_
 refine ac h (ah (h.ev rfl)) rfl ?_;intro f h
 refine ac h (bK (hR.keep s.ext) Tryz.underlying36 (h.ev rfl)) rfl ?_;intro f h
 refine ac h (ah (h.ev rfl)) rfl ?_;intro f h
 refine ai ?_
 refine hK3 _ _ ?_
 refine wpIn_block ?_
 refine wpIn_loop_ghost (fun nn aa ww=>∃ k:Nat,Sl 20 aa [(0,vh),(1,.int .i64 no),(4,.pointer (some ⟨b4,0,none⟩)),(7,vh),(8,.int .i64 (l.length:Int)),(9,.int .i64 (k:Int))]∧St w [.blk b4 (.cells (av ap) 28)] ww∧nn=l.length - k∧k≤l.length∧∀ j,j<k→decide ((l.getD j ap).1=no)=false) (l.length - (0)) ⟨0,h.only ⟨rfl,rfl,rfl,rfl,rfl,aQ rfl (by omega),trivial⟩,s.as ⟨rfl,trivial⟩,rfl,Nat.zero_le _,fun j hj=>absurd hj (Nat.not_lt_zero _)⟩ ?_
 rintro _ f w1 ⟨k,h,s,hnn,hp0,hp1⟩
 refine ak fun K4 hK4=>?_
 refine ag ?_
 refine ac h (cc (h.ev rfl) (h.ev rfl)) rfl ?_;intro f h
 refine ai ?_
 refine hK4 _ _ ?_
 refine ak fun K5 hK5=>?_
 refine bL h rfl (fun hc=>?_) (fun hc=>?_)
 ·replace hc:=of_decide_eq_true hc
  refine wpIn_skip ?_
  refine hK5 _ _ ?_
  refine ak fun K6 hK6=>?_
  refine wpIn_block ?_
  refine ak fun K7 hK7=>?_
  refine ag ?_
  have hkl:k<l.length:=by omega
  refine ac h (bU (hR.keep s.ext) (k) Tryz.underlying36 cA (h.ev rfl) (h.ev rfl) (by omega) (by omega)) rfl ?_;intro f h
  refine aI ((hR.keep s.ext).el (k) (by omega) (by decide) (D:=av (l.getD k ap)) (cX l k hkl)) h aJ rfl (al _) rfl ?_;intro f h
  refine bi (av ap) h s cF rfl rfl ?_;intro f w1 b6 h s
  refine aA 0 h s aJ rfl rfl rfl (al _) (al _) (aX _) ?_;intro w1 s
  refine ai ?_
  refine hK7 _ _ ?_
  refine ak fun K8 hK8=>?_
  refine ag ?_
  refine ac h (aq aP (h.ev rfl)) rfl ?_;intro f h
  refine aC (ax (bq.of_own s 0 rfl) 0 (aV _)) h bV rfl rfl ?_;intro f h
  refine ac h (ah (h.ev rfl)) rfl ?_;intro f h
  refine ac h (cb (h.ev rfl) (h.ev rfl)) rfl ?_;intro f h
  refine ai ?_
  refine hK8 _ _ ?_
  refine bL h rfl (fun hc=>?_) (fun hc=>?_)
  ·refine ak fun K9 hK9=>?_
   refine ag ?_
   refine ay 0 h s aJ rfl rfl (al _) rfl ?_;intro f h
   refine aA 1 h s aJ rfl rfl rfl (al _) (al _) (aX _) ?_;intro w1 s
   refine ai ?_
   refine hK9 _ _ ?_
   refine wpIn_ret ?_
   refine bT ?_
   refine a8 ?_
   refine a8 ?_
   refine bT ?_
   refine a8 ?_
   exact eP 1 rfl h s aJ rfl rfl (al _) (by show _=_;unfold fR;rw [lh hkl hp1 hc]<;>rfl)
  ·refine wpIn_skip ?_
   refine bH ?_
   refine hK6 _ _ ?_
   refine ag ?_
   refine ac h (cp (h.ev rfl) (h.ev rfl) (by omega)) rfl ?_;intro f h
   refine ac h (ah (h.ev rfl)) rfl ?_;intro f h
   refine ai ?_
   refine ca ?_
   exact ⟨_,by omega,⟨k+1,h.only ⟨rfl,rfl,rfl,rfl,rfl,aQ rfl (by omega),trivial⟩,St.as (s.pick _ (List.sublist_append_right [_] _)) ⟨rfl,trivial⟩,rfl,by omega,d1 (q:=fun j=>decide ((l.getD j ap).1=no)) hp1 hc⟩⟩
 ·replace hc:=of_decide_eq_false hc
  refine wpIn_exit ?_
  refine bN ?_
  refine bN ?_
  refine cG ?_
  refine hK2 _ _ ?_
  refine ak fun K10 hK10=>?_
  refine ag ?_
  refine ac h (eC oL (h.ev rfl)) rfl ?_;intro f h
  refine aA 0 h s aJ rfl rfl rfl (al _) (al _) (aX _) ?_;intro w1 s
  refine ai ?_
  refine hK10 _ _ ?_
  refine wpIn_ret ?_
  exact eP 0 rfl h s aJ rfl rfl (al _) (by show _=_;unfold fR;rw [lf (by omega) hp1]<;>rfl)
theorem kC (L:List N3) (vo:Value) (w:World) (hO:cI w vo L) (hL:L.length≤40):Calls Tryz.prog 16 [.agg #[vo]].toArray w (cO w (fun v w'=>cH w' w.heap.size 28 33 v (ae L).length (am (ae L)))):=by
 refine bh Tryz.func16 rfl Tryz.ntmps16 rfl [(0,.agg #[vo])] (by simp) fun f h=>?_
 have s:=St.start w
 refine ak fun K1 hK1=>?_
 refine ag ?_
 refine bR (#[vo]) h s rfl rfl rfl ?_;intro f w1 b1 h s
 refine ac h (aj (h.ev rfl)) rfl ?_;intro f h
 refine ai ?_
 refine hK1 _ _ ?_
 refine ak fun K2 hK2=>?_
 refine ag ?_
 refine cW (vs:=[]) [] h s Tryz.underlying36 dY rfl rfl (by simp) rfl rfl rfl ?_;intro f w1 v6 h s
 replace s:=s.resl (m:=(ae (L.take 0)).length) (ys:=am (ae (L.take 0))) 0 rfl (rfl) (rfl)
 refine ac h (aj (h.ev rfl)) rfl ?_;intro f h
 refine ai ?_
 refine hK2 _ _ ?_
 refine ak fun K3 hK3=>?_
 refine ak fun K4 hK4=>?_
 refine ag ?_
 refine ac h (aq ck (h.ev rfl)) rfl ?_;intro f h
 refine aC (V:=vo) (ax (bq.of_own s 1 rfl) 0 rfl) h c3 rfl rfl ?_;intro f h
 refine ac h (bK (hO.1.keep s.ext) Tryz.underlying22 (h.ev rfl)) rfl ?_;intro f h
 refine ac h (ah (h.ev rfl)) rfl ?_;intro f h
 refine ai ?_
 refine hK4 _ _ ?_
 refine wpIn_block ?_
 refine wpIn_loop_ghost (fun nn aa ww=>∃ k:Nat,∃ vb:Value,Sl 21 aa [(0,.agg #[vo]),(1,.pointer (some ⟨b1,0,none⟩)),(3,vb),(8,vo),(9,.int .i64 (L.length:Int)),(10,.int .i64 (k:Int))]∧St w [.sl vb 28 33 (ae (L.take k)).length (am (ae (L.take k))),.blk b1 (.cells (#[vo]) 24)] ww∧nn=L.length - k∧k≤L.length) (L.length - (0)) ⟨0,v6,h.only ⟨rfl,rfl,rfl,rfl,rfl,aQ rfl (by omega),trivial⟩,s.as ⟨rfl,rfl,trivial⟩,rfl,Nat.zero_le _⟩ ?_
 rintro _ f w1 ⟨k,vb,h,s,hnn,hp0⟩
 refine ak fun K5 hK5=>?_
 refine ag ?_
 refine ac h (cc (h.ev rfl) (h.ev rfl)) rfl ?_;intro f h
 refine ai ?_
 refine hK5 _ _ ?_
 refine ak fun K6 hK6=>?_
 refine bL h rfl (fun hc=>?_) (fun hc=>?_)
 ·replace hc:=of_decide_eq_true hc
  refine wpIn_skip ?_
  refine hK6 _ _ ?_
  refine ak fun K7 hK7=>?_
  refine wpIn_block ?_
  refine ak fun K8 hK8=>?_
  refine ag ?_
  have hkl:k<L.length:=by omega
  refine ac h (bU (hO.1.keep s.ext) (k) Tryz.underlying22 fa (h.ev rfl) (h.ev rfl) (by omega) (by omega)) rfl ?_;intro f h
  refine aI ((hO.1.keep s.ext).el (k) (by omega) (by decide) (D:=au (L.getD k z3).1.me (L.getD k z3).1.pr (L.getD k z3).2.1 (L.getD k z3).2.2) (cR L k hkl)) h bw rfl (aw _ _ _ _) rfl ?_;intro f h
  refine bi (au ap ap aU aU) h s ei rfl rfl ?_;intro f w1 b5 h s
  refine aA 0 h s bw rfl rfl rfl (aw _ _ _ _) (aw _ _ _ _) (br (db ((hO.2 _ (bj hkl)).1.keep s.ext)) (db ((hO.2 _ (bj hkl)).2.keep s.ext))) ?_;intro w1 s
  refine ai ?_
  refine hK8 _ _ ?_
  refine ag ?_
  refine ac h (ah (h.ev rfl)) rfl ?_;intro f h
  refine ac h (aq bA (h.ev rfl)) rfl ?_;intro f h
  refine aI (bq.subL (bq.of_own s 0 rfl) 0 33 (D:=av (L.getD k z3).1.me) (bZ _ _ _ _)) h aJ rfl (al _) rfl ?_;intro f h
  refine cW (vs:=[.agg (av (L.getD k z3).1.me)]) [.tmp 16] h s Tryz.underlying36 dY rfl rfl (jb _) rfl rfl rfl ?_;intro f w1 v17 h s
  refine eR 2 0 h s Tryz.underlying36 dY rfl rfl rfl rfl (by decide) (by rw [eY];exact aX _) (by rw [List.length_map,List.length_take];unfold maxLen;omega) (by rw [List.length_map,List.length_take];omega) rfl ?_;intro f w1 v18 h s
  replace s:=s.pick _ (List.sublist_cons_self _ _)
  replace s:=s.resl (m:=(ae (L.take (k+1))).length) (ys:=am (ae (L.take (k+1)))) 1 rfl (by rw [jf hkl,List.length_append];rfl) (by rw [jf hkl,eY,k4])
  refine ac h (aj (h.ev rfl)) rfl ?_;intro f h
  refine ai ?_
  refine bH ?_
  refine hK7 _ _ ?_
  refine ag ?_
  refine ac h (cp (h.ev rfl) (h.ev rfl) (by omega)) rfl ?_;intro f h
  refine ac h (ah (h.ev rfl)) rfl ?_;intro f h
  refine ai ?_
  refine ca ?_
  exact ⟨_,by omega,⟨k+1,v18,h.only ⟨rfl,rfl,rfl,rfl,rfl,aQ rfl (by omega),trivial⟩,St.as (s.pick _ (List.sublist_append_right [_] _)) ⟨rfl,rfl,trivial⟩,rfl,by omega⟩⟩
 ·replace hc:=of_decide_eq_false hc
  refine wpIn_exit ?_
  refine bN ?_
  refine bN ?_
  refine cG ?_
  refine hK3 _ _ ?_
  refine ak fun K9 hK9=>?_
  refine ag ?_
  refine ac h (ah (h.ev rfl)) rfl ?_;intro f h
  refine ac h (aj (h.ev rfl)) rfl ?_;intro f h
  refine ai ?_
  refine hK9 _ _ ?_
  refine wpIn_ret ?_
  exact bu rfl h s rfl ((by obtain rfl:k=L.length:=(by omega);rw [List.take_length] at s;exact(s.getSl 0 rfl)))
theorem Bt (n:Nd) (vs vf:Value) (w:World) (hRs:bO w vs 33 n.sc.length (am n.sc)) (hRf:bO w vf 33 n.fg.length (am n.fg)) (hns:n.sc.length≤400) (hnf:n.fg.length≤400):Calls Tryz.prog 42 [.agg (au n.me n.pr vs vf)].toArray w (cO w (fun v w'=>cH w' w.heap.size 28 33 v (aH n).length (am (aH n)))):=by
 refine bh Tryz.func42 rfl Tryz.ntmps42 rfl [(0,.agg (au n.me n.pr vs vf))] (by simp) fun f h=>?_
 have s:=St.start w
 refine ak fun K1 hK1=>?_
 refine ag ?_
 refine bR (au n.me n.pr vs vf) h s rfl rfl rfl ?_;intro f w1 b1 h s
 refine ac h (aj (h.ev rfl)) rfl ?_;intro f h
 refine ai ?_
 refine hK1 _ _ ?_
 refine ak fun K2 hK2=>?_
 refine ag ?_
 refine ac h (aq cx (h.ev rfl)) rfl ?_;intro f h
 refine aI (bq.subL (bq.of_own s 0 rfl) 33 33 (D:=av n.pr) (cN _ _ _ _)) h aJ rfl (al _) rfl ?_;intro f h
 refine cW (vs:=[.agg (av n.pr)]) [.tmp 5] h s Tryz.underlying36 dY rfl rfl (jb _) rfl rfl rfl ?_;intro f w1 v6 h s
 replace s:=s.resl (m:=[n.pr].length) (ys:=am [n.pr]) 0 rfl (rfl) (by rw [eY,dU])
 refine ac h (aj (h.ev rfl)) rfl ?_;intro f h
 refine ai ?_
 refine hK2 _ _ ?_
 refine ak fun K3 hK3=>?_
 refine ag ?_
 refine ac h (ah (h.ev rfl)) rfl ?_;intro f h
 refine ac h (aq cC (h.ev rfl)) rfl ?_;intro f h
 refine aC (V:=vs) (ax (bq.of_own s 1 rfl) 66 (c7 _ _ _ _)) h cf rfl rfl ?_;intro f h
 refine eS 0 (hRs.keep s.ext) h s Tryz.underlying36 dY rfl rfl rfl (ez _) (by show 1+_≤_;unfold maxLen;omega) (by show (1+_)*_≤_;omega) rfl ?_;intro f w1 v10 h s
 replace s:=s.resl (m:=([n.pr]++n.sc).length) (ys:=am ([n.pr]++n.sc)) 0 rfl (List.length_append.symm) ((dl _ _).symm)
 refine ac h (aj (h.ev rfl)) rfl ?_;intro f h
 refine ai ?_
 refine hK3 _ _ ?_
 refine ak fun K4 hK4=>?_
 refine ag ?_
 refine ac h (ah (h.ev rfl)) rfl ?_;intro f h
 refine ac h (aq dP (h.ev rfl)) rfl ?_;intro f h
 refine aC (V:=vf) (ax (bq.of_own s 1 rfl) 67 (ed _ _ _ _)) h cf rfl rfl ?_;intro f h
 refine eS 0 (hRf.keep s.ext) h s Tryz.underlying36 dY rfl rfl rfl (ez _) (by rw [List.length_append];show 1+_+_≤_;unfold maxLen;omega) (by rw [List.length_append];show (1+_+_)*_≤_;omega) rfl ?_;intro f w1 v14 h s
 replace s:=s.resl (m:=(aH n).length) (ys:=am (aH n)) 0 rfl (by simp only [aH,List.length_append,List.length_cons,List.length_nil];omega) ((dl _ _).symm)
 refine ac h (aj (h.ev rfl)) rfl ?_;intro f h
 refine ai ?_
 refine hK4 _ _ ?_
 refine ak fun K5 hK5=>?_
 refine ag ?_
 refine ac h (ah (h.ev rfl)) rfl ?_;intro f h
 refine ac h (aj (h.ev rfl)) rfl ?_;intro f h
 refine ai ?_
 refine hK5 _ _ ?_
 refine wpIn_ret ?_
 exact bu rfl h s rfl (s.getSl 0 rfl)
theorem Bo (L:List N3) (vo:Value) (no:Int) (w:World) (hO:cI w vo L) (hL:L.length≤40):Calls Tryz.prog 20 [.agg #[vo],.int .i64 no].toArray w (cO w (is (.bool (bP (ae L) no)))):=by
 refine bh Tryz.func20 rfl Tryz.ntmps20 rfl [(0,.agg #[vo]),(1,.int .i64 no)] (by simp) fun f h=>?_
 have s:=St.start w
 refine ak fun K1 hK1=>?_
 refine ag ?_
 refine bR (#[vo]) h s rfl rfl rfl ?_;intro f w1 b2 h s
 refine ac h (aj (h.ev rfl)) rfl ?_;intro f h
 refine ai ?_
 refine hK1 _ _ ?_
 refine ak fun K2 hK2=>?_
 cases l0:(decide ((fR (ae L) no).1=no):Bool)
 ·skip
  refine ag ?_
  refine ay 0 h s a7 rfl rfl (rfl) rfl ?_;intro f h
  refine aK h s yZ (kC L vo _ (hO.keep s.ext) hL) rfl rfl ?_;intro f w1 v6 hT hE h sq;replace s:=s.sl_new hE hT
  refine ac h (ah (h.ev rfl)) rfl ?_;intro f h
  refine aK h s zG (mD (ae L) v6 no _ (bO.of_own (s.getSl 0 rfl)) (by rw [List.length_map];omega)) rfl rfl ?_;intro f w1 v9 hT hE h s;obtain rfl:=hT
  refine ac h (mW ru bV (h.ev rfl) (aV _)) rfl ?_;intro f h
  refine ac h (ah (h.ev rfl)) rfl ?_;intro f h
  refine ac h (aE (.bool false) (cb (h.ev rfl) (h.ev rfl)) (congrArg Value.bool l0)) rfl ?_;intro f h
  refine ac h (ah (h.ev rfl)) rfl ?_;intro f h
  refine aY (b:=true) h rfl rfl rfl rfl ?_;intro f h
  refine aY (b:=true) h rfl rfl rfl rfl ?_;intro f h
  refine ac h (aL (h.ev rfl) (h.ev rfl)) rfl ?_;intro f h
  refine ac h (aj (h.ev rfl)) rfl ?_;intro f h
  refine ai ?_
  refine hK2 _ _ ?_
  refine wpIn_ret ?_
  exact bu rfl h s rfl (by show _=_;rw [Dh l0])
 ·skip
  refine ag ?_
  refine ay 0 h s a7 rfl rfl (rfl) rfl ?_;intro f h
  refine aK h s yZ (kC L vo _ (hO.keep s.ext) hL) rfl rfl ?_;intro f w1 v6 hT hE h sq;replace s:=s.sl_new hE hT
  refine ac h (ah (h.ev rfl)) rfl ?_;intro f h
  refine aK h s zG (mD (ae L) v6 no _ (bO.of_own (s.getSl 0 rfl)) (by rw [List.length_map];omega)) rfl rfl ?_;intro f w1 v9 hT hE h s;obtain rfl:=hT
  refine ac h (mW ru bV (h.ev rfl) (aV _)) rfl ?_;intro f h
  refine ac h (ah (h.ev rfl)) rfl ?_;intro f h
  refine ac h (aE (.bool true) (cb (h.ev rfl) (h.ev rfl)) (congrArg Value.bool l0)) rfl ?_;intro f h
  refine ac h (ah (h.ev rfl)) rfl ?_;intro f h
  refine a2 h rfl rfl rfl ?_
  refine ac h (ah (h.ev rfl)) rfl ?_;intro f h
  refine a2 h rfl rfl rfl ?_
  refine ac h (d7 (h.ev rfl) (h.ev rfl)) rfl ?_;intro f h
  refine ac h (aO (h.ev rfl) (h.ev rfl)) rfl ?_;intro f h
  refine ac h (aj (h.ev rfl)) rfl ?_;intro f h
  refine ai ?_
  refine hK2 _ _ ?_
  refine wpIn_ret ?_
  exact bu rfl h s rfl (by show _=_;rw [Dt l0])
theorem CU (L:List N3) (vo:Value) (no:Int) (w:World) (hO:cI w vo L) (hL:L.length≤40):Calls Tryz.prog 22 [.agg #[vo],.int .i64 no].toArray w (cO w (is (.agg (au (cg L no).1.me (cg L no).1.pr (cg L no).2.1 (cg L no).2.2)))):=by
 refine bh Tryz.func22 rfl Tryz.ntmps22 rfl [(0,.agg #[vo]),(1,.int .i64 no)] (by simp) fun f h=>?_
 have s:=St.start w
 refine ak fun K1 hK1=>?_
 refine ag ?_
 refine bR (#[vo]) h s rfl rfl rfl ?_;intro f w1 b2 h s
 refine bi (au ap ap aU aU) h s ei rfl rfl ?_;intro f w1 b4 h s
 refine ai ?_
 refine hK1 _ _ ?_
 refine ak fun K2 hK2=>?_
 refine ak fun K3 hK3=>?_
 refine ag ?_
 refine ac h (aq ck (h.ev rfl)) rfl ?_;intro f h
 refine aC (V:=vo) (ax (bq.of_own s 1 rfl) 0 rfl) h c3 rfl rfl ?_;intro f h
 refine ac h (bK (hO.1.keep s.ext) Tryz.underlying22 (h.ev rfl)) rfl ?_;intro f h
 refine ac h (ah (h.ev rfl)) rfl ?_;intro f h
 refine ai ?_
 refine hK3 _ _ ?_
 refine wpIn_block ?_
 refine wpIn_loop_ghost (fun nn aa ww=>∃ k:Nat,Sl 23 aa [(0,.agg #[vo]),(1,.int .i64 no),(2,.pointer (some ⟨b2,0,none⟩)),(4,.pointer (some ⟨b4,0,none⟩)),(8,vo),(9,.int .i64 (L.length:Int)),(10,.int .i64 (k:Int))]∧St w [.blk b4 (.cells (au ap ap aU aU) 42),.blk b2 (.cells (#[vo]) 24)] ww∧nn=L.length - k∧k≤L.length∧∀ j,j<k→decide ((L.getD j z3).1.me.1=no)=false) (L.length - (0)) ⟨0,h.only ⟨rfl,rfl,rfl,rfl,rfl,rfl,aQ rfl (by omega),trivial⟩,s.as ⟨rfl,rfl,trivial⟩,rfl,Nat.zero_le _,fun j hj=>absurd hj (Nat.not_lt_zero _)⟩ ?_
 rintro _ f w1 ⟨k,h,s,hnn,hp0,hp1⟩
 refine ak fun K4 hK4=>?_
 refine ag ?_
 refine ac h (cc (h.ev rfl) (h.ev rfl)) rfl ?_;intro f h
 refine ai ?_
 refine hK4 _ _ ?_
 refine ak fun K5 hK5=>?_
 refine bL h rfl (fun hc=>?_) (fun hc=>?_)
 ·replace hc:=of_decide_eq_true hc
  refine wpIn_skip ?_
  refine hK5 _ _ ?_
  refine ak fun K6 hK6=>?_
  refine wpIn_block ?_
  refine ak fun K7 hK7=>?_
  refine ag ?_
  have hkl:k<L.length:=by omega
  refine ac h (bU (hO.1.keep s.ext) (k) Tryz.underlying22 fa (h.ev rfl) (h.ev rfl) (by omega) (by omega)) rfl ?_;intro f h
  refine aI ((hO.1.keep s.ext).el (k) (by omega) (by decide) (D:=au (L.getD k z3).1.me (L.getD k z3).1.pr (L.getD k z3).2.1 (L.getD k z3).2.2) (cR L k hkl)) h bw rfl (aw _ _ _ _) rfl ?_;intro f h
  refine bi (au ap ap aU aU) h s ei rfl rfl ?_;intro f w1 b6 h s
  refine aA 0 h s bw rfl rfl rfl (aw _ _ _ _) (aw _ _ _ _) (br (db ((hO.2 _ (bj hkl)).1.keep s.ext)) (db ((hO.2 _ (bj hkl)).2.keep s.ext))) ?_;intro w1 s
  refine ai ?_
  refine hK7 _ _ ?_
  refine ak fun K8 hK8=>?_
  refine ag ?_
  refine ac h (aq bA (h.ev rfl)) rfl ?_;intro f h
  refine ac h (aq aP (h.ev rfl)) rfl ?_;intro f h
  refine aC (ax (bq.of_own s 0 rfl) 0 (dz _ _ _ _)) h bV rfl rfl ?_;intro f h
  refine ac h (ah (h.ev rfl)) rfl ?_;intro f h
  refine ac h (cb (h.ev rfl) (h.ev rfl)) rfl ?_;intro f h
  refine ai ?_
  refine hK8 _ _ ?_
  refine bL h rfl (fun hc=>?_) (fun hc=>?_)
  ·refine ak fun K9 hK9=>?_
   refine ag ?_
   refine ay 0 h s bw rfl rfl (aw _ _ _ _) rfl ?_;intro f h
   refine aA 1 h s bw rfl rfl rfl (aw _ _ _ _) (aw _ _ _ _) (br (db ((hO.2 _ (bj hkl)).1.keep s.ext)) (db ((hO.2 _ (bj hkl)).2.keep s.ext))) ?_;intro w1 s
   refine ai ?_
   refine hK9 _ _ ?_
   refine wpIn_ret ?_
   refine bT ?_
   refine a8 ?_
   refine a8 ?_
   refine bT ?_
   refine a8 ?_
   exact eP 1 rfl h s bw rfl rfl (aw _ _ _ _) (by show _=_;rw [qQ hkl hp1 hc])
  ·refine wpIn_skip ?_
   refine bH ?_
   refine hK6 _ _ ?_
   refine ag ?_
   refine ac h (cp (h.ev rfl) (h.ev rfl) (by omega)) rfl ?_;intro f h
   refine ac h (ah (h.ev rfl)) rfl ?_;intro f h
   refine ai ?_
   refine ca ?_
   exact ⟨_,by omega,⟨k+1,h.only ⟨rfl,rfl,rfl,rfl,rfl,rfl,aQ rfl (by omega),trivial⟩,St.as (s.pick _ (List.sublist_append_right [_] _)) ⟨rfl,rfl,trivial⟩,rfl,by omega,d1 (q:=fun j=>decide ((L.getD j z3).1.me.1=no)) hp1 hc⟩⟩
 ·replace hc:=of_decide_eq_false hc
  refine wpIn_exit ?_
  refine bN ?_
  refine bN ?_
  refine cG ?_
  refine hK2 _ _ ?_
  refine ak fun K10 hK10=>?_
  refine ag ?_
  refine ac h (eC oL rfl) rfl ?_;intro f h
  refine ac h (n3 pP (h.ev rfl)) rfl ?_;intro f h
  refine aA 0 h s bw rfl rfl rfl (aw _ _ _ _) (aw _ _ _ _) (br (rfl) (rfl)) ?_;intro w1 s
  refine ai ?_
  refine hK10 _ _ ?_
  refine wpIn_ret ?_
  exact eP 0 rfl h s bw rfl rfl (aw _ _ _ _) (by show _=_;rw [uy (by omega) hp1];rfl)
theorem CY (L:List N3) (vo:Value) (no:Int) (w:World) (hO:cI w vo L) (hL:L.length≤40):Calls Tryz.prog 30 [.agg #[vo],.int .i64 no].toArray w (cO w (B4 w 42 (eZ L no))):=by
 refine bh Tryz.func30 rfl Tryz.ntmps30 rfl [(0,.agg #[vo]),(1,.int .i64 no)] (by simp) fun f h=>?_
 have s:=St.start w
 refine ak fun K1 hK1=>?_
 refine ag ?_
 refine bR (#[vo]) h s rfl rfl rfl ?_;intro f w1 b2 h s
 refine bi (#[aU]) h s d6 rfl rfl ?_;intro f w1 b4 h s
 refine ai ?_
 refine hK1 _ _ ?_
 refine ak fun K2 hK2=>?_
 refine ag ?_
 refine ac h (cw jB) rfl ?_;intro f h
 refine bi (#[aU]) h s d6 rfl rfl ?_;intro f w1 b5 h s
 refine aA 0 h s a7 rfl rfl rfl (rfl) (rfl) (bY (rfl)) ?_;intro w1 s
 refine ai ?_
 refine hK2 _ _ ?_
 refine ak fun K3 hK3=>?_
 refine ak fun K4 hK4=>?_
 refine ag ?_
 replace s:=s.nilSl 42 68
 refine ac h (aq ck (h.ev rfl)) rfl ?_;intro f h
 refine aC (V:=vo) (ax (bq.of_own s 3 rfl) 0 rfl) h c3 rfl rfl ?_;intro f h
 refine ac h (bK (hO.1.keep s.ext) Tryz.underlying22 (h.ev rfl)) rfl ?_;intro f h
 refine ac h (ah (h.ev rfl)) rfl ?_;intro f h
 refine ai ?_
 refine hK4 _ _ ?_
 refine wpIn_block ?_
 refine wpIn_loop_ghost (fun nn aa ww=>∃ k:Nat,∃ vb:Value,Sl 29 aa [(0,.agg #[vo]),(1,.int .i64 no),(2,.pointer (some ⟨b2,0,none⟩)),(4,.pointer (some ⟨b4,0,none⟩)),(5,.pointer (some ⟨b5,0,none⟩)),(10,vo),(11,.int .i64 (L.length:Int)),(12,.int .i64 (k:Int))]∧St w [.sl vb 42 68 (eZ (L.take k) no).length (aD (eZ (L.take k) no)),.blk b5 (.cells (#[vb]) 24),.blk b4 (.cells (#[aU]) 24),.blk b2 (.cells (#[vo]) 24)] ww∧nn=L.length - k∧k≤L.length) (L.length - (0)) ⟨0,aU,h.only ⟨rfl,rfl,rfl,rfl,rfl,rfl,rfl,aQ rfl (by omega),trivial⟩,s.as ⟨rfl,rfl,rfl,rfl,trivial⟩,rfl,Nat.zero_le _⟩ ?_
 rintro _ f w1 ⟨k,vb,h,s,hnn,hp0⟩
 have hpl:=Ab (L.take k) no
 rw [List.length_take] at hpl
 refine ak fun K5 hK5=>?_
 refine ag ?_
 refine ac h (cc (h.ev rfl) (h.ev rfl)) rfl ?_;intro f h
 refine ai ?_
 refine hK5 _ _ ?_
 refine ak fun K6 hK6=>?_
 refine bL h rfl (fun hc=>?_) (fun hc=>?_)
 ·replace hc:=of_decide_eq_true hc
  refine wpIn_skip ?_
  refine hK6 _ _ ?_
  refine ak fun K7 hK7=>?_
  refine wpIn_block ?_
  refine ak fun K8 hK8=>?_
  refine ag ?_
  have hkl:k<L.length:=by omega
  refine ac h (bU (hO.1.keep s.ext) (k) Tryz.underlying22 fa (h.ev rfl) (h.ev rfl) (by omega) (by omega)) rfl ?_;intro f h
  refine aI ((hO.1.keep s.ext).el (k) (by omega) (by decide) (D:=au (L.getD k z3).1.me (L.getD k z3).1.pr (L.getD k z3).2.1 (L.getD k z3).2.2) (cR L k hkl)) h bw rfl (aw _ _ _ _) rfl ?_;intro f h
  refine bi (au ap ap aU aU) h s ei rfl rfl ?_;intro f w1 b7 h s
  refine aA 0 h s bw rfl rfl rfl (aw _ _ _ _) (aw _ _ _ _) (br (db ((hO.2 _ (bj hkl)).1.keep s.ext)) (db ((hO.2 _ (bj hkl)).2.keep s.ext))) ?_;intro w1 s
  refine ai ?_
  refine hK8 _ _ ?_
  refine ak fun K9 hK9=>?_
  cases h2:(decide ((L.getD k z3).1.me.1≠no):Bool)
  ·skip
   refine ag ?_
   refine ac h (aq bA (h.ev rfl)) rfl ?_;intro f h
   refine ac h (aq aP (h.ev rfl)) rfl ?_;intro f h
   refine aC (ax (bq.of_own s 0 rfl) 0 (dz _ _ _ _)) h bV rfl rfl ?_;intro f h
   refine ac h (ah (h.ev rfl)) rfl ?_;intro f h
   refine ac h (aE (.bool false) (cJ (h.ev rfl) (h.ev rfl)) (congrArg Value.bool h2)) rfl ?_;intro f h
   refine ai ?_
   refine hK9 _ _ ?_
   refine wpIn_cond_false (h.ev rfl) ?_
   refine wpIn_skip ?_
   refine bH ?_
   refine hK7 _ _ ?_
   refine ag ?_
   refine ac h (cp (h.ev rfl) (h.ev rfl) (by omega)) rfl ?_;intro f h
   refine ac h (ah (h.ev rfl)) rfl ?_;intro f h
   refine ai ?_
   refine ca ?_
   exact ⟨_,by omega,⟨k+1,vb,h.only ⟨rfl,rfl,rfl,rfl,rfl,rfl,rfl,aQ rfl (by omega),trivial⟩,St.as (s.pick _ (List.sublist_append_right [_] _)) ⟨j9 (by rw [y9 hkl h2]) (by rw [y9 hkl h2]),rfl,rfl,rfl,trivial⟩,rfl,by omega⟩⟩
  ·skip
   refine ag ?_
   refine ac h (aq bA (h.ev rfl)) rfl ?_;intro f h
   refine ac h (aq aP (h.ev rfl)) rfl ?_;intro f h
   refine aC (ax (bq.of_own s 0 rfl) 0 (dz _ _ _ _)) h bV rfl rfl ?_;intro f h
   refine ac h (ah (h.ev rfl)) rfl ?_;intro f h
   refine ac h (aE (.bool true) (cJ (h.ev rfl) (h.ev rfl)) (congrArg Value.bool h2)) rfl ?_;intro f h
   refine ai ?_
   refine hK9 _ _ ?_
   refine wpIn_cond_true (h.ev rfl) ?_
   refine ag ?_
   refine ac h (aq ck (h.ev rfl)) rfl ?_;intro f h
   refine aC (V:=vb) (ax (bq.of_own s 2 rfl) 0 rfl) h c3 rfl rfl ?_;intro f h
   refine ay 0 h s bw rfl rfl (aw _ _ _ _) rfl ?_;intro f h
   refine cW (vs:=[.agg (au (L.getD k z3).1.me (L.getD k z3).1.pr (L.getD k z3).2.1 (L.getD k z3).2.2)]) [.tmp 23] h s Tryz.underlying22 iw rfl rfl (kZ (L.getD k z3)) rfl rfl rfl ?_;intro f w1 v24 h s
   refine eR 2 0 h s Tryz.underlying22 iw rfl rfl rfl rfl (by decide) (q9 (db (hO.2 _ (bj hkl)).1) (db (hO.2 _ (bj hkl)).2)) (by first|(unfold maxLen;omega)|(simp only [List.length_append,List.length_cons,List.length_nil];unfold maxLen;omega)) (by first|omega|(simp only [List.length_append,List.length_cons,List.length_nil];omega)) rfl ?_;intro f w1 v25 h s
   replace s:=s.pick _ (List.sublist_cons_self _ _)
   replace s:=s.resl (m:=((eZ (L.take k) no)++[(L.getD k z3)]).length) (ys:=aD ((eZ (L.take k) no)++[(L.getD k z3)])) 1 rfl (by simp only [List.length_append,List.length_cons,List.length_nil]) (by rw [lQ,kU])
   refine ac h (aq ck (h.ev rfl)) rfl ?_;intro f h
   refine bk 2 h s c3 rfl rfl rfl (by show 0<1;decide) (bo (s.getSl 1 rfl)) ?_;intro w1 s
   replace s:=s.recell (D:=#[v25]) 2 rfl rfl
   refine ai ?_
   refine bH ?_
   refine hK7 _ _ ?_
   refine ag ?_
   refine ac h (cp (h.ev rfl) (h.ev rfl) (by omega)) rfl ?_;intro f h
   refine ac h (ah (h.ev rfl)) rfl ?_;intro f h
   refine ai ?_
   refine ca ?_
   exact ⟨_,by omega,⟨k+1,v25,h.only ⟨rfl,rfl,rfl,rfl,rfl,rfl,rfl,aQ rfl (by omega),trivial⟩,St.as (s.pick _ (List.sublist_append_right [_] _)) ⟨j9 (by rw [yY hkl h2]) (by rw [yY hkl h2]),rfl,rfl,rfl,trivial⟩,rfl,by omega⟩⟩
 ·replace hc:=of_decide_eq_false hc
  refine wpIn_exit ?_
  refine bN ?_
  refine bN ?_
  refine cG ?_
  refine hK3 _ _ ?_
  refine ak fun K10 hK10=>?_
  refine ag ?_
  refine ay 1 h s a7 rfl rfl (rfl) rfl ?_;intro f h
  refine aA 2 h s a7 rfl rfl rfl (rfl) (rfl) (bY (bo (s.getSl 0 rfl))) ?_;intro w1 s
  refine ai ?_
  refine hK10 _ _ ?_
  refine wpIn_ret ?_
  exact eP 2 rfl h s a7 rfl rfl (rfl) (tJ (by obtain rfl:k=L.length:=(by omega);rw [List.take_length]) (s.getSl 0 rfl))
end Go.Proofs.YthggibfkgofncaaGreat
