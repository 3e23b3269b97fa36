/- What package chord answers for an overlay that is read: its nodes, its members, the node of a number, who is known, which may be. -/
import Derived.Test.YthggibfkgofncaaGreatVj
set_option linter.unusedVariables false
set_option linter.unusedSimpArgs false
set_option linter.unusedSectionVars false
namespace Go.Proofs.YthggibfkgofncaaGreat
open Go.RowKit
theorem oS (x:Int) (w:World):Calls Tryz.prog 111 [.int .i64 x].toArray w (cO w (is (.bool false))):=by
 refine bh Tryz.func111 rfl Tryz.ntmps111 rfl [(0,.int .i64 x)] (by simp) fun f h=>?_
 have s:=St.start w
 refine ak fun K1 hK1=>?_
 refine ag ?_
 refine ac h (aj (h.ev rfl)) rfl ?_;intro f h
 refine ai ?_
 refine hK1 _ _ ?_
 refine ak fun K2 hK2=>?_
 refine ag ?_
 refine ac h (ah (h.ev rfl)) rfl ?_;intro f h
 refine ac h (ah (h.ev rfl)) rfl ?_;intro f h
 refine ac h (aE (.bool false) (cJ (h.ev rfl) (h.ev rfl)) (by simp)) rfl ?_;intro f h
 refine ac h (aj (h.ev rfl)) rfl ?_;intro f h
 refine ai ?_
 refine hK2 _ _ ?_
 refine wpIn_ret ?_
 exact bu rfl h s rfl (rfl)
theorem wb (x y:Int) (w:World):Calls Tryz.prog 74 [.int .i64 x,.int .i64 y].toArray w (cO w (is (.int .i64 (dN x y)))):=by
 refine bh Tryz.func74 rfl Tryz.ntmps74 rfl [(0,.int .i64 x),(1,.int .i64 y)] (by simp) fun f h=>?_
 have s:=St.start w
 refine ak fun K1 hK1=>?_
 refine ag ?_
 refine ac h (aj (h.ev rfl)) rfl ?_;intro f h
 refine ai ?_
 refine hK1 _ _ ?_
 refine ak fun K2 hK2=>?_
 refine ag ?_
 refine ac h (ah (h.ev rfl)) rfl ?_;intro f h
 refine aK h s ur (oS _ _) rfl rfl ?_;intro f w1 v9 hT hE h s;obtain rfl:=hT
 refine ac h (aj (h.ev rfl)) rfl ?_;intro f h
 refine ai ?_
 refine hK2 _ _ ?_
 refine ak fun K3 hK3=>?_
 refine ag ?_
 refine ac h (ah (h.ev rfl)) rfl ?_;intro f h
 refine aK h s ur (oS _ _) rfl rfl ?_;intro f w1 v9 hT hE h s;obtain rfl:=hT
 refine ac h (aj (h.ev rfl)) rfl ?_;intro f h
 refine ai ?_
 refine hK3 _ _ ?_
 refine ak fun K4 hK4=>?_
 refine ak fun K5 hK5=>?_
 refine ag ?_
 refine ac h (ah (h.ev rfl)) rfl ?_;intro f h
 refine ai ?_
 refine hK5 _ _ ?_
 refine wpIn_cond_false (h.ev rfl) ?_
 refine wpIn_skip ?_
 refine hK4 _ _ ?_
 refine ak fun K6 hK6=>?_
 refine ak fun K7 hK7=>?_
 refine ag ?_
 refine ac h (ah (h.ev rfl)) rfl ?_;intro f h
 refine ai ?_
 refine hK7 _ _ ?_
 refine wpIn_cond_false (h.ev rfl) ?_
 refine wpIn_skip ?_
 refine hK6 _ _ ?_
 refine ak fun K8 hK8=>?_
 refine ak fun K9 hK9=>?_
 refine ag ?_
 refine ac h (ah (h.ev rfl)) rfl ?_;intro f h
 refine ac h (ah (h.ev rfl)) rfl ?_;intro f h
 refine ac h (cc (h.ev rfl) (h.ev rfl)) rfl ?_;intro f h
 refine ai ?_
 refine hK9 _ _ ?_
 refine bL h rfl (fun hc=>?_) (fun hc=>?_)
 ·have hc:=of_decide_eq_true hc
  refine ak fun K10 hK10=>?_
  refine ag ?_
  refine ac h (aj (h.ev rfl)) rfl ?_;intro f h
  refine ai ?_
  refine hK10 _ _ ?_
  refine wpIn_ret ?_
  refine a8 ?_
  exact bu rfl h s rfl (by show _=_;unfold dN;rw [if_pos hc])
 ·have hc1:=of_decide_eq_false hc
  refine wpIn_skip ?_
  refine hK8 _ _ ?_
  refine ak fun K11 hK11=>?_
  refine ak fun K12 hK12=>?_
  refine ag ?_
  refine ac h (ah (h.ev rfl)) rfl ?_;intro f h
  refine ac h (ah (h.ev rfl)) rfl ?_;intro f h
  refine ac h (f7 (h.ev rfl) (h.ev rfl)) rfl ?_;intro f h
  refine ai ?_
  refine hK12 _ _ ?_
  refine bL h rfl (fun hc=>?_) (fun hc=>?_)
  ·replace hc:=of_decide_eq_true hc
   refine ak fun K13 hK13=>?_
   refine ag ?_
   refine ac h (aj (h.ev rfl)) rfl ?_;intro f h
   refine ai ?_
   refine hK13 _ _ ?_
   refine wpIn_ret ?_
   refine a8 ?_
   exact bu rfl h s rfl (by show _=_;unfold dN;rw [if_neg (by omega),if_pos (by omega)])
  ·replace hc:=of_decide_eq_false hc
   refine wpIn_skip ?_
   refine hK11 _ _ ?_
   refine ak fun K14 hK14=>?_
   refine ag ?_
   refine ac h (aj (h.ev rfl)) rfl ?_;intro f h
   refine ai ?_
   refine hK14 _ _ ?_
   refine wpIn_ret ?_
   exact bu rfl h s rfl (by show _=_;unfold dN;rw [if_neg (by omega),if_neg (by omega)])
theorem lJ (x y:Mb) (w:World):Calls Tryz.prog 39 [.agg (av x),.agg (av y)].toArray w (cO w (is (.int .i64 (dN x.1 y.1)))):=by
 refine bh Tryz.func39 rfl Tryz.ntmps39 rfl [(0,.agg (av x)),(1,.agg (av y))] (by simp) fun f h=>?_
 have s:=St.start w
 refine ak fun K1 hK1=>?_
 refine ag ?_
 refine bR ((av x)) h s rfl rfl rfl ?_;intro f w1 b2 h s
 refine bR ((av y)) h s rfl rfl rfl ?_;intro f w1 b3 h s
 refine ac h (aj (h.ev rfl)) rfl ?_;intro f h
 refine ai ?_
 refine hK1 _ _ ?_
 refine ak fun K2 hK2=>?_
 refine ag ?_
 refine ac h (aq aP (h.ev rfl)) rfl ?_;intro f h
 refine aC (ax (bq.of_own s 1 rfl) 0 (aV _)) h bV rfl rfl ?_;intro f h
 refine ac h (aq aP (h.ev rfl)) rfl ?_;intro f h
 refine aC (ax (bq.of_own s 0 rfl) 0 (aV _)) h bV rfl rfl ?_;intro f h
 refine aK h s BL (wb _ _ _) rfl rfl ?_;intro f w1 v9 hT hE h s;obtain rfl:=hT
 refine ac h (aj (h.ev rfl)) rfl ?_;intro f h
 refine ai ?_
 refine hK2 _ _ ?_
 refine wpIn_ret ?_
 exact bu rfl h s rfl (rfl)
theorem mz  (w:World):Calls Tryz.prog 83 [].toArray w (cO w (is (.agg (av c4)))):=by
 refine bh Tryz.func83 rfl Tryz.ntmps83 rfl [] (by simp) fun f h=>?_
 have s:=St.start w
 refine ak fun K1 hK1=>?_
 refine ag ?_
 refine bi (av ap) h s cF rfl rfl ?_;intro f w1 b0 h s
 refine ai ?_
 refine hK1 _ _ ?_
 refine ak fun K2 hK2=>?_
 refine ag ?_
 refine ac h (eC oL rfl) rfl ?_;intro f h
 refine aA 0 h s aJ rfl rfl rfl (al _) (al _) (aX _) ?_;intro w1 s
 refine ai ?_
 refine hK2 _ _ ?_
 refine wpIn_ret ?_
 exact eP 0 rfl h s aJ rfl rfl (al _) (rfl)
theorem je (l:List Mb) (vh:Value) (w:World) (hR:bO w vh 33 l.length (am l)) (hln:l.length≤1000):Calls Tryz.prog 46 [vh,.func (.func 39) #[] #[]].toArray w (cO w (is (.bool (lA l)))):=by
 refine bh Tryz.func46 rfl Tryz.ntmps46 rfl [(0,vh),(1,.func (.func 39) #[] #[])] (by simp) fun f h=>?_
 have s:=St.start w
 refine ak fun K1 hK1=>?_
 refine ag ?_
 refine ac h (aj (h.ev rfl)) rfl ?_;intro f h
 refine ai ?_
 refine hK1 _ _ ?_
 refine ak fun K2 hK2=>?_
 refine ak fun K3 hK3=>?_
 refine ag ?_
 refine ac h (ah (h.ev rfl)) rfl ?_;intro f h
 refine ac h (bK (hR.keep s.ext) Tryz.underlying36 (h.ev rfl)) rfl ?_;intro f h
 refine ac h (fq (h.ev rfl) (h.ev rfl) (by omega)) rfl ?_;intro f h
 refine ac h (aj (h.ev rfl)) rfl ?_;intro f h
 refine ai ?_
 refine hK3 _ _ ?_
 refine wpIn_block ?_
 refine wpIn_loop_ghost (fun nn aa ww=>∃ k:Nat,Sl 25 aa [(0,vh),(1,.func (.func 39) #[] #[]),(5,.int .i64 ((k:Int) - 1))]∧St w [] ww∧nn=k∧k≤l.length∧∀ j,k≤j→0<j→j<l.length→iI l j=false) ((l.length)) ⟨l.length,h.only ⟨rfl,rfl,aQ rfl (by omega),trivial⟩,s.as trivial,rfl,Nat.le_refl _,fun j h1 _ h2=>absurd h2 (by omega)⟩ ?_
 rintro _ f w1 ⟨k,h,s,hnn,hp0,hp1⟩
 refine ak fun K4 hK4=>?_
 refine ak fun K5 hK5=>?_
 refine ag ?_
 refine ac h (ah (h.ev rfl)) rfl ?_;intro f h
 refine ac h (f7 (h.ev rfl) (h.ev rfl)) rfl ?_;intro f h
 refine ai ?_
 refine hK5 _ _ ?_
 refine bL h rfl (fun hc=>?_) (fun hc=>?_)
 ·replace hc:=of_decide_eq_true hc
  refine wpIn_skip ?_
  refine hK4 _ _ ?_
  refine ak fun K6 hK6=>?_
  refine wpIn_block ?_
  refine ak fun K7 hK7=>?_
  cases hq:(iI l (k - 1):Bool)
  ·skip
   refine bG 12 [[],[],[],[1,2],[1,2,3],[],[],[6],[5,6,7],[5,6,7,8],[0,1,2,3,4,5,6,7,8,9],[0,1,2,3,4,5,6,7,8,9,10]] h (by kernel_rfl) (by kernel_rfl) (by kernel_rfl) ?_
   have h0:=hc
   have hk1:0<k - 1:=by omega
   refine ao h (ah (h.ev rfl)) rfl ?_;intro f h
   refine ao h (ah (h.ev rfl)) rfl ?_;intro f h
   refine ao h (ah (h.ev rfl)) rfl ?_;intro f h
   refine ao h (bU (hR.keep s.ext) (k - 1) Tryz.underlying36 cA (h.ev rfl) (h.ev rfl) (by omega) (by omega)) rfl ?_;intro f h
   refine bg ((hR.keep s.ext).el (k - 1) (by omega) (by decide) (D:=av (l.getD (k - 1) ap)) (cX l (k - 1) (by omega))) h aJ rfl (al _) rfl ?_;intro f h
   refine ao h (ah (h.ev rfl)) rfl ?_;intro f h
   refine ao h (ah (h.ev rfl)) rfl ?_;intro f h
   refine ao h (fq (h.ev rfl) (h.ev rfl) (by omega)) rfl ?_;intro f h
   refine ao h (bU (hR.keep s.ext) (k - 1 - 1) Tryz.underlying36 cA (h.ev rfl) (h.ev rfl) (by omega) (by omega)) rfl ?_;intro f h
   refine bg ((hR.keep s.ext).el (k - 1 - 1) (by omega) (by decide) (D:=av (l.getD (k - 1 - 1) ap)) (cX l (k - 1 - 1) (by omega))) h aJ rfl (al _) rfl ?_;intro f h
   refine og [.agg (av (l.getD (k - 1) ap)),.agg (av (l.getD (k - 1 - 1) ap))] (caps:=[]) h uR rfl (fun w9 h9=>lJ _ _ w9) rfl rfl ?_;intro f h
   refine ao h (aE (.bool false) (cc (h.ev rfl) (h.ev rfl)) (congrArg Value.bool ((decide_eq_decide.2 (iN _ _)).trans hq))) rfl ?_;intro f h
   refine cn s fun w1 s=>?_
   refine ai ?_
   refine hK7 _ _ ?_
   refine wpIn_cond_false (h.ev rfl) ?_
   refine wpIn_skip ?_
   refine bH ?_
   refine hK6 _ _ ?_
   refine ag ?_
   refine ac h (ah (h.ev rfl)) rfl ?_;intro f h
   refine ac h (fq (h.ev rfl) (h.ev rfl) (by omega)) rfl ?_;intro f h
   refine ac h (aj (h.ev rfl)) rfl ?_;intro f h
   refine ai ?_
   refine ca ?_
   exact ⟨_,by omega,⟨k - 1,h.only ⟨rfl,rfl,aQ rfl (by omega),trivial⟩,St.as s trivial,rfl,by omega,uc hp1 (by omega) hq⟩⟩
  ·skip
   refine bG 12 [[],[],[],[1,2],[1,2,3],[],[],[6],[5,6,7],[5,6,7,8],[0,1,2,3,4,5,6,7,8,9],[0,1,2,3,4,5,6,7,8,9,10]] h (by kernel_rfl) (by kernel_rfl) (by kernel_rfl) ?_
   have h0:=hc
   have hk1:0<k - 1:=by omega
   refine ao h (ah (h.ev rfl)) rfl ?_;intro f h
   refine ao h (ah (h.ev rfl)) rfl ?_;intro f h
   refine ao h (ah (h.ev rfl)) rfl ?_;intro f h
   refine ao h (bU (hR.keep s.ext) (k - 1) Tryz.underlying36 cA (h.ev rfl) (h.ev rfl) (by omega) (by omega)) rfl ?_;intro f h
   refine bg ((hR.keep s.ext).el (k - 1) (by omega) (by decide) (D:=av (l.getD (k - 1) ap)) (cX l (k - 1) (by omega))) h aJ rfl (al _) rfl ?_;intro f h
   refine ao h (ah (h.ev rfl)) rfl ?_;intro f h
   refine ao h (ah (h.ev rfl)) rfl ?_;intro f h
   refine ao h (fq (h.ev rfl) (h.ev rfl) (by omega)) rfl ?_;intro f h
   refine ao h (bU (hR.keep s.ext) (k - 1 - 1) Tryz.underlying36 cA (h.ev rfl) (h.ev rfl) (by omega) (by omega)) rfl ?_;intro f h
   refine bg ((hR.keep s.ext).el (k - 1 - 1) (by omega) (by decide) (D:=av (l.getD (k - 1 - 1) ap)) (cX l (k - 1 - 1) (by omega))) h aJ rfl (al _) rfl ?_;intro f h
   refine og [.agg (av (l.getD (k - 1) ap)),.agg (av (l.getD (k - 1 - 1) ap))] (caps:=[]) h uR rfl (fun w9 h9=>lJ _ _ w9) rfl rfl ?_;intro f h
   refine ao h (aE (.bool true) (cc (h.ev rfl) (h.ev rfl)) (congrArg Value.bool ((decide_eq_decide.2 (iN _ _)).trans hq))) rfl ?_;intro f h
   refine cn s fun w1 s=>?_
   refine ai ?_
   refine hK7 _ _ ?_
   refine wpIn_cond_true (h.ev rfl) ?_
   refine ak fun K8 hK8=>?_
   refine ag ?_
   refine ac h (aj (h.ev rfl)) rfl ?_;intro f h
   refine ai ?_
   refine hK8 _ _ ?_
   refine wpIn_ret ?_
   refine bT ?_
   refine a8 ?_
   refine a8 ?_
   refine bT ?_
   refine a8 ?_
   exact bu rfl h s rfl (by show _=_;rw [oX (by omega) hk1 hq])
 ·replace hc:=of_decide_eq_false hc
  refine wpIn_exit ?_
  refine bN ?_
  refine bN ?_
  refine cG ?_
  refine hK2 _ _ ?_
  refine ak fun K9 hK9=>?_
  refine ag ?_
  refine ac h (aj (h.ev rfl)) rfl ?_;intro f h
  refine ai ?_
  refine hK9 _ _ ?_
  refine wpIn_ret ?_
  exact bu rfl h s rfl (by show _=_;rw [lM (fun j h1 h2=>hp1 j (by omega) h1 h2)])
theorem na (l r:List Mb) (vh vu:Value) (w:World) (hR:bO w vh 33 l.length (am l)) (hS:bO w vu 33 r.length (am r)) (hln:l.length≤1000) (hln2:r.length≤1000):Calls Tryz.prog 51 [vh,vu].toArray w (cO w (is (.bool (decide (l=r))))):=by
 refine bh Tryz.func51 rfl Tryz.ntmps51 rfl [(0,vh),(1,vu)] (by simp) fun f h=>?_
 have s:=St.start w
 refine ak fun K1 hK1=>?_
 refine ag ?_
 refine ac h (aj (h.ev rfl)) rfl ?_;intro f h
 refine ai ?_
 refine hK1 _ _ ?_
 refine ak fun K2 hK2=>?_
 refine ak fun K3 hK3=>?_
 refine ag ?_
 refine ac h (ah (h.ev rfl)) rfl ?_;intro f h
 refine ac h (bK (hR.keep s.ext) Tryz.underlying36 (h.ev rfl)) rfl ?_;intro f h
 refine ac h (ah (h.ev rfl)) rfl ?_;intro f h
 refine ac h (bK (hS.keep s.ext) Tryz.underlying36 (h.ev rfl)) rfl ?_;intro f h
 refine ac h (cJ (h.ev rfl) (h.ev rfl)) rfl ?_;intro f h
 refine ai ?_
 refine hK3 _ _ ?_
 refine bL h rfl (fun hc=>?_) (fun hc=>?_)
 ·replace hc:=hc
  refine ak fun K4 hK4=>?_
  refine ag ?_
  refine ac h (aj (h.ev rfl)) rfl ?_;intro f h
  refine ai ?_
  refine hK4 _ _ ?_
  refine wpIn_ret ?_
  refine a8 ?_
  exact bu rfl h s rfl ((by show _=_;rw [decide_eq_false (fun e=>by subst e;simp at hc)]))
 ·have hl9:l.length=r.length:=by have:=hc;simp at this;omega
  refine wpIn_skip ?_
  refine hK2 _ _ ?_
  refine ak fun K5 hK5=>?_
  refine ak fun K6 hK6=>?_
  refine ag ?_
  refine ac h (ah (h.ev rfl)) rfl ?_;intro f h
  refine ac h (bK (hR.keep s.ext) Tryz.underlying36 (h.ev rfl)) rfl ?_;intro f h
  refine ac h (ah (h.ev rfl)) rfl ?_;intro f h
  refine ai ?_
  refine hK6 _ _ ?_
  refine wpIn_block ?_
  refine wpIn_loop_ghost (fun nn aa ww=>∃ k:Nat,Sl 26 aa [(0,vh),(1,vu),(12,.int .i64 (l.length:Int)),(13,.int .i64 (k:Int))]∧St w [] ww∧nn=l.length - k∧k≤l.length∧∀ j,j<k→l.getD j ap=r.getD j ap) (l.length - (0)) ⟨0,h.only ⟨rfl,rfl,rfl,aQ rfl (by omega),trivial⟩,s.as trivial,rfl,Nat.zero_le _,fun j hj=>absurd hj (Nat.not_lt_zero _)⟩ ?_
  rintro _ f w1 ⟨k,h,s,hnn,hp0,hp1⟩
  refine ak fun K7 hK7=>?_
  refine ag ?_
  refine ac h (cc (h.ev rfl) (h.ev rfl)) rfl ?_;intro f h
  refine ai ?_
  refine hK7 _ _ ?_
  refine ak fun K8 hK8=>?_
  refine bL h rfl (fun hc=>?_) (fun hc=>?_)
  ·replace hc:=of_decide_eq_true hc
   refine wpIn_skip ?_
   refine hK8 _ _ ?_
   refine ak fun K9 hK9=>?_
   refine wpIn_block ?_
   refine ak fun K10 hK10=>?_
   refine ag ?_
   refine ac h (ah (h.ev rfl)) rfl ?_;intro f h
   refine ac h (aj (h.ev rfl)) rfl ?_;intro f h
   refine ai ?_
   refine hK10 _ _ ?_
   refine ak fun K11 hK11=>?_
   refine bG 9 [[],[],[0,1],[0,1,2],[],[],[4,5],[4,5,6],[0,1,2,3,4,5,6,7]] h (by kernel_rfl) (by kernel_rfl) (by kernel_rfl) ?_
   have hka:k<l.length:=by omega
   have hkb:k<r.length:=by omega
   refine ao h (ah (h.ev rfl)) rfl ?_;intro f h
   refine ao h (ah (h.ev rfl)) rfl ?_;intro f h
   refine ao h (bU (hR.keep s.ext) (k) Tryz.underlying36 cA (h.ev rfl) (h.ev rfl) (by omega) (by omega)) rfl ?_;intro f h
   refine bg ((hR.keep s.ext).el (k) (by omega) (by decide) (D:=av (l.getD k ap)) (cX l k hka)) h aJ rfl (al _) rfl ?_;intro f h
   refine ao h (ah (h.ev rfl)) rfl ?_;intro f h
   refine ao h (ah (h.ev rfl)) rfl ?_;intro f h
   refine ao h (bU (hS.keep s.ext) (k) Tryz.underlying36 cA (h.ev rfl) (h.ev rfl) (by omega) (by omega)) rfl ?_;intro f h
   refine bg ((hS.keep s.ext).el (k) (by omega) (by decide) (D:=av (r.getD k ap)) (cX r k hkb)) h aJ rfl (al _) rfl ?_;intro f h
   refine ao h (fh (i9 _ _) (by kernel_rfl) (by decide) (h.ev rfl) (h.ev rfl) (decide ((l.getD k ap)=r.getD k ap)) (er _ _)) rfl ?_;intro f h
   refine cn s fun w1 s=>?_
   refine ai ?_
   refine hK11 _ _ ?_
   refine bL h rfl (fun hc=>?_) (fun hc=>?_)
   ·refine ak fun K12 hK12=>?_
    refine ag ?_
    refine ac h (aj (h.ev rfl)) rfl ?_;intro f h
    refine ai ?_
    refine hK12 _ _ ?_
    refine wpIn_ret ?_
    refine bT ?_
    refine a8 ?_
    refine a8 ?_
    refine bT ?_
    refine a8 ?_
    exact bu rfl h s rfl ((by show _=_;rw [decide_eq_false (fun e=>by subst e;simp at hc)]))
   ·refine wpIn_skip ?_
    refine bH ?_
    refine hK9 _ _ ?_
    refine ag ?_
    refine ac h (cp (h.ev rfl) (h.ev rfl) (by omega)) rfl ?_;intro f h
    refine ac h (ah (h.ev rfl)) rfl ?_;intro f h
    refine ai ?_
    refine ca ?_
    exact ⟨_,by omega,⟨k+1,h.only ⟨rfl,rfl,rfl,aQ rfl (by omega),trivial⟩,St.as s trivial,rfl,by omega,oW hp1 (by simpa using hc)⟩⟩
  ·replace hc:=of_decide_eq_false hc
   refine wpIn_exit ?_
   refine bN ?_
   refine bN ?_
   refine cG ?_
   refine hK5 _ _ ?_
   refine ak fun K13 hK13=>?_
   refine ag ?_
   refine ac h (aj (h.ev rfl)) rfl ?_;intro f h
   refine ai ?_
   refine hK13 _ _ ?_
   refine wpIn_ret ?_
   exact bu rfl h s rfl ((by show _=_;rw [decide_eq_true (r2 hl9 (fun j hj=>hp1 j (by omega)))]))
theorem eV (vo:Value) (B9:List Own) (w0 w:World) (s:St w0 B9 w):Calls Tryz.prog 47 [.agg #[vo]].toArray w (fun e w9=>∃ r,e=.returned r∧∃ bn,r=.func (.func 79) #[] #[.pointer (some ⟨bn,0,none⟩)]∧St w0 (.blk bn (.cells #[vo] 24)::B9) w9):=by
 refine dT Tryz.func47 rfl Tryz.ntmps47 rfl [(0,.agg #[vo])] (by simp) fun f h=>?_
 refine ak fun K1 hK1=>?_
 refine ag ?_
 refine bR (#[vo]) h s rfl rfl rfl ?_;intro f w1 b1 h s
 refine ac h (aj (h.ev rfl)) rfl ?_;intro f h
 refine ai ?_
 refine hK1 _ _ ?_
 refine ak fun K2 hK2=>?_
 refine ag ?_
 refine ac h (dg [.pointer (some ⟨b1,0,none⟩)] (jX h rfl)) rfl ?_;intro f h
 refine ac h (aj (h.ev rfl)) rfl ?_;intro f h
 refine ai ?_
 refine hK2 _ _ ?_
 refine wpIn_ret ?_
 exact gb rfl h rfl (⟨_,rfl,b1,rfl,s⟩)
theorem ep (m:Nat) (hm:m≤1000) (vo:Value) (xs:List Value) (wr:World) (hV:bO wr vo 68 m xs) (lp bx:Nat) (q:Nat→Bool) (GG:Nat→Own→Prop) (g0:Own) (w0 w:World) (s:St w0 [.blk bx (.cells #[vo] 24),g0] w) (hg0:GG 0 g0) (hY:∀ (d:Nat) (B9:List Own) (w9:World) (i:Nat) (g:Own),d<m→(∀ j,j<d→q j=false)→GG d g→St w0 B9 w9→B9[i]? = some g→gS Tryz.prog lp [Value.pointer (some (aF vo (d*68)))].toArray w9 (fun v w2=>v=.bool (!q d)∧∃ g',GG (d+1) g'∧St w0 (B9.set i g') w2)):Calls Tryz.prog 79 [.func (.yield lp) #[] #[],.pointer (some ⟨bx,0,none⟩)].toArray w (fun e w9=>(∃ v,e=.returned v)∧∃ d g,GG d g∧St w0 ([.blk bx (.cells #[vo] 24)]++[g]) w9∧d≤m∧(∀ j,j+1<d→q j=false)∧(lq q d=false→d=m)):=by
 refine dT Tryz.func79 rfl Tryz.ntmps79 rfl [(0,.func (.yield lp) #[] #[]),(1,.pointer (some ⟨bx,0,none⟩))] (by simp) fun f h=>?_
 refine ak fun K1 hK1=>?_
 refine ag ?_
 refine ac h (aq ck (h.ev rfl)) rfl ?_;intro f h
 refine aC (V:=vo) (ax (bq.of_own s 0 rfl) 0 rfl) h c3 rfl rfl ?_;intro f h
 refine ac h (bK (hV) Tryz.underlying22 (h.ev rfl)) rfl ?_;intro f h
 refine ac h (ah (h.ev rfl)) rfl ?_;intro f h
 refine ai ?_
 refine hK1 _ _ ?_
 refine wpIn_block ?_
 refine wpIn_loop_ghost (fun nn aa ww=>∃ d:Nat,∃ gg:Own,Sl 18 aa [(0,.func (.yield lp) #[] #[]),(1,.pointer (some ⟨bx,0,none⟩)),(6,.int .i64 (m:Int)),(7,.int .i64 (d:Int))]∧St w0 [.blk bx (.cells (#[vo]) 24),(gg)] ww∧nn=m - d∧d≤m∧GG d gg∧∀ j,j<d→q j=false) (m - (0)) ⟨0,g0,h.only ⟨rfl,rfl,rfl,aQ rfl (by omega),trivial⟩,s.as ⟨rfl,rfl,trivial⟩,rfl,Nat.zero_le _,hg0,fun j hj=>absurd hj (Nat.not_lt_zero _)⟩ ?_
 rintro _ f w1 ⟨d,gg,h,s,hnn,hp0,hp1,hp2⟩
 refine ak fun K2 hK2=>?_
 refine ag ?_
 refine ac h (cc (h.ev rfl) (h.ev rfl)) rfl ?_;intro f h
 refine ai ?_
 refine hK2 _ _ ?_
 refine ak fun K3 hK3=>?_
 refine bL h rfl (fun hc=>?_) (fun hc=>?_)
 ·replace hc:=of_decide_eq_true hc
  refine wpIn_skip ?_
  refine hK3 _ _ ?_
  refine ak fun K4 hK4=>?_
  refine wpIn_block ?_
  refine ak fun K5 hK5=>?_
  refine ag ?_
  have hdl:d<m:=by omega
  refine ac h (ah (h.ev rfl)) rfl ?_;intro f h
  refine ac h (aj (h.ev rfl)) rfl ?_;intro f h
  refine ai ?_
  refine hK5 _ _ ?_
  refine ak fun K6 hK6=>?_
  cases hq:(q d:Bool)
  ·skip
   refine ag ?_
   refine ac h (ah (h.ev rfl)) rfl ?_;intro f h
   refine ac h (aq ck (h.ev rfl)) rfl ?_;intro f h
   refine aC (V:=vo) (ax (bq.of_own s 0 rfl) 0 rfl) h c3 rfl rfl ?_;intro f h
   refine ac h (ah (h.ev rfl)) rfl ?_;intro f h
   refine ac h (bU (hV) (d) Tryz.underlying22 fa (h.ev rfl) (h.ev rfl) (by omega) (by omega)) rfl ?_;intro f h
   refine eO (V:=.bool true) (G:=GG (d+1)) [.pointer (some (aF vo (d*68)))] 1 h rfl rfl (by have h9:=hY d _ _ 1 gg hdl hp2 hp1 s rfl;rw [hq] at h9;exact h9) rfl ?_;intro f w1 g1 hg1 h s
   refine ac h (aE (.bool false) (bI (h.ev rfl)) rfl) rfl ?_;intro f h
   refine ai ?_
   refine hK6 _ _ ?_
   refine wpIn_cond_false (h.ev rfl) ?_
   refine wpIn_skip ?_
   refine bH ?_
   refine hK4 _ _ ?_
   refine ag ?_
   refine ac h (cp (h.ev rfl) (h.ev rfl) (by omega)) rfl ?_;intro f h
   refine ac h (ah (h.ev rfl)) rfl ?_;intro f h
   refine ai ?_
   refine ca ?_
   exact ⟨_,by omega,⟨d+1,g1,h.only ⟨rfl,rfl,rfl,aQ rfl (by omega),trivial⟩,St.as s ⟨rfl,rfl,trivial⟩,rfl,by omega,hg1,d1 hp2 hq⟩⟩
  ·skip
   refine ag ?_
   refine ac h (ah (h.ev rfl)) rfl ?_;intro f h
   refine ac h (aq ck (h.ev rfl)) rfl ?_;intro f h
   refine aC (V:=vo) (ax (bq.of_own s 0 rfl) 0 rfl) h c3 rfl rfl ?_;intro f h
   refine ac h (ah (h.ev rfl)) rfl ?_;intro f h
   refine ac h (bU (hV) (d) Tryz.underlying22 fa (h.ev rfl) (h.ev rfl) (by omega) (by omega)) rfl ?_;intro f h
   refine eO (V:=.bool false) (G:=GG (d+1)) [.pointer (some (aF vo (d*68)))] 1 h rfl rfl (by have h9:=hY d _ _ 1 gg hdl hp2 hp1 s rfl;rw [hq] at h9;exact h9) rfl ?_;intro f w1 g1 hg1 h s
   refine ac h (aE (.bool true) (bI (h.ev rfl)) rfl) rfl ?_;intro f h
   refine ai ?_
   refine hK6 _ _ ?_
   refine wpIn_cond_true (h.ev rfl) ?_
   refine wpIn_ret ?_
   refine bT ?_
   refine a8 ?_
   refine a8 ?_
   refine bT ?_
   exact jw rfl h (⟨⟨_,rfl⟩,d+1,g1,hg1,s,by omega,fun j hj=>hp2 j (by omega),fun h9=>absurd (hq.symm.trans h9) (by decide)⟩)
 ·replace hc:=of_decide_eq_false hc
  refine wpIn_exit ?_
  refine bN ?_
  refine bN ?_
  refine cG ?_
  exact dA rfl h (⟨⟨_,rfl⟩,d,gg,hp1,s,hp0,fun j hj=>hp2 j (by omega),fun _=>by omega⟩)
theorem dw (L:List N3) (vo:Value) (no:Int) (w:World) (hO:cI w vo L) (hL:L.length≤40):Calls Tryz.prog 35 [.agg #[vo],.int .i64 no].toArray w (cO w (is (qO vo L no))):=by
 refine dZ Tryz.func35 rfl Tryz.ntmps35 rfl [(0,.agg #[vo]),(1,.int .i64 no)] (by simp) fun f h=>?_
 have s:=St.start w
 refine ak fun K1 hK1=>?_
 refine ag ?_
 refine bR (#[vo]) h s rfl rfl rfl ?_;intro f w1 b2 h s
 refine bR (#[.int .i64 no]) h s rfl rfl rfl ?_;intro f w1 b3 h s
 refine bi (#[.pointer none]) h s Au rfl rfl ?_;intro f w1 b4 h s
 refine ai ?_
 refine hK1 _ _ ?_
 refine ak fun K2 hK2=>?_
 refine ak fun K3 hK3=>?_
 refine ag ?_
 refine ay 2 h s a7 rfl rfl (rfl) rfl ?_;intro f h
 refine cV [.agg #[vo]] h ko (eV vo _ _ _ s) rfl rfl ?_;rintro f w1 r ⟨bn,rfl,s⟩ h
 refine ai ?_
 refine hK3 _ _ ?_
 refine wpIn_block ?_
 refine dJ (fun d A9=>A9=[.blk b4 (.cells #[BD vo (qL L no) d] 54),.blk b3 (.cells #[.int .i64 no] 3),.blk b2 (.cells #[vo] 24)]) [.blk b4 (.cells #[.pointer none] 54),.blk b3 (.cells #[.int .i64 no] 3),.blk b2 (.cells #[vo] 24)] [.blk bn (.cells #[vo] 24)] (L.length) (qL L no) (fun d=>[Value.pointer (some (aF vo (d*68)))]) h s rfl kv (List.Perm.refl _) (rfl) (fun _=>rfl) ?_ ?_ ?_ ?_
 ·intro lp w2 GG g0 hg0 s2 hY;exact ep L.length (by omega) vo _ _ hO.1 lp bn (qL L no) GG g0 w w2 s2 hg0 hY
 ·intro lp D9 d9 rc R9 A9 w2 hd9 hq9 hJ9 s
  obtain rfl:=hJ9
  have h:=Sl.round1 (p:=8) (V:=.pointer (some (aF vo (d9*68)))) h rfl
  have hdl9:=hd9
  refine ag ?_
  refine ac h (aj (h.ev rfl)) rfl ?_;intro f h
  refine ai ?_
  refine ca ?_
  refine ⟨_,s,fun w3 s=>?_⟩
  refine wpIn_block ?_
  refine ak fun K4 hK4=>?_
  cases hq:(qL L no d9:Bool)
  ·skip
   refine bG 7 [[],[0],[0,1],[0,1,2],[0,1,2,3],[],[0,1,2,3,4,5]] h (by kernel_rfl) (by kernel_rfl) (by kernel_rfl) ?_
   refine ao h (ah (h.ev rfl)) rfl ?_;intro f h
   refine ao h (aZ (h.ev rfl)) rfl ?_;intro f h
   refine ao h (bB bA (h.ev rfl) ((hO.1.keep s.ext).some (by omega))) rfl ?_;intro f h
   refine ao h (bB aP (h.ev rfl) ((hO.1.keep s.ext).some (by omega))) rfl ?_;intro f h
   refine bz (V:=.int .i64 (L.getD d9 z3).1.me.1) (dq (hO.1.keep s.ext) (d9*68+0) (m8 L d9 hdl9)) h bV rfl rfl ?_;intro f h
   refine dD 3 h s bV rfl rfl (rfl) rfl ?_;intro f h
   refine ao h (aE (.bool false) (cb (h.ev rfl) (h.ev rfl)) (congrArg Value.bool hq)) rfl ?_;intro f h
   refine cn s fun w1 s=>?_
   refine ai ?_
   refine hK4 _ _ ?_
   refine wpIn_cond_false (h.ev rfl) ?_
   refine wpIn_skip ?_
   refine bH ?_
   replace s:=s.recell (D:=#[BD vo (qL L no) (d9+1)]) 2 rfl (by rw [x1 hq9];show _=#[bif qL L no d9 then _ else _];rw [hq];rfl)
   refine ⟨by first|exact hq|rfl,_,rfl,s.pick _ ?_⟩
   exact List.Sublist.cons_cons _ (List.Sublist.refl _)
  ·skip
   refine bG 7 [[],[0],[0,1],[0,1,2],[0,1,2,3],[],[0,1,2,3,4,5]] h (by kernel_rfl) (by kernel_rfl) (by kernel_rfl) ?_
   refine ao h (ah (h.ev rfl)) rfl ?_;intro f h
   refine ao h (aZ (h.ev rfl)) rfl ?_;intro f h
   refine ao h (bB bA (h.ev rfl) ((hO.1.keep s.ext).some (by omega))) rfl ?_;intro f h
   refine ao h (bB aP (h.ev rfl) ((hO.1.keep s.ext).some (by omega))) rfl ?_;intro f h
   refine bz (V:=.int .i64 (L.getD d9 z3).1.me.1) (dq (hO.1.keep s.ext) (d9*68+0) (m8 L d9 hdl9)) h bV rfl rfl ?_;intro f h
   refine dD 3 h s bV rfl rfl (rfl) rfl ?_;intro f h
   refine ao h (aE (.bool true) (cb (h.ev rfl) (h.ev rfl)) (congrArg Value.bool hq)) rfl ?_;intro f h
   refine cn s fun w1 s=>?_
   refine ai ?_
   refine hK4 _ _ ?_
   refine wpIn_cond_true (h.ev rfl) ?_
   refine ak fun K5 hK5=>?_
   refine ag ?_
   refine ac h (ah (h.ev rfl)) rfl ?_;intro f h
   refine bk 2 h s rv rfl rfl rfl (by simp) (rfl) ?_;intro w1 s
   refine ai ?_
   refine hK5 _ _ ?_
   refine wpIn_ret ?_
   refine bT ?_
   replace s:=s.recell (D:=#[BD vo (qL L no) (d9+1)]) 2 rfl (by show _=#[bif qL L no d9 then _ else _];rw [hq];rfl)
   refine ⟨by first|exact hq|rfl,_,rfl,s.pick _ ?_⟩
   exact List.Sublist.cons_cons _ (List.Sublist.refl _)
 ·intro D9 A9 w2 hJ9 hq9 s
  obtain rfl:=hJ9
  replace h:Sl _ {f with defers:={target:=.collected D9,args:=#[]}::f.defers} _ [{target:=.collected D9,args:=#[]}]:=⟨h.size,by rw [h.defers],h.holds⟩
  refine bH ?_
  refine hK2 _ _ ?_
  refine ak fun K6 hK6=>?_
  refine ag ?_
  refine bk 2 h s rv rfl rfl rfl (by simp) (rfl) ?_;intro w1 s
  refine ai ?_
  refine hK6 _ _ ?_
  refine wpIn_ret ?_
  exact eM 2 0 rfl h s rv rfl rfl rfl rfl rfl (fun w9=>(CO hq9).symm)
 ·intro D9 d9 A9 w2 hd9 hqd9 hq9 hJ9 s
  obtain rfl:=hJ9
  replace h:Sl _ {f with defers:={target:=.collected D9,args:=#[]}::f.defers} _ [{target:=.collected D9,args:=#[]}]:=⟨h.size,by rw [h.defers],h.holds⟩
  refine bT ?_
  refine a8 ?_
  exact eM 2 0 rfl h s rv rfl rfl rfl rfl rfl (fun w9=>BQ hd9 hq9 hqd9)
theorem eA (L:List N3) (vo:Value) (w:World) (hO:cI w vo L) (hL:L.length≤40):Calls Tryz.prog 15 [.agg #[vo]].toArray w (cO w (fun v w'=>cH w' w.heap.size 28 33 v (ae L).length (am (ae L)))):=by
 refine dZ Tryz.func15 rfl Tryz.ntmps15 rfl [(0,.agg #[vo])] (by simp) fun f h=>?_
 have s:=St.start w
 refine ak fun K1 hK1=>?_
 refine ag ?_
 refine bR (#[vo]) h s rfl rfl rfl ?_;intro f w1 b1 h s
 refine ac h (aj (h.ev rfl)) rfl ?_;intro f h
 refine ai ?_
 refine hK1 _ _ ?_
 refine ak fun K2 hK2=>?_
 refine ag ?_
 refine bi (#[.slice none 0 0]) h s qM rfl rfl ?_;intro f w1 b3 h s
 refine ai ?_
 refine hK2 _ _ ?_
 refine ak fun K3 hK3=>?_
 refine ak fun K4 hK4=>?_
 refine ag ?_
 refine ay 1 h s a7 rfl rfl (rfl) rfl ?_;intro f h
 replace s:=s.nilSl 28 33
 refine cV [.agg #[vo]] h ko (eV vo _ _ _ s) rfl rfl ?_;rintro f w1 r ⟨bn,rfl,s⟩ h
 refine ai ?_
 refine hK4 _ _ ?_
 refine wpIn_block ?_
 refine dJ (fun d A9=>∃ v8:Value,A9=[.sl v8 28 33 (ae (L.take d)).length (am (ae (L.take d))),.blk b3 (.cells #[v8] 36),.blk b1 (.cells #[vo] 24)]) [.sl (Value.slice none 0 0) 28 33 (ae (L.take 0)).length (am (ae (L.take 0))),.blk b3 (.cells #[(Value.slice none 0 0)] 36),.blk b1 (.cells #[vo] 24)] [.blk bn (.cells #[vo] 24)] (L.length) (fun _=>false) (fun d=>[Value.pointer (some (aF vo (d*68)))]) h s rfl kv (List.Perm.refl _) (⟨_,rfl⟩) (fun _=>rfl) ?_ ?_ ?_ ?_
 ·intro lp w2 GG g0 hg0 s2 hY;exact ep L.length (by omega) vo _ _ hO.1 lp bn (fun _=>false) GG g0 w w2 s2 hg0 hY
 ·intro lp D9 d9 rc R9 A9 w2 hd9 hq9 hJ9 s
  obtain ⟨v8,rfl⟩:=hJ9
  have h:=Sl.round1 (p:=7) (V:=.pointer (some (aF vo (d9*68)))) h rfl
  have hdl9:=hd9
  refine ag ?_
  refine ac h (aj (h.ev rfl)) rfl ?_;intro f h
  refine ai ?_
  refine ca ?_
  refine ⟨_,s,fun w3 s=>?_⟩
  refine wpIn_block ?_
  have hbs:=s.ext.le
  refine' nL 6 [1,2,3] [] [[],[],[1],[1,2],[1,2,3],[1,2,3,4],[0,1,2,3,4,5],[0,1,2,3,4,5,6]] (is _::is _::is _::is _::is _::(fun v w9=>bO w9 v 33 1 ((av (L.getD d9 z3).1.me).toList))::is undef::is undef::[]) (fun _=>True) h s (by kernel_rfl) (by kernel_rfl) (by kernel_rfl) (by kernel_rfl) rfl (fun _ _ h _=>h) (trivial) ⟨⟨_,rfl⟩,⟨_,rfl⟩,⟨_,rfl⟩,trivial⟩ ⟨bF _,bF _,bF _,bF _,bF _,bO.mono,bF _,bF _,trivial⟩ (And.intro ?_ (And.intro ?_ (And.intro ?_ (And.intro ?_ (And.intro ?_ (And.intro ?_ (And.intro ?_ (And.intro ?_ (trivial))))))))) ?_
  rotate_left 5
  ·refine cz 8 rfl (by decide) (by decide) ?_
   intro f9 w2 hE hs hd9 hl
   have e3:f9.tmps.getD 3 undef=_:=dR hl 3 (by kernel_rfl) (by kernel_rfl) (h.holds 3 _ rfl)
   have h:=aB [(3,_)] hs hd9 (holds_lk ⟨e3,trivial⟩)
   have s:=s.more hE
   have z:=St.start w2
   refine bX 3 h s cf rfl rfl (rfl) rfl ?_;intro f h
   refine ai ?_
   have e9:=h.holds 8 _ rfl
   refine ⟨?_,Ext.refl _,fun h9=>absurd h9 (by decide)⟩
   refine e9.trans ?_
   exact rfl
  ·refine dS 9 rfl (by decide) ?_
   intro f9 w2 hE hs hl
   have e4:f9.tmps.getD 4 undef=_:=dR hl 4 (by kernel_rfl) (by kernel_rfl) (h.holds 4 _ rfl)
   have h:=aB [(4,_)] hs rfl (holds_lk ⟨e4,trivial⟩)
   refine ac h (ah (h.ev rfl)) rfl ?_;intro f h
   refine ai ?_
   have e9:=h.holds 9 _ rfl
   refine ⟨?_,rfl⟩
   refine e9.trans ?_
   exact rfl
  ·refine dS 10 rfl (by decide) ?_
   intro f9 w2 hE hs hl
   have e9:f9.tmps.getD 9 undef=_:=cd hl 9 1 (by kernel_rfl) (by kernel_rfl)
   have h:=aB [(9,_)] hs rfl (holds_lk ⟨e9,trivial⟩)
   refine ac h (aZ (h.ev rfl)) rfl ?_;intro f h
   refine ai ?_
   have e9:=h.holds 10 _ rfl
   refine ⟨?_,rfl⟩
   refine e9.trans ?_
   exact rfl
  ·refine dS 11 rfl (by decide) ?_
   intro f9 w2 hE hs hl
   have e10:f9.tmps.getD 10 undef=_:=cd hl 10 2 (by kernel_rfl) (by kernel_rfl)
   have h:=aB [(10,_)] hs rfl (holds_lk ⟨e10,trivial⟩)
   refine ac h (bB bA (h.ev rfl) ((hO.1.keep s.ext).some (by omega))) rfl ?_;intro f h
   refine ai ?_
   have e9:=h.holds 11 _ rfl
   refine ⟨?_,rfl⟩
   refine e9.trans ?_
   exact rfl
  ·refine cz 12 rfl (by decide) (by decide) ?_
   intro f9 w2 hE hs hd9 hl
   have e11:f9.tmps.getD 11 undef=_:=cd hl 11 3 (by kernel_rfl) (by kernel_rfl)
   have h:=aB [(11,_)] hs hd9 (holds_lk ⟨e11,trivial⟩)
   have s:=s.more hE
   have z:=St.start w2
   refine aI (bO.elF (hO.1.keep s.ext) (d9) 0 33 (by omega) (by decide) (C:=au (L.getD d9 z3).1.me (L.getD d9 z3).1.pr (L.getD d9 z3).2.1 (L.getD d9 z3).2.2) (cR L d9 hdl9) (D:=av (L.getD d9 z3).1.me) (bZ _ _ _ _)) h aJ rfl (al _) rfl ?_;intro f h
   refine ai ?_
   have e9:=h.holds 12 _ rfl
   refine ⟨?_,Ext.refl _,fun h9=>absurd h9 (by decide)⟩
   refine e9.trans ?_
   exact rfl
  ·refine cz 13 rfl (by decide) (by decide) ?_
   intro f9 w2 hE hs hd9 hl
   have e12:f9.tmps.getD 12 undef=_:=cd hl 12 4 (by kernel_rfl) (by kernel_rfl)
   have h:=aB [(12,_)] hs hd9 (holds_lk ⟨e12,trivial⟩)
   have s:=s.more hE
   have z:=St.start w2
   refine cW (vs:=[.agg (av (L.getD d9 z3).1.me)]) [.tmp 12] h z Tryz.underlying36 dY rfl rfl (jb _) rfl rfl rfl ?_;intro f w1 v9 h z
   refine ai ?_
   exact B0 (h.holds 13 _ rfl) z _ (eY _)
  ·exact gu (by decide) (by decide)
  ·exact gu (by decide) (by decide)
  ·intro f9 w2 hE hs hd9 hWp hT hR hFr hDj
   obtain ⟨u13,hu13⟩:∃ v,f9.tmps.getD 13 undef=v:=⟨_,rfl⟩
   have e13:(fun v w9=>bO w9 v 33 1 ((av (L.getD d9 z3).1.me).toList)) u13 w2:=by rw [← hu13];exact hT 5 13 (by decide) rfl
   replace h:=sl_new (ops:=_) [(8,_),(9,_),(10,_),(11,_),(12,_),(13,u13)] h hs hd9 hR ⟨hT 0 8 (by decide) rfl,hT 1 9 (by decide) rfl,hT 2 10 (by decide) rfl,hT 3 11 (by decide) rfl,hT 4 12 (by decide) rfl,hu13,trivial⟩ (by kernel_rfl)
   replace s:=s.more hE
   clear hT hR hFr hDj
   refine gt.of ?_
   refine eS 2 (e13) h s Tryz.underlying36 dY rfl rfl rfl (aX _) (by rw [List.length_map,List.length_take];unfold maxLen;omega) (by rw [List.length_map,List.length_take];omega) rfl ?_;intro f w1 v14 h s
   refine bk 3 h s cf rfl rfl rfl (by simp) (bo (s.getSl 2 rfl)) ?_;intro w1 s
   refine ai ?_
   refine bH ?_
   replace s:=s.resl (m:=(ae (L.take (d9+1))).length) (ys:=am (ae (L.take (d9+1)))) 2 rfl (by rw [jf hdl9,List.length_append];rfl) (by rw [jf hdl9,k4])
   refine ⟨rfl,_,⟨v14,rfl⟩,s.pick _ ?_⟩
   exact List.Sublist.cons_cons _ (List.Sublist.refl _)
 ·intro D9 A9 w2 hJ9 hq9 s
  obtain ⟨v8,rfl⟩:=hJ9
  replace h:Sl _ {f with defers:={target:=.collected D9,args:=#[]}::f.defers} _ [{target:=.collected D9,args:=#[]}]:=⟨h.size,by rw [h.defers],h.holds⟩
  rw [List.take_length] at s
  refine bH ?_
  refine hK3 _ _ ?_
  refine ak fun K5 hK5=>?_
  refine ag ?_
  refine bX 3 h s cf rfl rfl (rfl) rfl ?_;intro f h
  refine ac h (aj (h.ev rfl)) rfl ?_;intro f h
  refine ai ?_
  refine hK5 _ _ ?_
  refine wpIn_ret ?_
  exact lx 0 rfl h s rfl rfl (fun w9 s9=>s9.getSl 2 rfl)
 ·intro D9 d9 A9 w2 hd9 hqd9 hq9 hJ9 s
  cases hqd9
theorem qW (a9:Option Addr) (n9 c9:Nat) (B9:List Own) (w0 w:World) (s:St w0 B9 w):Calls Tryz.prog 99 [.slice a9 n9 c9].toArray w (fun e w9=>∃ r,e=.returned r∧∃ bv,r=.func (.func 130) #[] #[.pointer (some ⟨bv,0,none⟩)]∧St w0 (.blk bv (.cells #[.slice a9 n9 c9] 36)::B9) w9):=by
 refine dT Tryz.func99 rfl Tryz.ntmps99 rfl [(0,.slice a9 n9 c9)] (by simp) fun f h=>?_
 refine ak fun K1 hK1=>?_
 refine ag ?_
 refine bR (#[.slice a9 n9 c9]) h s rfl rfl rfl ?_;intro f w1 b1 h s
 refine ac h (aj (h.ev rfl)) rfl ?_;intro f h
 refine ai ?_
 refine hK1 _ _ ?_
 refine ak fun K2 hK2=>?_
 refine ag ?_
 refine ac h (dg [.pointer (some ⟨b1,0,none⟩)] (jX h rfl)) rfl ?_;intro f h
 refine ac h (aj (h.ev rfl)) rfl ?_;intro f h
 refine ai ?_
 refine hK2 _ _ ?_
 refine wpIn_ret ?_
 exact gb rfl h rfl (⟨_,rfl,b1,rfl,s⟩)
theorem oF (l:List Mb) (vh:Value) (B9:List Own) (w0 w:World) (s:St w0 B9 w) (hR:bO w vh 33 l.length (am l)):Calls Tryz.prog 99 [vh].toArray w (fun e w9=>∃ r,e=.returned r∧∃ bv,r=.func (.func 130) #[] #[.pointer (some ⟨bv,0,none⟩)]∧St w0 (.blk bv (.cells #[vh] 36)::B9) w9):=by
 obtain ⟨a,c,rfl⟩:=hR.len
 exact qW a _ c B9 w0 w s
theorem iK (l:List Mb) (hln:l.length≤1000) (vh:Value) (lp bx:Nat) (q:Nat→Bool) (GG:Nat→Own→Prop) (g0:Own) (w0 w:World) (s:St w0 [.blk bx (.cells #[vh] 36),.sl vh 28 33 l.length (am l),g0] w) (hg0:GG 0 g0) (hY:∀ (d:Nat) (B9:List Own) (w9:World) (i:Nat) (g:Own),d<l.length→(∀ j,j<d→q j=false)→GG d g→St w0 B9 w9→B9[i]? = some g→gS Tryz.prog lp [Value.agg (av (l.getD d ap))].toArray w9 (fun v w2=>v=.bool (!q d)∧∃ g',GG (d+1) g'∧St w0 (B9.set i g') w2)):Calls Tryz.prog 130 [.func (.yield lp) #[] #[],.pointer (some ⟨bx,0,none⟩)].toArray w (fun e w9=>(∃ v,e=.returned v)∧∃ d g,GG d g∧St w0 ([.blk bx (.cells #[vh] 36),.sl vh 28 33 l.length (am l)]++[g]) w9∧d≤l.length∧(∀ j,j+1<d→q j=false)∧(lq q d=false→d=l.length)):=by
 refine dT Tryz.func130 rfl Tryz.ntmps130 rfl [(0,.func (.yield lp) #[] #[]),(1,.pointer (some ⟨bx,0,none⟩))] (by simp) fun f h=>?_
 refine ak fun K1 hK1=>?_
 refine ag ?_
 refine bX 0 h s cf rfl rfl (rfl) rfl ?_;intro f h
 refine da 1 h s Tryz.underlying36 rfl rfl rfl ?_;intro f h
 refine ac h (ah (h.ev rfl)) rfl ?_;intro f h
 refine ai ?_
 refine hK1 _ _ ?_
 refine wpIn_block ?_
 refine wpIn_loop_ghost (fun nn aa ww=>∃ d:Nat,∃ gg:Own,Sl 16 aa [(0,.func (.yield lp) #[] #[]),(1,.pointer (some ⟨bx,0,none⟩)),(5,vh),(6,.int .i64 (l.length:Int)),(7,.int .i64 (d:Int))]∧St w0 [.blk bx (.cells (#[vh]) 36),.sl vh 28 33 l.length (am l),(gg)] ww∧nn=l.length - d∧d≤l.length∧GG d gg∧∀ j,j<d→q j=false) (l.length - (0)) ⟨0,g0,h.only ⟨rfl,rfl,rfl,rfl,aQ rfl (by omega),trivial⟩,s.as ⟨rfl,rfl,rfl,trivial⟩,rfl,Nat.zero_le _,hg0,fun j hj=>absurd hj (Nat.not_lt_zero _)⟩ ?_
 rintro _ f w1 ⟨d,gg,h,s,hnn,hp0,hp1,hp2⟩
 refine ak fun K2 hK2=>?_
 refine ag ?_
 refine ac h (cc (h.ev rfl) (h.ev rfl)) rfl ?_;intro f h
 refine ai ?_
 refine hK2 _ _ ?_
 refine ak fun K3 hK3=>?_
 refine bL h rfl (fun hc=>?_) (fun hc=>?_)
 ·replace hc:=of_decide_eq_true hc
  refine wpIn_skip ?_
  refine hK3 _ _ ?_
  refine ak fun K4 hK4=>?_
  refine wpIn_block ?_
  refine ak fun K5 hK5=>?_
  refine ag ?_
  have hdl:d<l.length:=by omega
  refine ac h (bU (bO.of_own (s.getSl 1 rfl)) (d) Tryz.underlying36 cA (h.ev rfl) (h.ev rfl) (by omega) (by omega)) rfl ?_;intro f h
  refine aI ((bO.of_own (s.getSl 1 rfl)).el (d) (by omega) (by decide) (D:=av (l.getD d ap)) (cX l d hdl)) h aJ rfl (al _) rfl ?_;intro f h
  refine bi (av ap) h s cF rfl rfl ?_;intro f w1 b4 h s
  refine aA 0 h s aJ rfl rfl rfl (al _) (al _) (aX _) ?_;intro w1 s
  refine ai ?_
  refine hK5 _ _ ?_
  refine ak fun K6 hK6=>?_
  cases hq:(q d:Bool)
  ·skip
   refine ag ?_
   refine ac h (ah (h.ev rfl)) rfl ?_;intro f h
   refine ay 0 h s aJ rfl rfl (al _) rfl ?_;intro f h
   refine eO (V:=.bool true) (G:=GG (d+1)) [.agg (av (l.getD d ap))] 3 h rfl rfl (by have h9:=hY d _ _ 3 gg hdl hp2 hp1 s rfl;rw [hq] at h9;exact h9) rfl ?_;intro f w1 g1 hg1 h s
   refine ac h (aE (.bool false) (bI (h.ev rfl)) rfl) rfl ?_;intro f h
   refine ai ?_
   refine hK6 _ _ ?_
   refine wpIn_cond_false (h.ev rfl) ?_
   refine wpIn_skip ?_
   refine bH ?_
   refine hK4 _ _ ?_
   refine ag ?_
   refine ac h (cp (h.ev rfl) (h.ev rfl) (by omega)) rfl ?_;intro f h
   refine ac h (ah (h.ev rfl)) rfl ?_;intro f h
   refine ai ?_
   refine ca ?_
   exact ⟨_,by omega,⟨d+1,g1,h.only ⟨rfl,rfl,rfl,rfl,aQ rfl (by omega),trivial⟩,St.as (s.pick _ (List.sublist_append_right [_] _)) ⟨rfl,rfl,rfl,trivial⟩,rfl,by omega,hg1,d1 hp2 hq⟩⟩
  ·skip
   refine ag ?_
   refine ac h (ah (h.ev rfl)) rfl ?_;intro f h
   refine ay 0 h s aJ rfl rfl (al _) rfl ?_;intro f h
   refine eO (V:=.bool false) (G:=GG (d+1)) [.agg (av (l.getD d ap))] 3 h rfl rfl (by have h9:=hY d _ _ 3 gg hdl hp2 hp1 s rfl;rw [hq] at h9;exact h9) rfl ?_;intro f w1 g1 hg1 h s
   refine ac h (aE (.bool true) (bI (h.ev rfl)) rfl) rfl ?_;intro f h
   refine ai ?_
   refine hK6 _ _ ?_
   refine wpIn_cond_true (h.ev rfl) ?_
   refine wpIn_ret ?_
   refine bT ?_
   refine a8 ?_
   refine a8 ?_
   refine bT ?_
   exact jw rfl h (⟨⟨_,rfl⟩,d+1,g1,hg1,s.pick _ (List.sublist_cons_self _ _),by omega,fun j hj=>hp2 j (by omega),fun h9=>absurd (hq.symm.trans h9) (by decide)⟩)
 ·replace hc:=of_decide_eq_false hc
  refine wpIn_exit ?_
  refine bN ?_
  refine bN ?_
  refine cG ?_
  exact dA rfl h (⟨⟨_,rfl⟩,d,gg,hp1,s,hp0,fun j hj=>hp2 j (by omega),fun _=>by omega⟩)
theorem sC (n:Nat) (hn:n≤1000) (w:World):Calls Tryz.prog 131 [.slice none 0 0,.int .i64 (n:Int)].toArray w (cO w (fun v w'=>cH w' w.heap.size 28 33 v 0 [])):=by
 refine bh Tryz.func131 rfl Tryz.ntmps131 rfl [(0,.slice none 0 0),(1,.int .i64 (n:Int))] (by simp) fun f h=>?_
 have s:=St.start w
 refine ak fun K1 hK1=>?_
 refine ag ?_
 refine ac h (aj (h.ev rfl)) rfl ?_;intro f h
 refine ai ?_
 refine hK1 _ _ ?_
 refine ak fun K2 hK2=>?_
 refine ak fun K3 hK3=>?_
 refine ag ?_
 refine ac h (ah (h.ev rfl)) rfl ?_;intro f h
 refine ac h (aE (.bool false) (cc (h.ev rfl) (h.ev rfl)) (congrArg Value.bool (decide_eq_false (by omega)))) rfl ?_;intro f h
 refine ai ?_
 refine hK3 _ _ ?_
 refine wpIn_cond_false (h.ev rfl) ?_
 refine wpIn_skip ?_
 refine hK2 _ _ ?_
 refine ak fun K4 hK4=>?_
 refine ak fun K5 hK5=>?_
 refine ag ?_
 refine ac h (ah (h.ev rfl)) rfl ?_;intro f h
 refine ac h (ah (h.ev rfl)) rfl ?_;intro f h
 refine ac h (lY Tryz.underlying36 (h.ev rfl)) rfl ?_;intro f h
 refine ac h (ah (h.ev rfl)) rfl ?_;intro f h
 refine ac h (i4 Tryz.underlying36 (h.ev rfl)) rfl ?_;intro f h
 refine ac h (aE (.int .i64 0) (fq (h.ev rfl) (h.ev rfl) (by omega)) (rfl)) rfl ?_;intro f h
 refine ac h (aE (.int .i64 (n:Int)) (fq (h.ev rfl) (h.ev rfl) (by omega)) (congrArg (Value.int .i64) (by omega))) rfl ?_;intro f h
 refine ac h (aj (h.ev rfl)) rfl ?_;intro f h
 refine ai ?_
 refine hK5 _ _ ?_
 refine ak fun K6 hK6=>?_
 refine ag ?_
 refine ac h (ah (h.ev rfl)) rfl ?_;intro f h
 refine ac h (f7 (h.ev rfl) (h.ev rfl)) rfl ?_;intro f h
 refine ai ?_
 refine hK6 _ _ ?_
 refine bL h rfl (fun hc=>?_) (fun hc=>?_)
 ·replace hc:=of_decide_eq_true hc
  refine ag ?_
  refine ac h (ah (h.ev rfl)) rfl ?_;intro f h
  refine ac h (ah (h.ev rfl)) rfl ?_;intro f h
  refine ac h (lY Tryz.underlying36 (h.ev rfl)) rfl ?_;intro f h
  refine ac h (nw Tryz.underlying36 cA (h.ev rfl) (h.ev rfl)) rfl ?_;intro f h
  refine ac h (ah (h.ev rfl)) rfl ?_;intro f h
  refine mj (n:=n) (base:=w.heap.size) h Tryz.underlying36 Tryz.underlying3 dY rfl rfl (by omega) (by omega) (by omega) (Nat.le_refl _) rfl ?_;intro f w1 v22 xs9 h hE9 hO9
  replace s:=s.sl_new hE9 hO9
  refine ac h (ah (h.ev rfl)) rfl ?_;intro f h
  refine ac h (i4 Tryz.underlying36 (h.ev rfl)) rfl ?_;intro f h
  refine ac h (mu hO9 Tryz.underlying36 cA (h.ev rfl) (h.ev rfl)) rfl ?_;intro f h
  refine ac h (aj (h.ev rfl)) rfl ?_;intro f h
  refine ai ?_
  refine hK4 _ _ ?_
  refine ak fun K7 hK7=>?_
  refine ag ?_
  refine ac h (ah (h.ev rfl)) rfl ?_;intro f h
  refine ac h (aj (h.ev rfl)) rfl ?_;intro f h
  refine ai ?_
  refine hK7 _ _ ?_
  refine wpIn_ret ?_
  exact bu rfl h s rfl (hO9.cut0)
 ·replace hc:=of_decide_eq_false hc
  refine wpIn_skip ?_
  refine hK4 _ _ ?_
  refine ak fun K8 hK8=>?_
  refine ag ?_
  refine ac h (ah (h.ev rfl)) rfl ?_;intro f h
  refine ac h (aj (h.ev rfl)) rfl ?_;intro f h
  refine ai ?_
  refine hK8 _ _ ?_
  refine wpIn_ret ?_
  exact bu rfl h s rfl (fZ _ _ _ _)
theorem pH (vh:Value) (us:List Value) (ls:List (List Mb)) (hls:us.length=ls.length) (htot:ls.flatten.length≤1000) (hvn:us.length≤1000) (w:World) (hv:bO w vh 1 us.length us) (hr:∀ k,k<us.length→bO w (us.getD k undef) 33 (ls.getD k []).length (am (ls.getD k []))):Calls Tryz.prog 100 [vh].toArray w (cO w (fun v w'=>cH w' w.heap.size 28 33 v ls.flatten.length (am ls.flatten))):=by
 refine bh Tryz.func100 rfl Tryz.ntmps100 rfl [(0,vh)] (by simp) fun f h=>?_
 have s:=St.start w
 refine ak fun K1 hK1=>?_
 refine ag ?_
 refine ac h (aj (h.ev rfl)) rfl ?_;intro f h
 refine ai ?_
 refine hK1 _ _ ?_
 refine ak fun K2 hK2=>?_
 refine ag ?_
 refine ac h (aj (h.ev rfl)) rfl ?_;intro f h
 refine ai ?_
 refine hK2 _ _ ?_
 refine ak fun K3 hK3=>?_
 refine ak fun K4 hK4=>?_
 refine ag ?_
 refine ac h (ah (h.ev rfl)) rfl ?_;intro f h
 refine ac h (bK (hv.keep s.ext) Tryz.underlying144 (h.ev rfl)) rfl ?_;intro f h
 refine ac h (ah (h.ev rfl)) rfl ?_;intro f h
 refine ai ?_
 refine hK4 _ _ ?_
 refine wpIn_block ?_
 refine wpIn_loop_ghost (fun nn aa ww=>∃ k:Nat,Sl 36 aa [(0,vh),(3,.int .i64 (((ls.take k).flatten.length:Nat):Int)),(9,vh),(10,.int .i64 (us.length:Int)),(11,.int .i64 (k:Int))]∧St w [] ww∧nn=us.length - k∧k≤us.length) (us.length - (0)) ⟨0,h.only ⟨rfl,aQ rfl rfl,rfl,rfl,aQ rfl (by omega),trivial⟩,s.as trivial,rfl,Nat.zero_le _⟩ ?_
 rintro _ f w1 ⟨k,h,s,hnn,hp0⟩
 refine ak fun K5 hK5=>?_
 refine ag ?_
 refine ac h (cc (h.ev rfl) (h.ev rfl)) rfl ?_;intro f h
 refine ai ?_
 refine hK5 _ _ ?_
 refine ak fun K6 hK6=>?_
 refine bL h rfl (fun hc=>?_) (fun hc=>?_)
 ·replace hc:=of_decide_eq_true hc
  refine wpIn_skip ?_
  refine hK6 _ _ ?_
  refine ak fun K7 hK7=>?_
  refine wpIn_block ?_
  refine ak fun K8 hK8=>?_
  refine ag ?_
  have hkl:k<us.length:=by omega
  refine ac h (bU (hv.keep s.ext) (k) Tryz.underlying144 y0 (h.ev rfl) (h.ev rfl) (by omega) (by omega)) rfl ?_;intro f h
  refine aC ((hv.keep s.ext).el1 (k) (V:=us.getD k undef) (rD hkl)) h cf rfl rfl ?_;intro f h
  refine ac h (aj (h.ev rfl)) rfl ?_;intro f h
  refine ai ?_
  refine hK8 _ _ ?_
  refine ak fun K9 hK9=>?_
  refine ag ?_
  refine ac h (ah (h.ev rfl)) rfl ?_;intro f h
  refine ac h (ah (h.ev rfl)) rfl ?_;intro f h
  refine ac h (bK ((hr k hkl).keep s.ext) Tryz.underlying36 (h.ev rfl)) rfl ?_;intro f h
  have hk1:=lj ls k (by omega)
  have hk2:=rQ ls (k+1)
  refine ac h (cp (h.ev rfl) (h.ev rfl) (by omega)) rfl ?_;intro f h
  refine ac h (aj (h.ev rfl)) rfl ?_;intro f h
  refine ai ?_
  refine hK9 _ _ ?_
  refine ak fun K10 hK10=>?_
  refine ag ?_
  refine ac h (ah (h.ev rfl)) rfl ?_;intro f h
  refine ac h (aE (.bool false) (cc (h.ev rfl) (h.ev rfl)) (congrArg Value.bool (decide_eq_false (by omega)))) rfl ?_;intro f h
  refine ai ?_
  refine hK10 _ _ ?_
  refine wpIn_cond_false (h.ev rfl) ?_
  refine wpIn_skip ?_
  refine bH ?_
  refine hK7 _ _ ?_
  refine ag ?_
  refine ac h (cp (h.ev rfl) (h.ev rfl) (by omega)) rfl ?_;intro f h
  refine ac h (ah (h.ev rfl)) rfl ?_;intro f h
  refine ai ?_
  refine ca ?_
  exact ⟨_,by omega,⟨k+1,h.only ⟨rfl,aQ rfl (by omega),rfl,rfl,aQ rfl (by omega),trivial⟩,St.as s trivial,rfl,by omega⟩⟩
 ·replace hc:=of_decide_eq_false hc
  refine wpIn_exit ?_
  refine bN ?_
  refine bN ?_
  refine cG ?_
  refine hK3 _ _ ?_
  refine ak fun K11 hK11=>?_
  refine ag ?_
  obtain rfl:k=us.length:=by omega
  refine ac h (aE (.int .i64 ((ls.flatten.length:Nat):Int)) (ah (h.ev rfl)) (by rw [hls,List.take_length])) rfl ?_;intro f h
  refine aK h s A7 (sC ls.flatten.length (by omega) _) rfl rfl ?_;intro f w1 v24 hT hE h sq;replace s:=s.sl_new hE hT
  refine ac h (aj (h.ev rfl)) rfl ?_;intro f h
  refine ai ?_
  refine hK11 _ _ ?_
  refine ak fun K12 hK12=>?_
  refine ak fun K13 hK13=>?_
  refine ag ?_
  refine ac h (ah (h.ev rfl)) rfl ?_;intro f h
  refine ac h (bK (hv.keep s.ext) Tryz.underlying144 (h.ev rfl)) rfl ?_;intro f h
  refine ac h (ah (h.ev rfl)) rfl ?_;intro f h
  refine ai ?_
  refine hK13 _ _ ?_
  refine wpIn_block ?_
  refine wpIn_loop_ghost (fun nn aa ww=>∃ i:Nat,∃ vb:Value,Sl 36 aa [(0,vh),(6,vb),(25,vh),(26,.int .i64 (us.length:Int)),(27,.int .i64 (i:Int))]∧St w [.sl vb 28 33 (ls.take i).flatten.length (am (ls.take i).flatten)] ww∧nn=us.length - i∧i≤us.length) (us.length - (0)) ⟨0,v24,h.only ⟨rfl,rfl,rfl,rfl,aQ rfl (by omega),trivial⟩,s.as ⟨j9 rfl rfl,trivial⟩,rfl,Nat.zero_le _⟩ ?_
  rintro _ f w1 ⟨i,vb,h,s,hnn,hp0⟩
  refine ak fun K14 hK14=>?_
  refine ag ?_
  refine ac h (cc (h.ev rfl) (h.ev rfl)) rfl ?_;intro f h
  refine ai ?_
  refine hK14 _ _ ?_
  refine ak fun K15 hK15=>?_
  refine bL h rfl (fun hc=>?_) (fun hc=>?_)
  ·replace hc:=of_decide_eq_true hc
   refine wpIn_skip ?_
   refine hK15 _ _ ?_
   refine ak fun K16 hK16=>?_
   refine wpIn_block ?_
   refine ak fun K17 hK17=>?_
   refine ag ?_
   have hkl:i<us.length:=by omega
   have hk1:=lj ls i (by omega)
   have hk2:=rQ ls (i+1)
   refine ac h (bU (hv.keep s.ext) (i) Tryz.underlying144 y0 (h.ev rfl) (h.ev rfl) (by omega) (by omega)) rfl ?_;intro f h
   refine aC ((hv.keep s.ext).el1 (i) (V:=us.getD i undef) (rD hkl)) h cf rfl rfl ?_;intro f h
   refine ac h (aj (h.ev rfl)) rfl ?_;intro f h
   refine ai ?_
   refine hK17 _ _ ?_
   refine ag ?_
   refine ac h (ah (h.ev rfl)) rfl ?_;intro f h
   refine ac h (ah (h.ev rfl)) rfl ?_;intro f h
   refine eS 0 ((hr i hkl).keep s.ext) h s Tryz.underlying36 dY rfl rfl rfl (ez _) (by unfold maxLen;omega) (by omega) rfl ?_;intro f w1 v33 h s
   refine ac h (aj (h.ev rfl)) rfl ?_;intro f h
   refine ai ?_
   refine bH ?_
   refine hK16 _ _ ?_
   refine ag ?_
   refine ac h (cp (h.ev rfl) (h.ev rfl) (by omega)) rfl ?_;intro f h
   refine ac h (ah (h.ev rfl)) rfl ?_;intro f h
   refine ai ?_
   refine ca ?_
   exact ⟨_,by omega,⟨i+1,v33,h.only ⟨rfl,rfl,rfl,rfl,aQ rfl (by omega),trivial⟩,St.as s ⟨j9 (lj ls i (by omega)) (qu ls i (by omega)),trivial⟩,rfl,by omega⟩⟩
  ·replace hc:=of_decide_eq_false hc
   refine wpIn_exit ?_
   refine bN ?_
   refine bN ?_
   refine cG ?_
   refine hK12 _ _ ?_
   refine ak fun K18 hK18=>?_
   refine ag ?_
   refine ac h (ah (h.ev rfl)) rfl ?_;intro f h
   refine ac h (aj (h.ev rfl)) rfl ?_;intro f h
   refine ai ?_
   refine hK18 _ _ ?_
   refine wpIn_ret ?_
   exact bu rfl h s rfl (px (by omega) (s.getSl 0 rfl))
theorem iO (n:Nd) (vs vf:Value) (w:World) (hRs:bO w vs 33 n.sc.length (am n.sc)) (hRf:bO w vf 33 n.fg.length (am n.fg)) (hns:n.sc.length≤400) (hnf:n.fg.length≤400):Calls Tryz.prog 69 [.agg (au n.me n.pr vs vf)].toArray w (cO w (fun v w9=>∃ bv vk,v=.func (.func 130) #[] #[.pointer (some ⟨bv,0,none⟩)]∧St w [.blk bv (.cells #[vk] 36),.sl vk 28 33 (aH n).length (am (aH n))] w9)):=by
 refine bh Tryz.func69 rfl Tryz.ntmps69 rfl [(0,.agg (au n.me n.pr vs vf))] (by simp) fun f h=>?_
 have s:=St.start w
 refine ak fun K1 hK1=>?_
 refine ag ?_
 refine bR (au n.me n.pr vs vf) h s rfl rfl rfl ?_;intro f w1 b1 h s
 refine ac h (aj (h.ev rfl)) rfl ?_;intro f h
 refine ai ?_
 refine hK1 _ _ ?_
 refine ak fun K2 hK2=>?_
 refine ag ?_
 refine ac h (aq cx (h.ev rfl)) rfl ?_;intro f h
 refine aI (bq.subL (bq.of_own s 0 rfl) 33 33 (D:=av n.pr) (cN _ _ _ _)) h aJ rfl (al _) rfl ?_;intro f h
 refine cW (vs:=[.agg (av n.pr)]) [.tmp 4] h s Tryz.underlying36 dY rfl rfl (jb _) rfl rfl rfl ?_;intro f w1 v5 h s
 replace s:=s.resl (m:=[n.pr].length) (ys:=am [n.pr]) 0 rfl rfl (by rw [eY,dU])
 refine ac h (aq cC (h.ev rfl)) rfl ?_;intro f h
 refine aC (V:=vs) (ax (bq.of_own s 1 rfl) 66 (c7 _ _ _ _)) h cf rfl rfl ?_;intro f h
 refine ac h (aq dP (h.ev rfl)) rfl ?_;intro f h
 refine aC (V:=vf) (ax (bq.of_own s 1 rfl) 67 (ed _ _ _ _)) h cf rfl rfl ?_;intro f h
 refine cW (vs:=[v5,vs,vf]) [.tmp 5,.tmp 7,.tmp 9] h s Tryz.underlying144 B7 rfl rfl (by intro v hv;simp only [List.mem_cons,List.not_mem_nil,or_false] at hv;rcases hv with rfl|rfl|rfl;exact nT (bO.of_own (s.getSl 0 rfl));exact nT hRs;exact nT hRf) rfl rfl rfl ?_;intro f w1 v10 h s
 replace s:=s.resl (m:=3) (ys:=[v5,vs,vf]) 0 rfl rfl (by simp [lE (bO.of_own (s.getSl 1 rfl)),lE hRs,lE hRf])
 refine aK h s Ae (pH v10 [v5,vs,vf] [[n.pr],n.sc,n.fg] rfl (by rw [iR];simp only [List.length_append,List.length_cons,List.length_nil];omega) (by show 3≤1000;omega) _ (bO.of_own (s.getSl 0 rfl)) (ux (bO.of_own (s.getSl 1 rfl)) (hRs.keep s.ext) (hRf.keep s.ext))) rfl rfl ?_;intro f w1 v11 hT hE h sq;replace s:=s.sl_new hE (hT.seq (m:=(aH n).length) (ys:=am (aH n)) (by rw [iR];rfl) (by rw [iR];rfl))
 refine cV [v11] h zm (oF (aH n) v11 _ _ _ s (bO.of_own (s.getSl 0 rfl))) rfl rfl ?_;rintro f w1 r ⟨bv,rfl,s⟩ h
 refine ac h (aj (h.ev rfl)) rfl ?_;intro f h
 refine ai ?_
 refine hK2 _ _ ?_
 refine wpIn_ret ?_
 exact bu rfl h s rfl (⟨bv,v11,rfl,(s.sel [0,1] rfl (by decide))⟩)
theorem pK (m:Mb) (w:World):Calls Tryz.prog 78 [.agg (av m)].toArray w (cO w (fun v w9=>∃ bx,v=.func (.func 113) #[] #[.pointer (some ⟨bx,0,none⟩)]∧gy w9 bx (av m))):=by
 refine bh Tryz.func78 rfl Tryz.ntmps78 rfl [(0,.agg (av m))] (by simp) fun f h=>?_
 have s:=St.start w
 refine ak fun K1 hK1=>?_
 refine ag ?_
 refine bR ((av m)) h s rfl rfl rfl ?_;intro f w1 b1 h s
 refine ac h (aj (h.ev rfl)) rfl ?_;intro f h
 refine ai ?_
 refine hK1 _ _ ?_
 refine ak fun K2 hK2=>?_
 refine ag ?_
 refine ac h (dg [.pointer (some ⟨b1,0,none⟩)] (jX h rfl)) rfl ?_;intro f h
 refine ac h (aj (h.ev rfl)) rfl ?_;intro f h
 refine ai ?_
 refine hK2 _ _ ?_
 refine wpIn_ret ?_
 exact bu rfl h s rfl (⟨b1,rfl,gy.of_own s 0 rfl⟩)
theorem qz (x m:Mb) (bx:Nat) (w:World) (hb:gy w bx (av m)):Calls Tryz.prog 113 [.agg (av x),.pointer (some ⟨bx,0,none⟩)].toArray w (cO w (is (.bool (iA m x)))):=by
 refine bh Tryz.func113 rfl Tryz.ntmps113 rfl [(0,.agg (av x)),(1,.pointer (some ⟨bx,0,none⟩))] (by simp) fun f h=>?_
 have s:=St.start w
 refine ak fun K1 hK1=>?_
 refine ag ?_
 refine bR ((av x)) h s rfl rfl rfl ?_;intro f w1 b2 h s
 refine ac h (aj (h.ev rfl)) rfl ?_;intro f h
 refine ai ?_
 refine hK1 _ _ ?_
 refine ak fun K2 hK2=>?_
 cases h0:(decide (x.1=m.1):Bool)
 ·skip
  refine ag ?_
  refine ac h (aq aP (h.ev rfl)) rfl ?_;intro f h
  refine aC (ax (bq.of_own s 0 rfl) 0 (aV _)) h bV rfl rfl ?_;intro f h
  refine ac h (aq aP (h.ev rfl)) rfl ?_;intro f h
  refine aC (V:=.int .i64 m.1) (ax (bq.of_tab (hb.keep s.ext)) 0 (aV _)) h bV rfl rfl ?_;intro f h
  refine ac h (aE (.bool false) (cb (h.ev rfl) (h.ev rfl)) (congrArg Value.bool h0)) rfl ?_;intro f h
  refine ac h (ah (h.ev rfl)) rfl ?_;intro f h
  refine a2 h rfl rfl rfl ?_
  refine ac h (aq ce (h.ev rfl)) rfl ?_;intro f h
  refine a2 h rfl rfl rfl ?_
  refine aI (bq.subL (bq.of_own s 0 rfl) 1 32 (D:=bD (_)) (co _)) h cq rfl (by first|exact aR _|exact aM _ _) rfl ?_;intro f h
  refine a2 h rfl rfl rfl ?_
  refine ac h (aq ce (h.ev rfl)) rfl ?_;intro f h
  refine a2 h rfl rfl rfl ?_
  refine aI (bq.subL (bq.of_tab (hb.keep s.ext)) 1 32 (D:=bD (_)) (co _)) h cq rfl (by first|exact aR _|exact aM _ _) rfl ?_;intro f h
  refine a2 h rfl rfl rfl ?_
  refine ac h (dM gY (h.ev rfl) (h.ev rfl)) rfl ?_;intro f h
  refine ac h (aL (h.ev rfl) (h.ev rfl)) rfl ?_;intro f h
  refine ac h (aj (h.ev rfl)) rfl ?_;intro f h
  refine ai ?_
  refine hK2 _ _ ?_
  refine wpIn_ret ?_
  exact bu rfl h s rfl (by show _=_;rw [ya h0]<;>rfl)
 ·skip
  refine ag ?_
  refine ac h (aq aP (h.ev rfl)) rfl ?_;intro f h
  refine aC (ax (bq.of_own s 0 rfl) 0 (aV _)) h bV rfl rfl ?_;intro f h
  refine ac h (aq aP (h.ev rfl)) rfl ?_;intro f h
  refine aC (V:=.int .i64 m.1) (ax (bq.of_tab (hb.keep s.ext)) 0 (aV _)) h bV rfl rfl ?_;intro f h
  refine ac h (aE (.bool true) (cb (h.ev rfl) (h.ev rfl)) (congrArg Value.bool h0)) rfl ?_;intro f h
  refine ac h (ah (h.ev rfl)) rfl ?_;intro f h
  refine aY (b:=false) h rfl rfl rfl rfl ?_;intro f h
  refine aY (b:=false) h rfl rfl rfl rfl ?_;intro f h
  refine aY (b:=false) h rfl rfl rfl rfl ?_;intro f h
  refine aY (b:=false) h rfl rfl rfl rfl ?_;intro f h
  refine aY (b:=false) h rfl rfl rfl rfl ?_;intro f h
  refine ac h (aO (h.ev rfl) (h.ev rfl)) rfl ?_;intro f h
  refine ac h (aj (h.ev rfl)) rfl ?_;intro f h
  refine ai ?_
  refine hK2 _ _ ?_
  refine wpIn_ret ?_
  exact bu rfl h s rfl (by show _=_;rw [xg h0]<;>rfl)
theorem fX (l:List Mb) (vh:Value) (w:World) (hR:bO w vh 33 l.length (am l)) (hln:l.length≤1000):Calls Tryz.prog 45 [vh].toArray w (cO w (is (.bool (c0 l)))):=by
 refine bh Tryz.func45 rfl Tryz.ntmps45 rfl [(0,vh)] (by simp) fun f h=>?_
 have s:=St.start w
 refine ak fun K1 hK1=>?_
 refine ag ?_
 refine ac h (aj (h.ev rfl)) rfl ?_;intro f h
 refine ai ?_
 refine hK1 _ _ ?_
 refine ak fun K2 hK2=>?_
 refine ak fun K3 hK3=>?_
 refine ag ?_
 refine ac h (ah (h.ev rfl)) rfl ?_;intro f h
 refine ac h (bK (hR.keep s.ext) Tryz.underlying36 (h.ev rfl)) rfl ?_;intro f h
 refine ac h (f7 (h.ev rfl) (h.ev rfl)) rfl ?_;intro f h
 refine ai ?_
 refine hK3 _ _ ?_
 refine bL h rfl (fun hc=>?_) (fun hc=>?_)
 ·replace hc:=of_decide_eq_true hc
  refine ak fun K4 hK4=>?_
  refine ag ?_
  refine ac h (aj (h.ev rfl)) rfl ?_;intro f h
  refine ai ?_
  refine hK4 _ _ ?_
  refine wpIn_ret ?_
  refine a8 ?_
  exact bu rfl h s rfl (by show _=_;rw [pp (by omega)]<;>rfl)
 ·replace hc:=of_decide_eq_false hc
  have hl16:l.length≤16:=by omega
  refine wpIn_skip ?_
  refine hK2 _ _ ?_
  refine ak fun K5 hK5=>?_
  refine ak fun K6 hK6=>?_
  refine ag ?_
  refine ac h (ah (h.ev rfl)) rfl ?_;intro f h
  refine ac h (bK (hR.keep s.ext) Tryz.underlying36 (h.ev rfl)) rfl ?_;intro f h
  refine ac h (ah (h.ev rfl)) rfl ?_;intro f h
  refine ai ?_
  refine hK6 _ _ ?_
  refine wpIn_block ?_
  refine wpIn_loop_ghost (fun nn aa ww=>∃ k:Nat,Sl 32 aa [(0,vh),(8,vh),(9,.int .i64 (l.length:Int)),(10,.int .i64 (k:Int))]∧St w [] ww∧nn=l.length - k∧k≤l.length∧∀ j,j<k→jk l j=false) (l.length - (0)) ⟨0,h.only ⟨rfl,rfl,rfl,aQ rfl (by omega),trivial⟩,s.as trivial,rfl,Nat.zero_le _,fun j hj=>absurd hj (Nat.not_lt_zero _)⟩ ?_
  rintro _ f w1 ⟨k,h,s,hnn,hp0,hp1⟩
  refine ak fun K7 hK7=>?_
  refine ag ?_
  refine ac h (cc (h.ev rfl) (h.ev rfl)) rfl ?_;intro f h
  refine ai ?_
  refine hK7 _ _ ?_
  refine ak fun K8 hK8=>?_
  refine bL h rfl (fun hc=>?_) (fun hc=>?_)
  ·replace hc:=of_decide_eq_true hc
   refine wpIn_skip ?_
   refine hK8 _ _ ?_
   refine ak fun K9 hK9=>?_
   refine wpIn_block ?_
   refine ak fun K10 hK10=>?_
   refine ag ?_
   refine ac h (ah (h.ev rfl)) rfl ?_;intro f h
   have hkl:k<l.length:=by omega
   refine ac h (bU (hR.keep s.ext) (k) Tryz.underlying36 cA (h.ev rfl) (h.ev rfl) (by omega) (by omega)) rfl ?_;intro f h
   refine aI ((hR.keep s.ext).el (k) (by omega) (by decide) (D:=av (l.getD k ap)) (cX l k hkl)) h aJ rfl (al _) rfl ?_;intro f h
   refine bi (av ap) h s cF rfl rfl ?_;intro f w1 b4 h s
   refine ac h (aj (h.ev rfl)) rfl ?_;intro f h
   refine aA 0 h s aJ rfl rfl rfl (al _) (al _) (aX _) ?_;intro w1 s
   refine ai ?_
   refine hK10 _ _ ?_
   refine ak fun K11 hK11=>?_
   cases k0:(decide ((l.getD k ap).1<0):Bool)
   ·skip
    cases k1:(decide (16≤(l.getD k ap).1):Bool)
    ·skip
     have hbs:=s.ext.le
     refine' nL 14 [0] [] [[],[0],[0,1],[0,1,2],[0,1,2,3],[0,1,2,3,4],[0,1,2,3,4,5],[0,1,2,3,4,5,6],[0,1,2,3,4,5,6,7],[0,1,2,3,4,5,6,7,8],[0,1,2,3,4,5,6,7,8],[0,1,2,3,4,5,6,7,8,9,10],[0,1,2,3,4,5,6,7,8],[0,1,2,3,4,5,6,7,8,12],[0,1,2,3,4,5,6,7,8,9,10,11,12,13],[0,1,2,3,4,5,6,7,8,9,10,11,12,13,14]] (is _::is _::is _::is _::is _::is _::is _::is _::is _::is _::is _::is _::is _::(fun v w9=>∃ bx,v=.func (.func 113) #[] #[.pointer (some ⟨bx,0,none⟩)]∧gy w9 bx (av (l.getD k ap)))::is undef::is undef::[]) (fun _=>True) h s (by kernel_rfl) (by kernel_rfl) (by kernel_rfl) (by kernel_rfl) rfl (fun _ _ h _=>h) (trivial) ⟨⟨_,rfl⟩,trivial⟩ ⟨bF _,bF _,bF _,bF _,bF _,bF _,bF _,bF _,bF _,bF _,bF _,bF _,bF _,fun _ _ _ h9 hE=>by obtain ⟨bx,h1,h2⟩:=h9;exact ⟨bx,h1,h2.keep hE⟩,bF _,bF _,trivial⟩ (And.intro ?_ (And.intro ?_ (And.intro ?_ (And.intro ?_ (And.intro ?_ (And.intro ?_ (And.intro ?_ (And.intro ?_ (And.intro ?_ (And.intro ?_ (And.intro ?_ (And.intro ?_ (And.intro ?_ (And.intro ?_ (And.intro ?_ (And.intro ?_ (trivial))))))))))))))))) ?_
     rotate_left 13
     ·refine dS 15 rfl (by decide) ?_
      intro f9 w2 hE hs hl
      have e4:f9.tmps.getD 4 undef=_:=dR hl 4 (by kernel_rfl) (by kernel_rfl) (h.holds 4 _ rfl)
      have h:=aB [(4,_)] hs rfl (holds_lk ⟨e4,trivial⟩)
      refine ac h (aq aP (h.ev rfl)) rfl ?_;intro f h
      refine ai ?_
      have e9:=h.holds 15 _ rfl
      refine ⟨?_,rfl⟩
      refine e9.trans ?_
      exact rfl
     ·refine cz 16 rfl (by decide) (by decide) ?_
      intro f9 w2 hE hs hd9 hl
      have e15:f9.tmps.getD 15 undef=_:=cd hl 15 0 (by kernel_rfl) (by kernel_rfl)
      have h:=aB [(15,_)] hs hd9 (holds_lk ⟨e15,trivial⟩)
      have s:=s.more hE
      have z:=St.start w2
      refine aC (ax (bq.of_own s 0 rfl) 0 (aV _)) h bV rfl rfl ?_;intro f h
      refine ai ?_
      have e9:=h.holds 16 _ rfl
      refine ⟨?_,Ext.refl _,fun h9=>absurd h9 (by decide)⟩
      refine e9.trans ?_
      exact rfl
     ·refine cz 17 rfl (by decide) (by decide) ?_
      intro f9 w2 hE hs hd9 hl
      have e16:f9.tmps.getD 16 undef=_:=cd hl 16 1 (by kernel_rfl) (by kernel_rfl)
      have h:=aB [(16,_)] hs hd9 (holds_lk ⟨e16,trivial⟩)
      have s:=s.more hE
      have z:=St.start w2
      refine ac h (aE (.bool false) (cc (h.ev rfl) (h.ev rfl)) (congrArg Value.bool k0)) rfl ?_;intro f h
      refine ai ?_
      have e9:=h.holds 17 _ rfl
      refine ⟨?_,Ext.refl _,fun h9=>absurd h9 (by decide)⟩
      refine e9.trans ?_
      exact rfl
     ·refine cz 18 rfl (by decide) (by decide) ?_
      intro f9 w2 hE hs hd9 hl
      have e17:f9.tmps.getD 17 undef=_:=cd hl 17 2 (by kernel_rfl) (by kernel_rfl)
      have h:=aB [(17,_)] hs hd9 (holds_lk ⟨e17,trivial⟩)
      have s:=s.more hE
      have z:=St.start w2
      refine ac h (ah (h.ev rfl)) rfl ?_;intro f h
      refine ai ?_
      have e9:=h.holds 18 _ rfl
      refine ⟨?_,Ext.refl _,fun h9=>absurd h9 (by decide)⟩
      refine e9.trans ?_
      exact rfl
     ·refine cz 19 rfl (by decide) (by decide) ?_
      intro f9 w2 hE hs hd9 hl
      have e4:f9.tmps.getD 4 undef=_:=dR hl 4 (by kernel_rfl) (by kernel_rfl) (h.holds 4 _ rfl)
      have e18:f9.tmps.getD 18 undef=_:=cd hl 18 3 (by kernel_rfl) (by kernel_rfl)
      have h:=aB [(4,_),(18,_)] hs hd9 (holds_lk ⟨e4,e18,trivial⟩)
      have s:=s.more hE
      have z:=St.start w2
      refine a2 h rfl rfl rfl ?_
      refine ac h (aq aP (h.ev rfl)) rfl ?_;intro f h
      refine ai ?_
      have e9:=h.holds 19 _ rfl
      refine ⟨?_,Ext.refl _,fun h9=>absurd h9 (by decide)⟩
      refine e9.trans ?_
      exact rfl
     ·refine cz 20 rfl (by decide) (by decide) ?_
      intro f9 w2 hE hs hd9 hl
      have e19:f9.tmps.getD 19 undef=_:=cd hl 19 4 (by kernel_rfl) (by kernel_rfl)
      have e18:f9.tmps.getD 18 undef=_:=cd hl 18 3 (by kernel_rfl) (by kernel_rfl)
      have h:=aB [(19,_),(18,_)] hs hd9 (holds_lk ⟨e19,e18,trivial⟩)
      have s:=s.more hE
      have z:=St.start w2
      refine a2 h rfl rfl rfl ?_
      refine aC (ax (bq.of_own s 0 rfl) 0 (aV _)) h bV rfl rfl ?_;intro f h
      refine ai ?_
      have e9:=h.holds 20 _ rfl
      refine ⟨?_,Ext.refl _,fun h9=>absurd h9 (by decide)⟩
      refine e9.trans ?_
      exact rfl
     ·refine cz 21 rfl (by decide) (by decide) ?_
      intro f9 w2 hE hs hd9 hl
      have e20:f9.tmps.getD 20 undef=_:=cd hl 20 5 (by kernel_rfl) (by kernel_rfl)
      have e18:f9.tmps.getD 18 undef=_:=cd hl 18 3 (by kernel_rfl) (by kernel_rfl)
      have h:=aB [(20,_),(18,_)] hs hd9 (holds_lk ⟨e20,e18,trivial⟩)
      have s:=s.more hE
      have z:=St.start w2
      refine a2 h rfl rfl rfl ?_
      refine ac h (aE (.bool false) (d7 (h.ev rfl) (h.ev rfl)) (congrArg Value.bool k1)) rfl ?_;intro f h
      refine ai ?_
      have e9:=h.holds 21 _ rfl
      refine ⟨?_,Ext.refl _,fun h9=>absurd h9 (by decide)⟩
      refine e9.trans ?_
      exact rfl
     ·refine cz 22 rfl (by decide) (by decide) ?_
      intro f9 w2 hE hs hd9 hl
      have e18:f9.tmps.getD 18 undef=_:=cd hl 18 3 (by kernel_rfl) (by kernel_rfl)
      have e21:f9.tmps.getD 21 undef=_:=cd hl 21 6 (by kernel_rfl) (by kernel_rfl)
      have h:=aB [(18,_),(21,_)] hs hd9 (holds_lk ⟨e18,e21,trivial⟩)
      have s:=s.more hE
      have z:=St.start w2
      refine ac h (aL (h.ev rfl) (h.ev rfl)) rfl ?_;intro f h
      refine ai ?_
      have e9:=h.holds 22 _ rfl
      refine ⟨?_,Ext.refl _,fun h9=>absurd h9 (by decide)⟩
      refine e9.trans ?_
      exact rfl
     ·refine cz 23 rfl (by decide) (by decide) ?_
      intro f9 w2 hE hs hd9 hl
      have e22:f9.tmps.getD 22 undef=_:=cd hl 22 7 (by kernel_rfl) (by kernel_rfl)
      have h:=aB [(22,_)] hs hd9 (holds_lk ⟨e22,trivial⟩)
      have s:=s.more hE
      have z:=St.start w2
      refine ac h (ah (h.ev rfl)) rfl ?_;intro f h
      refine ai ?_
      have e9:=h.holds 23 _ rfl
      refine ⟨?_,Ext.refl _,fun h9=>absurd h9 (by decide)⟩
      refine e9.trans ?_
      exact rfl
     ·refine cz 24 rfl (by decide) (by decide) ?_
      intro f9 w2 hE hs hd9 hl
      have e0:f9.tmps.getD 0 undef=_:=dR hl 0 (by kernel_rfl) (by kernel_rfl) (h.holds 0 _ rfl)
      have e23:f9.tmps.getD 23 undef=_:=cd hl 23 8 (by kernel_rfl) (by kernel_rfl)
      have h:=aB [(0,_),(23,_)] hs hd9 (holds_lk ⟨e0,e23,trivial⟩)
      have s:=s.more hE
      have z:=St.start w2
      refine a2 h rfl rfl rfl ?_
      refine ac h (ah (h.ev rfl)) rfl ?_;intro f h
      refine ai ?_
      have e9:=h.holds 24 _ rfl
      refine ⟨?_,Ext.refl _,fun h9=>absurd h9 (by decide)⟩
      refine e9.trans ?_
      exact rfl
     ·refine cz 25 rfl (by decide) (by decide) ?_
      intro f9 w2 hE hs hd9 hl
      have e3:f9.tmps.getD 3 undef=_:=dR hl 3 (by kernel_rfl) (by kernel_rfl) (h.holds 3 _ rfl)
      have e23:f9.tmps.getD 23 undef=_:=cd hl 23 8 (by kernel_rfl) (by kernel_rfl)
      have h:=aB [(3,_),(23,_)] hs hd9 (holds_lk ⟨e3,e23,trivial⟩)
      have s:=s.more hE
      have z:=St.start w2
      refine a2 h rfl rfl rfl ?_
      refine ac h (ah (h.ev rfl)) rfl ?_;intro f h
      refine ai ?_
      have e9:=h.holds 25 _ rfl
      refine ⟨?_,Ext.refl _,fun h9=>absurd h9 (by decide)⟩
      refine e9.trans ?_
      exact rfl
     ·refine cz 26 rfl (by decide) (by decide) ?_
      intro f9 w2 hE hs hd9 hl
      have e24:f9.tmps.getD 24 undef=_:=cd hl 24 9 (by kernel_rfl) (by kernel_rfl)
      have e25:f9.tmps.getD 25 undef=_:=cd hl 25 10 (by kernel_rfl) (by kernel_rfl)
      have e23:f9.tmps.getD 23 undef=_:=cd hl 23 8 (by kernel_rfl) (by kernel_rfl)
      have h:=aB [(24,_),(25,_),(23,_)] hs hd9 (holds_lk ⟨e24,e25,e23,trivial⟩)
      have s:=s.more hE
      have z:=St.start w2
      refine a2 h rfl rfl rfl ?_
      refine ac h (dF (hR.keep s.ext) (k) Tryz.underlying36 cA (h.ev rfl) (h.ev rfl) (rfl) (by omega)) rfl ?_;intro f h
      refine ai ?_
      have e9:=h.holds 26 _ rfl
      refine ⟨?_,Ext.refl _,fun h9=>absurd h9 (by decide)⟩
      refine e9.trans ?_
      exact rfl
     ·refine cz 27 rfl (by decide) (by decide) ?_
      intro f9 w2 hE hs hd9 hl
      have e4:f9.tmps.getD 4 undef=_:=dR hl 4 (by kernel_rfl) (by kernel_rfl) (h.holds 4 _ rfl)
      have e23:f9.tmps.getD 23 undef=_:=cd hl 23 8 (by kernel_rfl) (by kernel_rfl)
      have h:=aB [(4,_),(23,_)] hs hd9 (holds_lk ⟨e4,e23,trivial⟩)
      have s:=s.more hE
      have z:=St.start w2
      refine a2 h rfl rfl rfl ?_
      refine ay 0 h s aJ rfl rfl (al _) rfl ?_;intro f h
      refine ai ?_
      have e9:=h.holds 27 _ rfl
      refine ⟨?_,Ext.refl _,fun h9=>absurd h9 (by decide)⟩
      refine e9.trans ?_
      exact rfl
     ·refine cz 28 rfl (by decide) (by decide) ?_
      intro f9 w2 hE hs hd9 hl
      have e27:f9.tmps.getD 27 undef=_:=cd hl 27 12 (by kernel_rfl) (by kernel_rfl)
      have e23:f9.tmps.getD 23 undef=_:=cd hl 23 8 (by kernel_rfl) (by kernel_rfl)
      have h:=aB [(27,_),(23,_)] hs hd9 (holds_lk ⟨e27,e23,trivial⟩)
      have s:=s.more hE
      have z:=St.start w2
      refine a2 h rfl rfl rfl ?_
      refine aK h s B6 (pK _ _) rfl rfl ?_;intro f w3 v3 hT9 hE3 h s
      refine ai ?_
      exact ⟨by rw [h.holds 28 _ rfl];exact hT9,hE3,fun h9=>absurd h9 (by decide)⟩
     ·exact gu (by decide) (by decide)
     ·exact gu (by decide) (by decide)
     ·intro f9 w2 hE hs hd9 hWp hT hR hFr hDj
      obtain ⟨u28,hu28⟩:∃ v,f9.tmps.getD 28 undef=v:=⟨_,rfl⟩
      have e28:(fun v w9=>∃ bx,v=.func (.func 113) #[] #[.pointer (some ⟨bx,0,none⟩)]∧gy w9 bx (av (l.getD k ap))) u28 w2:=by rw [← hu28];exact hT 13 28 (by decide) rfl
      replace h:=sl_new (ops:=_) [(15,_),(16,_),(17,_),(18,_),(19,_),(20,_),(21,_),(22,_),(23,_),(24,_),(25,_),(26,_),(27,_),(28,u28)] h hs hd9 hR ⟨hT 0 15 (by decide) rfl,hT 1 16 (by decide) rfl,hT 2 17 (by decide) rfl,hT 3 18 (by decide) rfl,hT 4 19 (by decide) rfl,hT 5 20 (by decide) rfl,hT 6 21 (by decide) rfl,hT 7 22 (by decide) rfl,hT 8 23 (by decide) rfl,hT 9 24 (by decide) rfl,hT 10 25 (by decide) rfl,hT 11 26 (by decide) rfl,hT 12 27 (by decide) rfl,hu28,trivial⟩ (by kernel_rfl)
      replace s:=s.more hE
      clear hT hR hFr hDj
      refine gt.of ?_
      refine a2 h rfl rfl rfl ?_
      obtain ⟨bx,hbx0,hbx⟩:=e28;subst hbx0
      refine aK h s zz (iF (l.take k) (f8 vh k) 113 [.pointer (some ⟨bx,0,none⟩)] (iA (l.getD k ap)) _ (gk (hR.keep s.ext) k (by omega)) (by rw [List.length_take];omega) zU (fun w9 h9 x hx=>qz x _ bx w9 (hbx.keep h9))) rfl rfl ?_;intro f w1 v9 hT hE h s;obtain rfl:=hT
      refine ac h (aL (h.ev rfl) (h.ev rfl)) rfl ?_;intro f h
      refine ai ?_
      refine hK11 _ _ ?_
      refine bL h rfl (fun hc=>?_) (fun hc=>?_)
      ·refine ak fun K12 hK12=>?_
       refine ag ?_
       refine ac h (aj (h.ev rfl)) rfl ?_;intro f h
       refine ai ?_
       refine hK12 _ _ ?_
       refine wpIn_ret ?_
       refine bT ?_
       refine a8 ?_
       refine a8 ?_
       refine bT ?_
       refine a8 ?_
       exact bu rfl h s rfl (by show _=_;rw [gO hkl ((vZ k0 k1).trans hc)]<;>rfl)
      ·refine wpIn_skip ?_
       refine bH ?_
       refine hK9 _ _ ?_
       refine ag ?_
       refine ac h (cp (h.ev rfl) (h.ev rfl) (by omega)) rfl ?_;intro f h
       refine ac h (ah (h.ev rfl)) rfl ?_;intro f h
       refine ai ?_
       refine ca ?_
       have hb9:jk l k=false:=(vZ k0 k1).trans hc
       exact ⟨_,by omega,⟨k+1,h.only ⟨rfl,rfl,rfl,aQ rfl (by omega),trivial⟩,St.as (s.pick _ (List.sublist_append_right [_] _)) trivial,rfl,by omega,d1 hp1 hb9⟩⟩
    ·skip
     refine bG 16 [[],[0],[0,1],[0,1,2],[0,1,2,3],[0,1,2,3,4],[0,1,2,3,4,5],[0,1,2,3,4,5,6],[0,1,2,3,4,5,6,7],[0,1,2,3,4,5,6,7,8],[0,1,2,3,4,5,6,7,8],[0,1,2,3,4,5,6,7,8,9,10],[0,1,2,3,4,5,6,7,8],[0,1,2,3,4,5,6,7,8,12],[0,1,2,3,4,5,6,7,8,9,10,11,12,13],[0,1,2,3,4,5,6,7,8,9,10,11,12,13,14]] h (by kernel_rfl) (by kernel_rfl) (by kernel_rfl) ?_
     refine ao h (aq aP (h.ev rfl)) rfl ?_;intro f h
     refine bz (ax (bq.of_own s 0 rfl) 0 (aV _)) h bV rfl rfl ?_;intro f h
     refine ao h (aE (.bool false) (cc (h.ev rfl) (h.ev rfl)) (congrArg Value.bool k0)) rfl ?_;intro f h
     refine ao h (ah (h.ev rfl)) rfl ?_;intro f h
     refine bf h rfl rfl rfl ?_
     refine ao h (aq aP (h.ev rfl)) rfl ?_;intro f h
     refine bf h rfl rfl rfl ?_
     refine bz (ax (bq.of_own s 0 rfl) 0 (aV _)) h bV rfl rfl ?_;intro f h
     refine bf h rfl rfl rfl ?_
     refine ao h (aE (.bool true) (d7 (h.ev rfl) (h.ev rfl)) (congrArg Value.bool k1)) rfl ?_;intro f h
     refine ao h (aL (h.ev rfl) (h.ev rfl)) rfl ?_;intro f h
     refine ao h (ah (h.ev rfl)) rfl ?_;intro f h
     refine ba (b:=false) h rfl rfl rfl rfl ?_;intro f h
     refine ba (b:=false) h rfl rfl rfl rfl ?_;intro f h
     refine ba (b:=false) h rfl rfl rfl rfl ?_;intro f h
     refine ba (b:=false) h rfl rfl rfl rfl ?_;intro f h
     refine ba (b:=false) h rfl rfl rfl rfl ?_;intro f h
     refine ba (b:=false) h rfl rfl rfl rfl ?_;intro f h
     refine ao h (aO (h.ev rfl) (h.ev rfl)) rfl ?_;intro f h
     refine cn s fun w1 s=>?_
     refine ai ?_
     refine hK11 _ _ ?_
     refine wpIn_cond_true (h.ev rfl) ?_
     refine ak fun K13 hK13=>?_
     refine ag ?_
     refine ac h (aj (h.ev rfl)) rfl ?_;intro f h
     refine ai ?_
     refine hK13 _ _ ?_
     refine wpIn_ret ?_
     refine bT ?_
     refine a8 ?_
     refine a8 ?_
     refine bT ?_
     refine a8 ?_
     exact bu rfl h s rfl (by show _=_;rw [gO hkl (AS k1)]<;>rfl)
   ·skip
    refine bG 16 [[],[0],[0,1],[0,1,2],[0,1,2,3],[0,1,2,3,4],[0,1,2,3,4,5],[0,1,2,3,4,5,6],[0,1,2,3,4,5,6,7],[0,1,2,3,4,5,6,7,8],[0,1,2,3,4,5,6,7,8],[0,1,2,3,4,5,6,7,8,9,10],[0,1,2,3,4,5,6,7,8],[0,1,2,3,4,5,6,7,8,12],[0,1,2,3,4,5,6,7,8,9,10,11,12,13],[0,1,2,3,4,5,6,7,8,9,10,11,12,13,14]] h (by kernel_rfl) (by kernel_rfl) (by kernel_rfl) ?_
    refine ao h (aq aP (h.ev rfl)) rfl ?_;intro f h
    refine bz (ax (bq.of_own s 0 rfl) 0 (aV _)) h bV rfl rfl ?_;intro f h
    refine ao h (aE (.bool true) (cc (h.ev rfl) (h.ev rfl)) (congrArg Value.bool k0)) rfl ?_;intro f h
    refine ao h (ah (h.ev rfl)) rfl ?_;intro f h
    refine ba (b:=false) h rfl rfl rfl rfl ?_;intro f h
    refine ba (b:=false) h rfl rfl rfl rfl ?_;intro f h
    refine ba (b:=false) h rfl rfl rfl rfl ?_;intro f h
    refine ao h (aO (h.ev rfl) (h.ev rfl)) rfl ?_;intro f h
    refine ao h (ah (h.ev rfl)) rfl ?_;intro f h
    refine ba (b:=false) h rfl rfl rfl rfl ?_;intro f h
    refine ba (b:=false) h rfl rfl rfl rfl ?_;intro f h
    refine ba (b:=false) h rfl rfl rfl rfl ?_;intro f h
    refine ba (b:=false) h rfl rfl rfl rfl ?_;intro f h
    refine ba (b:=false) h rfl rfl rfl rfl ?_;intro f h
    refine ba (b:=false) h rfl rfl rfl rfl ?_;intro f h
    refine ao h (aO (h.ev rfl) (h.ev rfl)) rfl ?_;intro f h
    refine cn s fun w1 s=>?_
    refine ai ?_
    refine hK11 _ _ ?_
    refine wpIn_cond_true (h.ev rfl) ?_
    refine ak fun K14 hK14=>?_
    refine ag ?_
    refine ac h (aj (h.ev rfl)) rfl ?_;intro f h
    refine ai ?_
    refine hK14 _ _ ?_
    refine wpIn_ret ?_
    refine bT ?_
    refine a8 ?_
    refine a8 ?_
    refine bT ?_
    refine a8 ?_
    exact bu rfl h s rfl (by show _=_;rw [gO hkl (Bd k0)]<;>rfl)
  ·replace hc:=of_decide_eq_false hc
   refine wpIn_exit ?_
   refine bN ?_
   refine bN ?_
   refine cG ?_
   refine hK5 _ _ ?_
   refine ak fun K15 hK15=>?_
   refine ag ?_
   refine ac h (aj (h.ev rfl)) rfl ?_;intro f h
   refine ai ?_
   refine hK15 _ _ ?_
   refine wpIn_ret ?_
   exact bu rfl h s rfl (by show _=_;rw [ph hl16 (fun j hj=>hp1 j (by omega))]<;>rfl)
theorem mZ (n:Nd) (vs vf:Value) (L:List N3) (vo:Value) (w:World) (hRs:bO w vs 33 n.sc.length (am n.sc)) (hRf:bO w vf 33 n.fg.length (am n.fg)) (hns:n.sc.length≤400) (hnf:n.fg.length≤400) (hO:cI w vo L) (hL:L.length≤40):Calls Tryz.prog 49 [.agg (au n.me n.pr vs vf),.agg #[vo]].toArray w (cO w (is (.bool !((aH n).any (i1 L))))):=by
 have hkl9:(aH n).length≤1000:=by simp only [aH,List.length_append,List.length_cons];omega
 refine dZ Tryz.func49 rfl Tryz.ntmps49 rfl [(0,.agg (au n.me n.pr vs vf)),(1,.agg #[vo])] (by simp) fun f h=>?_
 have s:=St.start w
 refine ak fun K1 hK1=>?_
 refine ag ?_
 refine bR (au n.me n.pr vs vf) h s rfl rfl rfl ?_;intro f w1 b2 h s
 refine bR (#[vo]) h s rfl rfl rfl ?_;intro f w1 b3 h s
 refine bi (#[.bool false]) h s q8 rfl rfl ?_;intro f w1 b4 h s
 refine ai ?_
 refine hK1 _ _ ?_
 refine ak fun K2 hK2=>?_
 refine ak fun K3 hK3=>?_
 refine ag ?_
 refine ay 2 h s bw rfl rfl (aw _ _ _ _) rfl ?_;intro f h
 refine aK h s wG (iO n vs vf _ (hRs.keep s.ext) (hRf.keep s.ext) (by omega) (by omega)) rfl rfl ?_;rintro f w1 r9 ⟨bv,vk,rfl,hS⟩ hE h sq;replace s:=s.add hS;clear hS
 refine ai ?_
 refine hK3 _ _ ?_
 refine wpIn_block ?_
 refine dJ (fun d A9=>A9=[.blk b4 (.cells #[.bool false] 4),.blk b3 (.cells #[vo] 24),.blk b2 (.cells (au n.me n.pr vs vf) 42)]) [.blk b4 (.cells #[.bool false] 4),.blk b3 (.cells #[vo] 24),.blk b2 (.cells (au n.me n.pr vs vf) 42)] [.blk bv (.cells #[vk] 36),.sl vk 28 33 (aH n).length (am (aH n))] ((aH n).length) (CX n L) (fun d=>[Value.agg (av ((aH n).getD d ap))]) h s rfl nG (List.Perm.refl _) (rfl) (fun _=>rfl) ?_ ?_ ?_ ?_
 ·intro lp w2 GG g0 hg0 s2 hY;exact iK (aH n) hkl9 vk lp bv (CX n L) GG g0 w w2 s2 hg0 hY
 ·intro lp D9 d9 rc R9 A9 w2 hd9 hq9 hJ9 s
  obtain rfl:=hJ9
  have h:=Sl.round1 (p:=9) (V:=.agg (av ((aH n).getD d9 ap))) h rfl
  have hdl9:=hd9
  refine ag ?_
  refine bi (av ap) h s cF rfl rfl ?_;intro f w1 b5 h s
  refine aA 0 h s aJ rfl rfl rfl (al _) (al _) (aX _) ?_;intro w1 s
  refine ai ?_
  refine ca ?_
  refine ⟨_,s.perm (List.perm_middle (l₁:=[_])),fun w3 s=>?_⟩
  refine wpIn_block ?_
  refine ak fun K4 hK4=>?_
  cases p0:(decide (az L ((aH n).getD d9 ap).1<L.length):Bool)
  ·skip
   refine ag ?_
   refine ay 4 h s a7 rfl rfl (rfl) rfl ?_;intro f h
   refine ac h (aq aP (h.ev rfl)) rfl ?_;intro f h
   refine aC (ax (bq.of_own s 1 rfl) 0 (aV _)) h bV rfl rfl ?_;intro f h
   refine aK h s gZ (aT (.pointer none) (dw L vo ((aH n).getD d9 ap).1 _ (hO.keep s.ext) hL) (mE (of_decide_eq_false p0))) rfl rfl ?_;intro f w1 v9 hT hE h s;obtain rfl:=hT
   refine ac h (aj (h.ev rfl)) rfl ?_;intro f h
   refine ai ?_
   refine hK4 _ _ ?_
   refine ak fun K5 hK5=>?_
   refine bG 10 [[],[0],[0,1],[0,1,2],[0,1,2,3],[0,1,2,3,4],[0,1,2,3,4,5],[0,1,2],[0,1,2,3,4,5,6,7],[0,1,2,3,4,5,6,7,8]] h (by kernel_rfl) (by kernel_rfl) (by kernel_rfl) ?_
   refine ao h (ah (h.ev rfl)) rfl ?_;intro f h
   refine ao h (aE (.bool false) (dV Tryz.underlying54 (h.ev rfl) (h.ev rfl)) (rfl)) rfl ?_;intro f h
   refine ao h (ah (h.ev rfl)) rfl ?_;intro f h
   refine ba (b:=true) h rfl rfl rfl rfl ?_;intro f h
   refine ba (b:=true) h rfl rfl rfl rfl ?_;intro f h
   refine ba (b:=true) h rfl rfl rfl rfl ?_;intro f h
   refine ba (b:=true) h rfl rfl rfl rfl ?_;intro f h
   refine ba (b:=true) h rfl rfl rfl rfl ?_;intro f h
   refine ba (b:=true) h rfl rfl rfl rfl ?_;intro f h
   refine ao h (aL (h.ev rfl) (h.ev rfl)) rfl ?_;intro f h
   refine cn s fun w1 s=>?_
   refine ai ?_
   refine hK5 _ _ ?_
   refine wpIn_cond_false (h.ev rfl) ?_
   refine wpIn_skip ?_
   refine bH ?_
   refine ⟨(Ds p0),_,rfl,s.pick _ ?_⟩
   exact List.Sublist.cons_cons _ (List.Sublist.cons _ (List.Sublist.refl _))
  ·skip
   refine ag ?_
   refine ay 4 h s a7 rfl rfl (rfl) rfl ?_;intro f h
   refine ac h (aq aP (h.ev rfl)) rfl ?_;intro f h
   refine aC (ax (bq.of_own s 1 rfl) 0 (aV _)) h bV rfl rfl ?_;intro f h
   refine aK h s gZ (aT (.pointer (some (aF vo (az L ((aH n).getD d9 ap).1*68)))) (dw L vo ((aH n).getD d9 ap).1 _ (hO.keep s.ext) hL) (mi (of_decide_eq_true p0))) rfl rfl ?_;intro f w1 v9 hT hE h s;obtain rfl:=hT
   refine ac h (aj (h.ev rfl)) rfl ?_;intro f h
   refine ai ?_
   refine hK4 _ _ ?_
   refine ak fun K6 hK6=>?_
   cases p1:(decide ((L.getD (az L ((aH n).getD d9 ap).1) z3).1.me=((aH n).getD d9 ap)):Bool)
   ·skip
    refine bG 10 [[],[0],[0,1],[0,1,2],[0,1,2,3],[0,1,2,3,4],[0,1,2,3,4,5],[0,1,2],[0,1,2,3,4,5,6,7],[0,1,2,3,4,5,6,7,8]] h (by kernel_rfl) (by kernel_rfl) (by kernel_rfl) ?_
    have hp9:=of_decide_eq_true p0
    refine ao h (ah (h.ev rfl)) rfl ?_;intro f h
    refine ao h (aE (.bool true) (dV Tryz.underlying54 (h.ev rfl) (h.ev rfl)) (rfl)) rfl ?_;intro f h
    refine ao h (ah (h.ev rfl)) rfl ?_;intro f h
    refine bf h rfl rfl rfl ?_
    refine ao h (ah (h.ev rfl)) rfl ?_;intro f h
    refine bf h rfl rfl rfl ?_
    refine ao h (aZ (h.ev rfl)) rfl ?_;intro f h
    refine bf h rfl rfl rfl ?_
    refine ao h (bB bA (h.ev rfl) ((hO.1.keep s.ext).some (by omega))) rfl ?_;intro f h
    refine bf h rfl rfl rfl ?_
    refine bg (bO.elF (hO.1.keep s.ext) (az L ((aH n).getD d9 ap).1) 0 33 (by omega) (by decide) (C:=au (L.getD (az L ((aH n).getD d9 ap).1) z3).1.me (L.getD (az L ((aH n).getD d9 ap).1) z3).1.pr (L.getD (az L ((aH n).getD d9 ap).1) z3).2.1 (L.getD (az L ((aH n).getD d9 ap).1) z3).2.2) (cR L _ hp9) (D:=av (L.getD (az L ((aH n).getD d9 ap).1) z3).1.me) (bZ _ _ _ _)) h aJ rfl (al _) rfl ?_;intro f h
    refine bf h rfl rfl rfl ?_
    refine bC 1 h s aJ rfl rfl (al _) rfl ?_;intro f h
    refine bf h rfl rfl rfl ?_
    refine ao h (aE (.bool true) (fh (i9 _ _) (by kernel_rfl) (by decide) (h.ev rfl) (h.ev rfl) (decide ((L.getD (az L ((aH n).getD d9 ap).1) z3).1.me=((aH n).getD d9 ap))) (er _ _)) (by rw [p1];rfl)) rfl ?_;intro f h
    refine ao h (aO (h.ev rfl) (h.ev rfl)) rfl ?_;intro f h
    refine cn s fun w1 s=>?_
    refine ai ?_
    refine hK6 _ _ ?_
    refine wpIn_cond_true (h.ev rfl) ?_
    refine ak fun K7 hK7=>?_
    refine ag ?_
    refine bk 3 h s eU rfl rfl rfl (by simp) (rfl) ?_;intro w1 s
    refine ai ?_
    refine hK7 _ _ ?_
    refine wpIn_ret ?_
    refine bT ?_
    refine ⟨((CF p0).trans (by rw [p1];rfl)),_,rfl,s.pick _ ?_⟩
    exact List.Sublist.cons_cons _ (List.Sublist.cons _ (List.Sublist.refl _))
   ·skip
    refine bG 10 [[],[0],[0,1],[0,1,2],[0,1,2,3],[0,1,2,3,4],[0,1,2,3,4,5],[0,1,2],[0,1,2,3,4,5,6,7],[0,1,2,3,4,5,6,7,8]] h (by kernel_rfl) (by kernel_rfl) (by kernel_rfl) ?_
    have hp9:=of_decide_eq_true p0
    refine ao h (ah (h.ev rfl)) rfl ?_;intro f h
    refine ao h (aE (.bool true) (dV Tryz.underlying54 (h.ev rfl) (h.ev rfl)) (rfl)) rfl ?_;intro f h
    refine ao h (ah (h.ev rfl)) rfl ?_;intro f h
    refine bf h rfl rfl rfl ?_
    refine ao h (ah (h.ev rfl)) rfl ?_;intro f h
    refine bf h rfl rfl rfl ?_
    refine ao h (aZ (h.ev rfl)) rfl ?_;intro f h
    refine bf h rfl rfl rfl ?_
    refine ao h (bB bA (h.ev rfl) ((hO.1.keep s.ext).some (by omega))) rfl ?_;intro f h
    refine bf h rfl rfl rfl ?_
    refine bg (bO.elF (hO.1.keep s.ext) (az L ((aH n).getD d9 ap).1) 0 33 (by omega) (by decide) (C:=au (L.getD (az L ((aH n).getD d9 ap).1) z3).1.me (L.getD (az L ((aH n).getD d9 ap).1) z3).1.pr (L.getD (az L ((aH n).getD d9 ap).1) z3).2.1 (L.getD (az L ((aH n).getD d9 ap).1) z3).2.2) (cR L _ hp9) (D:=av (L.getD (az L ((aH n).getD d9 ap).1) z3).1.me) (bZ _ _ _ _)) h aJ rfl (al _) rfl ?_;intro f h
    refine bf h rfl rfl rfl ?_
    refine bC 1 h s aJ rfl rfl (al _) rfl ?_;intro f h
    refine bf h rfl rfl rfl ?_
    refine ao h (aE (.bool false) (fh (i9 _ _) (by kernel_rfl) (by decide) (h.ev rfl) (h.ev rfl) (decide ((L.getD (az L ((aH n).getD d9 ap).1) z3).1.me=((aH n).getD d9 ap))) (er _ _)) (by rw [p1];rfl)) rfl ?_;intro f h
    refine ao h (aO (h.ev rfl) (h.ev rfl)) rfl ?_;intro f h
    refine cn s fun w1 s=>?_
    refine ai ?_
    refine hK6 _ _ ?_
    refine wpIn_cond_false (h.ev rfl) ?_
    refine wpIn_skip ?_
    refine bH ?_
    refine ⟨((CF p0).trans (by rw [p1];rfl)),_,rfl,s.pick _ ?_⟩
    exact List.Sublist.cons_cons _ (List.Sublist.cons _ (List.Sublist.refl _))
 ·intro D9 A9 w2 hJ9 hq9 s
  obtain rfl:=hJ9
  replace h:Sl _ {f with defers:={target:=.collected D9,args:=#[]}::f.defers} _ [{target:=.collected D9,args:=#[]}]:=⟨h.size,by rw [h.defers],h.holds⟩
  refine bH ?_
  refine hK2 _ _ ?_
  refine ak fun K8 hK8=>?_
  refine ag ?_
  refine bk 3 h s eU rfl rfl rfl (by simp) (rfl) ?_;intro w1 s
  refine ai ?_
  refine hK8 _ _ ?_
  refine wpIn_ret ?_
  exact eM 3 0 rfl h s eU rfl rfl rfl rfl rfl (fun w9=>by show _=_;rw [yg hq9];rfl)
 ·intro D9 d9 A9 w2 hd9 hqd9 hq9 hJ9 s
  obtain rfl:=hJ9
  replace h:Sl _ {f with defers:={target:=.collected D9,args:=#[]}::f.defers} _ [{target:=.collected D9,args:=#[]}]:=⟨h.size,by rw [h.defers],h.holds⟩
  refine bT ?_
  refine a8 ?_
  exact eM 3 0 rfl h s eU rfl rfl rfl rfl rfl (fun w9=>by show _=_;rw [yn hd9 hqd9];rfl)
theorem dn (L:List N3) (vo:Value) (w:World) (hO:cI w vo L) (hL:L.length≤40) (hb:RwB L):Calls Tryz.prog 11 [.agg #[vo]].toArray w (cO w (is (.bool (fH L)))):=by
 have hml:(ae L).length≤1000:=by rw [List.length_map];omega
 refine dZ Tryz.func11 rfl Tryz.ntmps11 rfl [(0,.agg #[vo])] (by simp) fun f h=>?_
 have s:=St.start w
 refine ak fun K1 hK1=>?_
 refine ag ?_
 refine bR (#[vo]) h s rfl rfl rfl ?_;intro f w1 b1 h s
 refine bi (#[.bool false]) h s q8 rfl rfl ?_;intro f w1 b2 h s
 refine ai ?_
 refine hK1 _ _ ?_
 refine ak fun K2 hK2=>?_
 refine ag ?_
 refine ay 1 h s a7 rfl rfl (rfl) rfl ?_;intro f h
 refine aK h s pb (eA L vo _ (hO.keep s.ext) hL) rfl rfl ?_;intro f w1 v6 hT hE h sq;replace s:=s.sl_new hE hT
 refine ac h (aj (h.ev rfl)) rfl ?_;intro f h
 refine ai ?_
 refine hK2 _ _ ?_
 refine ak fun K3 hK3=>?_
 refine ak fun K4 hK4=>?_
 cases r0:(c0 (ae L):Bool)
 ·skip
  refine ag ?_
  refine ac h (ah (h.ev rfl)) rfl ?_;intro f h
  refine aK h s oV (aT (.bool false) (fX (ae L) v6 _ (bO.of_own (s.getSl 0 rfl)) hml) (congrArg Value.bool r0)) rfl rfl ?_;intro f w1 v9 hT hE h s;obtain rfl:=hT
  refine ac h (aE (.bool true) (bI (h.ev rfl)) rfl) rfl ?_;intro f h
  refine ac h (ah (h.ev rfl)) rfl ?_;intro f h
  refine aY (b:=false) h rfl rfl rfl rfl ?_;intro f h
  refine aY (b:=false) h rfl rfl rfl rfl ?_;intro f h
  refine aY (b:=false) h rfl rfl rfl rfl ?_;intro f h
  refine ac h (aO (h.ev rfl) (h.ev rfl)) rfl ?_;intro f h
  refine ai ?_
  refine hK4 _ _ ?_
  refine wpIn_cond_true (h.ev rfl) ?_
  refine ak fun K5 hK5=>?_
  refine ag ?_
  refine bk 1 h s eU rfl rfl rfl (by simp) (rfl) ?_;intro w1 s
  refine ai ?_
  refine hK5 _ _ ?_
  refine wpIn_ret ?_
  refine a8 ?_
  exact l9 1 rfl h s eU rfl rfl rfl (fun w9=>(congrArg Value.bool (Aj r0)).symm)
 ·skip
  cases r1:(lA (ae L):Bool)
  ·skip
   refine ag ?_
   refine ac h (ah (h.ev rfl)) rfl ?_;intro f h
   refine aK h s oV (aT (.bool true) (fX (ae L) v6 _ (bO.of_own (s.getSl 0 rfl)) hml) (congrArg Value.bool r0)) rfl rfl ?_;intro f w1 v9 hT hE h s;obtain rfl:=hT
   refine ac h (aE (.bool false) (bI (h.ev rfl)) rfl) rfl ?_;intro f h
   refine ac h (ah (h.ev rfl)) rfl ?_;intro f h
   refine a2 h rfl rfl rfl ?_
   refine ac h (ah (h.ev rfl)) rfl ?_;intro f h
   refine a2 h rfl rfl rfl ?_
   refine aK h s zo (aT (.bool false) (je (ae L) v6 _ (bO.of_own (s.getSl 0 rfl)) hml) (congrArg Value.bool r1)) rfl rfl ?_;intro f w1 v9 hT hE h s;obtain rfl:=hT
   refine a2 h rfl rfl rfl ?_
   refine ac h (aE (.bool true) (bI (h.ev rfl)) rfl) rfl ?_;intro f h
   refine ac h (aL (h.ev rfl) (h.ev rfl)) rfl ?_;intro f h
   refine ai ?_
   refine hK4 _ _ ?_
   refine wpIn_cond_true (h.ev rfl) ?_
   refine ak fun K6 hK6=>?_
   refine ag ?_
   refine bk 1 h s eU rfl rfl rfl (by simp) (rfl) ?_;intro w1 s
   refine ai ?_
   refine hK6 _ _ ?_
   refine wpIn_ret ?_
   refine a8 ?_
   exact l9 1 rfl h s eU rfl rfl rfl (fun w9=>(congrArg Value.bool (Am r1)).symm)
  ·skip
   refine ag ?_
   refine ac h (ah (h.ev rfl)) rfl ?_;intro f h
   refine aK h s oV (aT (.bool true) (fX (ae L) v6 _ (bO.of_own (s.getSl 0 rfl)) hml) (congrArg Value.bool r0)) rfl rfl ?_;intro f w1 v9 hT hE h s;obtain rfl:=hT
   refine ac h (aE (.bool false) (bI (h.ev rfl)) rfl) rfl ?_;intro f h
   refine ac h (ah (h.ev rfl)) rfl ?_;intro f h
   refine a2 h rfl rfl rfl ?_
   refine ac h (ah (h.ev rfl)) rfl ?_;intro f h
   refine a2 h rfl rfl rfl ?_
   refine aK h s zo (aT (.bool true) (je (ae L) v6 _ (bO.of_own (s.getSl 0 rfl)) hml) (congrArg Value.bool r1)) rfl rfl ?_;intro f w1 v9 hT hE h s;obtain rfl:=hT
   refine a2 h rfl rfl rfl ?_
   refine ac h (aE (.bool false) (bI (h.ev rfl)) rfl) rfl ?_;intro f h
   refine ac h (aL (h.ev rfl) (h.ev rfl)) rfl ?_;intro f h
   refine ai ?_
   refine hK4 _ _ ?_
   refine wpIn_cond_false (h.ev rfl) ?_
   refine wpIn_skip ?_
   refine hK3 _ _ ?_
   refine ak fun K7 hK7=>?_
   refine ak fun K8 hK8=>?_
   refine ag ?_
   refine ay 2 h s a7 rfl rfl (rfl) rfl ?_;intro f h
   refine cV [.agg #[vo]] h ko (eV vo _ _ _ s) rfl rfl ?_;rintro f w1 r ⟨bn,rfl,s⟩ h
   refine ai ?_
   refine hK8 _ _ ?_
   refine wpIn_block ?_
   refine dJ (fun d A9=>A9=[.sl v6 28 33 (ae L).length (am (ae L)),.blk b2 (.cells #[.bool false] 4),.blk b1 (.cells #[vo] 24)]) [.sl v6 28 33 (ae L).length (am (ae L)),.blk b2 (.cells #[.bool false] 4),.blk b1 (.cells #[vo] 24)] [.blk bn (.cells #[vo] 24)] (L.length) (vP L) (fun d=>[Value.pointer (some (aF vo (d*68)))]) h s rfl kv (List.Perm.refl _) (rfl) (fun _=>rfl) ?_ ?_ ?_ ?_
   ·intro lp w2 GG g0 hg0 s2 hY;exact ep L.length (by omega) vo _ _ hO.1 lp bn (vP L) GG g0 w w2 s2 hg0 hY
   ·intro lp D9 d9 rc R9 A9 w2 hd9 hq9 hJ9 s
    obtain rfl:=hJ9
    have h:=Sl.round1 (p:=17) (V:=.pointer (some (aF vo (d9*68)))) h rfl
    have hdl9:=hd9
    refine ag ?_
    refine ac h (aj (h.ev rfl)) rfl ?_;intro f h
    refine ai ?_
    refine ca ?_
    refine ⟨_,s,fun w3 s=>?_⟩
    refine wpIn_block ?_
    refine ak fun K9 hK9=>?_
    cases k0:(cr (L.getD d9 z3).1:Bool)
    ·skip
     refine bG 13 [[],[0],[0,1],[0,1,2],[0,1,2,3],[0,1,2,3,4],[0,1,2,3,4,5],[0,1,2,3,4,5,6],[0,1,2,3,4,5,6,7],[0,1,2,3,4,5],[0,1,2,3,4,5,6,7,8,9],[0,1,2,3,4,5,6,7,8,9,10],[0,1,2,3,4,5,6,7,8,9,10,11]] h (by kernel_rfl) (by kernel_rfl) (by kernel_rfl) ?_
     have hx9:=hb.each _ (bj hdl9)
     refine ao h (ah (h.ev rfl)) rfl ?_;intro f h
     refine ao h (aZ (h.ev rfl)) rfl ?_;intro f h
     refine bg ((hO.1.keep s.ext).el (d9) (by omega) (by decide) (D:=au (L.getD d9 z3).1.me (L.getD d9 z3).1.pr (L.getD d9 z3).2.1 (L.getD d9 z3).2.2) (cR L d9 hdl9)) h bw rfl (aw _ _ _ _) rfl ?_;intro f h
     refine cm h fY (fun w9 hE9=>aT (.bool false) (cS (L.getD d9 z3).1 (L.getD d9 z3).2.1 (L.getD d9 z3).2.2 w9 ((hO.2 _ (bj hdl9)).1.keep (s.ext.trans hE9)) ((hO.2 _ (bj hdl9)).2.keep (s.ext.trans hE9)) (by omega) (by omega)) (congrArg Value.bool k0)) rfl rfl ?_;intro f h
     refine ao h (aE (.bool true) (bI (h.ev rfl)) rfl) rfl ?_;intro f h
     refine ao h (ah (h.ev rfl)) rfl ?_;intro f h
     refine ba (b:=false) h rfl rfl rfl rfl ?_;intro f h
     refine ba (b:=false) h rfl rfl rfl rfl ?_;intro f h
     refine ba (b:=false) h rfl rfl rfl rfl ?_;intro f h
     refine ba (b:=false) h rfl rfl rfl rfl ?_;intro f h
     refine ba (b:=false) h rfl rfl rfl rfl ?_;intro f h
     refine ba (b:=false) h rfl rfl rfl rfl ?_;intro f h
     refine ao h (aO (h.ev rfl) (h.ev rfl)) rfl ?_;intro f h
     refine cn s fun w1 s=>?_
     refine ai ?_
     refine hK9 _ _ ?_
     refine wpIn_cond_true (h.ev rfl) ?_
     refine ak fun K10 hK10=>?_
     refine ag ?_
     refine bk 3 h s eU rfl rfl rfl (by simp) (rfl) ?_;intro w1 s
     refine ai ?_
     refine hK10 _ _ ?_
     refine wpIn_ret ?_
     refine bT ?_
     refine ⟨(Da k0),_,rfl,s.pick _ ?_⟩
     exact List.Sublist.cons_cons _ (List.Sublist.refl _)
    ·skip
     cases k1:((aH (L.getD d9 z3).1).any (i1 L):Bool)
     ·skip
      refine bG 13 [[],[0],[0,1],[0,1,2],[0,1,2,3],[0,1,2,3,4],[0,1,2,3,4,5],[0,1,2,3,4,5,6],[0,1,2,3,4,5,6,7],[0,1,2,3,4,5],[0,1,2,3,4,5,6,7,8,9],[0,1,2,3,4,5,6,7,8,9,10],[0,1,2,3,4,5,6,7,8,9,10,11]] h (by kernel_rfl) (by kernel_rfl) (by kernel_rfl) ?_
      have hx9:=hb.each _ (bj hdl9)
      refine ao h (ah (h.ev rfl)) rfl ?_;intro f h
      refine ao h (aZ (h.ev rfl)) rfl ?_;intro f h
      refine bg ((hO.1.keep s.ext).el (d9) (by omega) (by decide) (D:=au (L.getD d9 z3).1.me (L.getD d9 z3).1.pr (L.getD d9 z3).2.1 (L.getD d9 z3).2.2) (cR L d9 hdl9)) h bw rfl (aw _ _ _ _) rfl ?_;intro f h
      refine cm h fY (fun w9 hE9=>aT (.bool true) (cS (L.getD d9 z3).1 (L.getD d9 z3).2.1 (L.getD d9 z3).2.2 w9 ((hO.2 _ (bj hdl9)).1.keep (s.ext.trans hE9)) ((hO.2 _ (bj hdl9)).2.keep (s.ext.trans hE9)) (by omega) (by omega)) (congrArg Value.bool k0)) rfl rfl ?_;intro f h
      refine ao h (aE (.bool false) (bI (h.ev rfl)) rfl) rfl ?_;intro f h
      refine ao h (ah (h.ev rfl)) rfl ?_;intro f h
      refine bf h rfl rfl rfl ?_
      refine ao h (ah (h.ev rfl)) rfl ?_;intro f h
      refine bf h rfl rfl rfl ?_
      refine ao h (aZ (h.ev rfl)) rfl ?_;intro f h
      refine bf h rfl rfl rfl ?_
      refine bg ((hO.1.keep s.ext).el (d9) (by omega) (by decide) (D:=au (L.getD d9 z3).1.me (L.getD d9 z3).1.pr (L.getD d9 z3).2.1 (L.getD d9 z3).2.2) (cR L d9 hdl9)) h bw rfl (aw _ _ _ _) rfl ?_;intro f h
      refine bf h rfl rfl rfl ?_
      refine bC 4 h s a7 rfl rfl (rfl) rfl ?_;intro f h
      refine bf h rfl rfl rfl ?_
      refine cm h zr (fun w9 hE9=>aT (.bool true) (mZ (L.getD d9 z3).1 (L.getD d9 z3).2.1 (L.getD d9 z3).2.2 L vo w9 ((hO.2 _ (bj hdl9)).1.keep (s.ext.trans hE9)) ((hO.2 _ (bj hdl9)).2.keep (s.ext.trans hE9)) (by omega) (by omega) (hO.keep (s.ext.trans hE9)) hL) (by rw [k1];rfl)) rfl rfl ?_;intro f h
      refine bf h rfl rfl rfl ?_
      refine ao h (aE (.bool false) (bI (h.ev rfl)) rfl) rfl ?_;intro f h
      refine ao h (aL (h.ev rfl) (h.ev rfl)) rfl ?_;intro f h
      refine cn s fun w1 s=>?_
      refine ai ?_
      refine hK9 _ _ ?_
      refine wpIn_cond_false (h.ev rfl) ?_
      refine wpIn_skip ?_
      refine bH ?_
      refine ⟨((CR k0).trans k1),_,rfl,s.pick _ ?_⟩
      exact List.Sublist.cons_cons _ (List.Sublist.refl _)
     ·skip
      refine bG 13 [[],[0],[0,1],[0,1,2],[0,1,2,3],[0,1,2,3,4],[0,1,2,3,4,5],[0,1,2,3,4,5,6],[0,1,2,3,4,5,6,7],[0,1,2,3,4,5],[0,1,2,3,4,5,6,7,8,9],[0,1,2,3,4,5,6,7,8,9,10],[0,1,2,3,4,5,6,7,8,9,10,11]] h (by kernel_rfl) (by kernel_rfl) (by kernel_rfl) ?_
      have hx9:=hb.each _ (bj hdl9)
      refine ao h (ah (h.ev rfl)) rfl ?_;intro f h
      refine ao h (aZ (h.ev rfl)) rfl ?_;intro f h
      refine bg ((hO.1.keep s.ext).el (d9) (by omega) (by decide) (D:=au (L.getD d9 z3).1.me (L.getD d9 z3).1.pr (L.getD d9 z3).2.1 (L.getD d9 z3).2.2) (cR L d9 hdl9)) h bw rfl (aw _ _ _ _) rfl ?_;intro f h
      refine cm h fY (fun w9 hE9=>aT (.bool true) (cS (L.getD d9 z3).1 (L.getD d9 z3).2.1 (L.getD d9 z3).2.2 w9 ((hO.2 _ (bj hdl9)).1.keep (s.ext.trans hE9)) ((hO.2 _ (bj hdl9)).2.keep (s.ext.trans hE9)) (by omega) (by omega)) (congrArg Value.bool k0)) rfl rfl ?_;intro f h
      refine ao h (aE (.bool false) (bI (h.ev rfl)) rfl) rfl ?_;intro f h
      refine ao h (ah (h.ev rfl)) rfl ?_;intro f h
      refine bf h rfl rfl rfl ?_
      refine ao h (ah (h.ev rfl)) rfl ?_;intro f h
      refine bf h rfl rfl rfl ?_
      refine ao h (aZ (h.ev rfl)) rfl ?_;intro f h
      refine bf h rfl rfl rfl ?_
      refine bg ((hO.1.keep s.ext).el (d9) (by omega) (by decide) (D:=au (L.getD d9 z3).1.me (L.getD d9 z3).1.pr (L.getD d9 z3).2.1 (L.getD d9 z3).2.2) (cR L d9 hdl9)) h bw rfl (aw _ _ _ _) rfl ?_;intro f h
      refine bf h rfl rfl rfl ?_
      refine bC 4 h s a7 rfl rfl (rfl) rfl ?_;intro f h
      refine bf h rfl rfl rfl ?_
      refine cm h zr (fun w9 hE9=>aT (.bool false) (mZ (L.getD d9 z3).1 (L.getD d9 z3).2.1 (L.getD d9 z3).2.2 L vo w9 ((hO.2 _ (bj hdl9)).1.keep (s.ext.trans hE9)) ((hO.2 _ (bj hdl9)).2.keep (s.ext.trans hE9)) (by omega) (by omega) (hO.keep (s.ext.trans hE9)) hL) (by rw [k1];rfl)) rfl rfl ?_;intro f h
      refine bf h rfl rfl rfl ?_
      refine ao h (aE (.bool true) (bI (h.ev rfl)) rfl) rfl ?_;intro f h
      refine ao h (aL (h.ev rfl) (h.ev rfl)) rfl ?_;intro f h
      refine cn s fun w1 s=>?_
      refine ai ?_
      refine hK9 _ _ ?_
      refine wpIn_cond_true (h.ev rfl) ?_
      refine ak fun K11 hK11=>?_
      refine ag ?_
      refine bk 3 h s eU rfl rfl rfl (by simp) (rfl) ?_;intro w1 s
      refine ai ?_
      refine hK11 _ _ ?_
      refine wpIn_ret ?_
      refine bT ?_
      refine ⟨((CR k0).trans k1),_,rfl,s.pick _ ?_⟩
      exact List.Sublist.cons_cons _ (List.Sublist.refl _)
   ·intro D9 A9 w2 hJ9 hq9 s
    obtain rfl:=hJ9
    replace h:Sl _ {f with defers:={target:=.collected D9,args:=#[]}::f.defers} _ [{target:=.collected D9,args:=#[]}]:=⟨h.size,by rw [h.defers],h.holds⟩
    refine bH ?_
    refine hK7 _ _ ?_
    refine ak fun K12 hK12=>?_
    refine ag ?_
    refine bk 3 h s eU rfl rfl rfl (by simp) (rfl) ?_;intro w1 s
    refine ai ?_
    refine hK12 _ _ ?_
    refine wpIn_ret ?_
    exact eM 3 0 rfl h s eU rfl rfl rfl rfl rfl (fun w9=>(congrArg Value.bool (xJ r0 r1 hq9)).symm)
   ·intro D9 d9 A9 w2 hd9 hqd9 hq9 hJ9 s
    obtain rfl:=hJ9
    replace h:Sl _ {f with defers:={target:=.collected D9,args:=#[]}::f.defers} _ [{target:=.collected D9,args:=#[]}]:=⟨h.size,by rw [h.defers],h.holds⟩
    refine bT ?_
    refine a8 ?_
    exact eM 3 0 rfl h s eU rfl rfl rfl rfl rfl (fun w9=>(congrArg Value.bool (xx r0 r1 hd9 hqd9)).symm)
end Go.Proofs.YthggibfkgofncaaGreat
