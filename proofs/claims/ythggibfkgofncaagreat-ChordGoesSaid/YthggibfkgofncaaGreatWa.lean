/- What package chord answers for an overlay that is read: its nodes, its members, the node of a number, who is known, which may be. -/
import Derived.Test.YthggibfkgofncaaGreatVj
set_option linter.unusedVariables false
set_option linter.unusedSimpArgs false
set_option linter.unusedSectionVars false
namespace Go.Proofs.YthggibfkgofncaaGreat
open Go.RowKit
theorem oQ (x:Int) (w:World):Calls Tryz.prog 111 [.int .i64 x].toArray w (cU w (is (.bool false))):=by
 refine bq Tryz.func111 rfl Tryz.ntmps111 rfl [(0,.int .i64 x)] (by simp) fun f h=>?_
 have s:=St.start w
 refine al fun K1 hK1=>?_
 refine ae ?_
 refine ac h (ak (h.ev rfl)) rfl ?_;intro f h
 refine ah ?_
 refine hK1 _ _ ?_
 refine al fun K2 hK2=>?_
 refine ae ?_
 refine ac h (ag (h.ev rfl)) rfl ?_;intro f h
 refine ac h (ag (h.ev rfl)) rfl ?_;intro f h
 refine ac h (aw (.bool false) (cy (h.ev rfl) (h.ev rfl)) (by simp)) rfl ?_;intro f h
 refine ac h (ak (h.ev rfl)) rfl ?_;intro f h
 refine ah ?_
 refine hK2 _ _ ?_
 refine wpIn_ret ?_
 exact bo rfl h s rfl (rfl)
theorem wZ (x y:Int) (w:World):Calls Tryz.prog 74 [.int .i64 x,.int .i64 y].toArray w (cU w (is (.int .i64 (d4 x y)))):=by
 refine bq Tryz.func74 rfl Tryz.ntmps74 rfl [(0,.int .i64 x),(1,.int .i64 y)] (by simp) fun f h=>?_
 have s:=St.start w
 refine al fun K1 hK1=>?_
 refine ae ?_
 refine ac h (ak (h.ev rfl)) rfl ?_;intro f h
 refine ah ?_
 refine hK1 _ _ ?_
 refine al fun K2 hK2=>?_
 refine ae ?_
 refine ac h (ag (h.ev rfl)) rfl ?_;intro f h
 refine aI h s wq (oQ _ _) rfl rfl ?_;intro f w1 v9 hT hE h s;obtain rfl:=hT
 refine ac h (ak (h.ev rfl)) rfl ?_;intro f h
 refine ah ?_
 refine hK2 _ _ ?_
 refine al fun K3 hK3=>?_
 refine ae ?_
 refine ac h (ag (h.ev rfl)) rfl ?_;intro f h
 refine aI h s wq (oQ _ _) rfl rfl ?_;intro f w1 v9 hT hE h s;obtain rfl:=hT
 refine ac h (ak (h.ev rfl)) rfl ?_;intro f h
 refine ah ?_
 refine hK3 _ _ ?_
 refine al fun K4 hK4=>?_
 refine al fun K5 hK5=>?_
 refine ae ?_
 refine ac h (ag (h.ev rfl)) rfl ?_;intro f h
 refine ah ?_
 refine hK5 _ _ ?_
 refine wpIn_cond_false (h.ev rfl) ?_
 refine wpIn_skip ?_
 refine hK4 _ _ ?_
 refine al fun K6 hK6=>?_
 refine al fun K7 hK7=>?_
 refine ae ?_
 refine ac h (ag (h.ev rfl)) rfl ?_;intro f h
 refine ah ?_
 refine hK7 _ _ ?_
 refine wpIn_cond_false (h.ev rfl) ?_
 refine wpIn_skip ?_
 refine hK6 _ _ ?_
 refine al fun K8 hK8=>?_
 refine al fun K9 hK9=>?_
 refine ae ?_
 refine ac h (ag (h.ev rfl)) rfl ?_;intro f h
 refine ac h (ag (h.ev rfl)) rfl ?_;intro f h
 refine ac h (bS (h.ev rfl) (h.ev rfl)) rfl ?_;intro f h
 refine ah ?_
 refine hK9 _ _ ?_
 refine bK h rfl (fun hc=>?_) (fun hc=>?_)
 ·have hc:=of_decide_eq_true hc
  refine al fun K10 hK10=>?_
  refine ae ?_
  refine ac h (ak (h.ev rfl)) rfl ?_;intro f h
  refine ah ?_
  refine hK10 _ _ ?_
  refine wpIn_ret ?_
  refine aY ?_
  exact bo rfl h s rfl (by show _=_;unfold d4;rw [if_pos hc])
 ·have hc1:=of_decide_eq_false hc
  refine wpIn_skip ?_
  refine hK8 _ _ ?_
  refine al fun K11 hK11=>?_
  refine al fun K12 hK12=>?_
  refine ae ?_
  refine ac h (ag (h.ev rfl)) rfl ?_;intro f h
  refine ac h (ag (h.ev rfl)) rfl ?_;intro f h
  refine ac h (cY (h.ev rfl) (h.ev rfl)) rfl ?_;intro f h
  refine ah ?_
  refine hK12 _ _ ?_
  refine bK h rfl (fun hc=>?_) (fun hc=>?_)
  ·replace hc:=of_decide_eq_true hc
   refine al fun K13 hK13=>?_
   refine ae ?_
   refine ac h (ak (h.ev rfl)) rfl ?_;intro f h
   refine ah ?_
   refine hK13 _ _ ?_
   refine wpIn_ret ?_
   refine aY ?_
   exact bo rfl h s rfl (by show _=_;unfold d4;rw [if_neg (by omega),if_pos (by omega)])
  ·replace hc:=of_decide_eq_false hc
   refine wpIn_skip ?_
   refine hK11 _ _ ?_
   refine al fun K14 hK14=>?_
   refine ae ?_
   refine ac h (ak (h.ev rfl)) rfl ?_;intro f h
   refine ah ?_
   refine hK14 _ _ ?_
   refine wpIn_ret ?_
   exact bo rfl h s rfl (by show _=_;unfold d4;rw [if_neg (by omega),if_neg (by omega)])
theorem lF (x y:Mb) (w:World):Calls Tryz.prog 39 [.agg (av x),.agg (av y)].toArray w (cU w (is (.int .i64 (d4 x.1 y.1)))):=by
 refine bq Tryz.func39 rfl Tryz.ntmps39 rfl [(0,.agg (av x)),(1,.agg (av y))] (by simp) fun f h=>?_
 have s:=St.start w
 refine al fun K1 hK1=>?_
 refine ae ?_
 refine bV ((av x)) h s rfl rfl rfl ?_;intro f w1 b2 h s
 refine bV ((av y)) h s rfl rfl rfl ?_;intro f w1 b3 h s
 refine ac h (ak (h.ev rfl)) rfl ?_;intro f h
 refine ah ?_
 refine hK1 _ _ ?_
 refine al fun K2 hK2=>?_
 refine ae ?_
 refine ac h (ai aH (h.ev rfl)) rfl ?_;intro f h
 refine aq (am (aL.of_own s 1 rfl) 0 (aP _)) h bw rfl rfl ?_;intro f h
 refine ac h (ai aH (h.ev rfl)) rfl ?_;intro f h
 refine aq (am (aL.of_own s 0 rfl) 0 (aP _)) h bw rfl rfl ?_;intro f h
 refine aI h s CX (wZ _ _ _) rfl rfl ?_;intro f w1 v9 hT hE h s;obtain rfl:=hT
 refine ac h (ak (h.ev rfl)) rfl ?_;intro f h
 refine ah ?_
 refine hK2 _ _ ?_
 refine wpIn_ret ?_
 exact bo rfl h s rfl (rfl)
theorem sM  (w:World):Calls Tryz.prog 83 [].toArray w (cU w (is (.agg (av dB)))):=by
 refine bq Tryz.func83 rfl Tryz.ntmps83 rfl [] (by simp) fun f h=>?_
 have s:=St.start w
 refine al fun K1 hK1=>?_
 refine ae ?_
 refine bf (av aZ) h s cB rfl rfl ?_;intro f w1 b0 h s
 refine ah ?_
 refine hK1 _ _ ?_
 refine al fun K2 hK2=>?_
 refine ae ?_
 refine ac h (dU mM rfl) rfl ?_;intro f h
 refine az 0 h s aC rfl rfl rfl (aj _) (aj _) (aS _) ?_;intro w1 s
 refine ah ?_
 refine hK2 _ _ ?_
 refine wpIn_ret ?_
 exact c5 0 rfl h s aC rfl rfl (aj _) (rfl)
theorem jR (l:List Mb) (vh:Value) (w:World) (hR:bX w vh 33 l.length (ar l)) (hln:l.length≤1000):Calls Tryz.prog 46 [vh,.func (.func 39) #[] #[]].toArray w (cU w (is (.bool (lU l)))):=by
 refine bq Tryz.func46 rfl Tryz.ntmps46 rfl [(0,vh),(1,.func (.func 39) #[] #[])] (by simp) fun f h=>?_
 have s:=St.start w
 refine al fun K1 hK1=>?_
 refine ae ?_
 refine ac h (ak (h.ev rfl)) rfl ?_;intro f h
 refine ah ?_
 refine hK1 _ _ ?_
 refine al fun K2 hK2=>?_
 refine al fun K3 hK3=>?_
 refine ae ?_
 refine ac h (ag (h.ev rfl)) rfl ?_;intro f h
 refine ac h (a8 (hR.keep s.ext) Tryz.underlying36 (h.ev rfl)) rfl ?_;intro f h
 refine ac h (eS (h.ev rfl) (h.ev rfl) (by omega)) rfl ?_;intro f h
 refine ac h (ak (h.ev rfl)) rfl ?_;intro f h
 refine ah ?_
 refine hK3 _ _ ?_
 refine wpIn_block ?_
 refine wpIn_loop_ghost (fun nn aa ww=>∃ k:Nat,Sl 25 aa [(0,vh),(1,.func (.func 39) #[] #[]),(5,.int .i64 ((k:Int) - 1))]∧St w [] ww∧nn=k∧k≤l.length∧∀ j,k≤j→0<j→j<l.length→jy l j=false) ((l.length)) ⟨l.length,h.only ⟨rfl,rfl,aO rfl (by omega),trivial⟩,s.as trivial,rfl,Nat.le_refl _,fun j h1 _ h2=>absurd h2 (by omega)⟩ ?_
 rintro _ f w1 ⟨k,h,s,hnn,hp0,hp1⟩
 refine al fun K4 hK4=>?_
 refine al fun K5 hK5=>?_
 refine ae ?_
 refine ac h (ag (h.ev rfl)) rfl ?_;intro f h
 refine ac h (cY (h.ev rfl) (h.ev rfl)) rfl ?_;intro f h
 refine ah ?_
 refine hK5 _ _ ?_
 refine bK h rfl (fun hc=>?_) (fun hc=>?_)
 ·replace hc:=of_decide_eq_true hc
  refine wpIn_skip ?_
  refine hK4 _ _ ?_
  refine al fun K6 hK6=>?_
  refine wpIn_block ?_
  refine al fun K7 hK7=>?_
  cases hq:(jy l (k - 1):Bool)
  ·skip
   refine bH 12 [[],[],[],[1,2],[1,2,3],[],[],[6],[5,6,7],[5,6,7,8],[0,1,2,3,4,5,6,7,8,9],[0,1,2,3,4,5,6,7,8,9,10]] h (by kernel_rfl) (by kernel_rfl) (by kernel_rfl) ?_
   have h0:=hc
   have hk1:0<k - 1:=by omega
   refine ao h (ag (h.ev rfl)) rfl ?_;intro f h
   refine ao h (ag (h.ev rfl)) rfl ?_;intro f h
   refine ao h (ag (h.ev rfl)) rfl ?_;intro f h
   refine ao h (cc (hR.keep s.ext) (k - 1) Tryz.underlying36 cD (h.ev rfl) (h.ev rfl) (by omega) (by omega)) rfl ?_;intro f h
   refine bi ((hR.keep s.ext).el (k - 1) (by omega) (by decide) (D:=av (l.getD (k - 1) aZ)) (cI l (k - 1) (by omega))) h aC rfl (aj _) rfl ?_;intro f h
   refine ao h (ag (h.ev rfl)) rfl ?_;intro f h
   refine ao h (ag (h.ev rfl)) rfl ?_;intro f h
   refine ao h (eS (h.ev rfl) (h.ev rfl) (by omega)) rfl ?_;intro f h
   refine ao h (cc (hR.keep s.ext) (k - 1 - 1) Tryz.underlying36 cD (h.ev rfl) (h.ev rfl) (by omega) (by omega)) rfl ?_;intro f h
   refine bi ((hR.keep s.ext).el (k - 1 - 1) (by omega) (by decide) (D:=av (l.getD (k - 1 - 1) aZ)) (cI l (k - 1 - 1) (by omega))) h aC rfl (aj _) rfl ?_;intro f h
   refine nv [.agg (av (l.getD (k - 1) aZ)),.agg (av (l.getD (k - 1 - 1) aZ))] (caps:=[]) h wd rfl (fun w9 h9=>lF _ _ w9) rfl rfl ?_;intro f h
   refine ao h (aw (.bool false) (bS (h.ev rfl) (h.ev rfl)) (congrArg Value.bool ((decide_eq_decide.2 (jo _ _)).trans hq))) rfl ?_;intro f h
   refine ck s fun w1 s=>?_
   refine ah ?_
   refine hK7 _ _ ?_
   refine wpIn_cond_false (h.ev rfl) ?_
   refine wpIn_skip ?_
   refine bF ?_
   refine hK6 _ _ ?_
   refine ae ?_
   refine ac h (ag (h.ev rfl)) rfl ?_;intro f h
   refine ac h (eS (h.ev rfl) (h.ev rfl) (by omega)) rfl ?_;intro f h
   refine ac h (ak (h.ev rfl)) rfl ?_;intro f h
   refine ah ?_
   refine bT ?_
   exact ⟨_,by omega,⟨k - 1,h.only ⟨rfl,rfl,aO rfl (by omega),trivial⟩,St.as s trivial,rfl,by omega,vH hp1 (by omega) hq⟩⟩
  ·skip
   refine bH 12 [[],[],[],[1,2],[1,2,3],[],[],[6],[5,6,7],[5,6,7,8],[0,1,2,3,4,5,6,7,8,9],[0,1,2,3,4,5,6,7,8,9,10]] h (by kernel_rfl) (by kernel_rfl) (by kernel_rfl) ?_
   have h0:=hc
   have hk1:0<k - 1:=by omega
   refine ao h (ag (h.ev rfl)) rfl ?_;intro f h
   refine ao h (ag (h.ev rfl)) rfl ?_;intro f h
   refine ao h (ag (h.ev rfl)) rfl ?_;intro f h
   refine ao h (cc (hR.keep s.ext) (k - 1) Tryz.underlying36 cD (h.ev rfl) (h.ev rfl) (by omega) (by omega)) rfl ?_;intro f h
   refine bi ((hR.keep s.ext).el (k - 1) (by omega) (by decide) (D:=av (l.getD (k - 1) aZ)) (cI l (k - 1) (by omega))) h aC rfl (aj _) rfl ?_;intro f h
   refine ao h (ag (h.ev rfl)) rfl ?_;intro f h
   refine ao h (ag (h.ev rfl)) rfl ?_;intro f h
   refine ao h (eS (h.ev rfl) (h.ev rfl) (by omega)) rfl ?_;intro f h
   refine ao h (cc (hR.keep s.ext) (k - 1 - 1) Tryz.underlying36 cD (h.ev rfl) (h.ev rfl) (by omega) (by omega)) rfl ?_;intro f h
   refine bi ((hR.keep s.ext).el (k - 1 - 1) (by omega) (by decide) (D:=av (l.getD (k - 1 - 1) aZ)) (cI l (k - 1 - 1) (by omega))) h aC rfl (aj _) rfl ?_;intro f h
   refine nv [.agg (av (l.getD (k - 1) aZ)),.agg (av (l.getD (k - 1 - 1) aZ))] (caps:=[]) h wd rfl (fun w9 h9=>lF _ _ w9) rfl rfl ?_;intro f h
   refine ao h (aw (.bool true) (bS (h.ev rfl) (h.ev rfl)) (congrArg Value.bool ((decide_eq_decide.2 (jo _ _)).trans hq))) rfl ?_;intro f h
   refine ck s fun w1 s=>?_
   refine ah ?_
   refine hK7 _ _ ?_
   refine wpIn_cond_true (h.ev rfl) ?_
   refine al fun K8 hK8=>?_
   refine ae ?_
   refine ac h (ak (h.ev rfl)) rfl ?_;intro f h
   refine ah ?_
   refine hK8 _ _ ?_
   refine wpIn_ret ?_
   refine bQ ?_
   refine aY ?_
   refine aY ?_
   refine bQ ?_
   refine aY ?_
   exact bo rfl h s rfl (by show _=_;rw [po (by omega) hk1 hq])
 ·replace hc:=of_decide_eq_false hc
  refine wpIn_exit ?_
  refine bJ ?_
  refine bJ ?_
  refine cC ?_
  refine hK2 _ _ ?_
  refine al fun K9 hK9=>?_
  refine ae ?_
  refine ac h (ak (h.ev rfl)) rfl ?_;intro f h
  refine ah ?_
  refine hK9 _ _ ?_
  refine wpIn_ret ?_
  exact bo rfl h s rfl (by show _=_;rw [mq (fun j h1 h2=>hp1 j (by omega) h1 h2)])
theorem iS (l r:List Mb) (vh vu:Value) (w:World) (hR:bX w vh 33 l.length (ar l)) (hS:bX w vu 33 r.length (ar r)) (hln:l.length≤1000) (hln2:r.length≤1000):Calls Tryz.prog 51 [vh,vu].toArray w (cU w (is (.bool (decide (l=r))))):=by
 refine bq Tryz.func51 rfl Tryz.ntmps51 rfl [(0,vh),(1,vu)] (by simp) fun f h=>?_
 have s:=St.start w
 refine al fun K1 hK1=>?_
 refine ae ?_
 refine ac h (ak (h.ev rfl)) rfl ?_;intro f h
 refine ah ?_
 refine hK1 _ _ ?_
 refine al fun K2 hK2=>?_
 refine al fun K3 hK3=>?_
 refine ae ?_
 refine ac h (ag (h.ev rfl)) rfl ?_;intro f h
 refine ac h (a8 (hR.keep s.ext) Tryz.underlying36 (h.ev rfl)) rfl ?_;intro f h
 refine ac h (ag (h.ev rfl)) rfl ?_;intro f h
 refine ac h (a8 (hS.keep s.ext) Tryz.underlying36 (h.ev rfl)) rfl ?_;intro f h
 refine ac h (cy (h.ev rfl) (h.ev rfl)) rfl ?_;intro f h
 refine ah ?_
 refine hK3 _ _ ?_
 refine bK h rfl (fun hc=>?_) (fun hc=>?_)
 ·replace hc:=hc
  refine al fun K4 hK4=>?_
  refine ae ?_
  refine ac h (ak (h.ev rfl)) rfl ?_;intro f h
  refine ah ?_
  refine hK4 _ _ ?_
  refine wpIn_ret ?_
  refine aY ?_
  exact bo rfl h s rfl ((by show _=_;rw [decide_eq_false (fun e=>by subst e;simp at hc)]))
 ·have hl9:l.length=r.length:=by have:=hc;simp at this;omega
  refine wpIn_skip ?_
  refine hK2 _ _ ?_
  refine al fun K5 hK5=>?_
  refine al fun K6 hK6=>?_
  refine ae ?_
  refine ac h (ag (h.ev rfl)) rfl ?_;intro f h
  refine ac h (a8 (hR.keep s.ext) Tryz.underlying36 (h.ev rfl)) rfl ?_;intro f h
  refine ac h (ag (h.ev rfl)) rfl ?_;intro f h
  refine ah ?_
  refine hK6 _ _ ?_
  refine wpIn_block ?_
  refine wpIn_loop_ghost (fun nn aa ww=>∃ k:Nat,Sl 26 aa [(0,vh),(1,vu),(12,.int .i64 (l.length:Int)),(13,.int .i64 (k:Int))]∧St w [] ww∧nn=l.length - k∧k≤l.length∧∀ j,j<k→l.getD j aZ=r.getD j aZ) (l.length - (0)) ⟨0,h.only ⟨rfl,rfl,rfl,aO rfl (by omega),trivial⟩,s.as trivial,rfl,Nat.zero_le _,fun j hj=>absurd hj (Nat.not_lt_zero _)⟩ ?_
  rintro _ f w1 ⟨k,h,s,hnn,hp0,hp1⟩
  refine al fun K7 hK7=>?_
  refine ae ?_
  refine ac h (bS (h.ev rfl) (h.ev rfl)) rfl ?_;intro f h
  refine ah ?_
  refine hK7 _ _ ?_
  refine al fun K8 hK8=>?_
  refine bK h rfl (fun hc=>?_) (fun hc=>?_)
  ·replace hc:=of_decide_eq_true hc
   refine wpIn_skip ?_
   refine hK8 _ _ ?_
   refine al fun K9 hK9=>?_
   refine wpIn_block ?_
   refine al fun K10 hK10=>?_
   refine ae ?_
   refine ac h (ag (h.ev rfl)) rfl ?_;intro f h
   refine ac h (ak (h.ev rfl)) rfl ?_;intro f h
   refine ah ?_
   refine hK10 _ _ ?_
   refine al fun K11 hK11=>?_
   refine bH 9 [[],[],[0,1],[0,1,2],[],[],[4,5],[4,5,6],[0,1,2,3,4,5,6,7]] h (by kernel_rfl) (by kernel_rfl) (by kernel_rfl) ?_
   have hka:k<l.length:=by omega
   have hkb:k<r.length:=by omega
   refine ao h (ag (h.ev rfl)) rfl ?_;intro f h
   refine ao h (ag (h.ev rfl)) rfl ?_;intro f h
   refine ao h (cc (hR.keep s.ext) (k) Tryz.underlying36 cD (h.ev rfl) (h.ev rfl) (by omega) (by omega)) rfl ?_;intro f h
   refine bi ((hR.keep s.ext).el (k) (by omega) (by decide) (D:=av (l.getD k aZ)) (cI l k hka)) h aC rfl (aj _) rfl ?_;intro f h
   refine ao h (ag (h.ev rfl)) rfl ?_;intro f h
   refine ao h (ag (h.ev rfl)) rfl ?_;intro f h
   refine ao h (cc (hS.keep s.ext) (k) Tryz.underlying36 cD (h.ev rfl) (h.ev rfl) (by omega) (by omega)) rfl ?_;intro f h
   refine bi ((hS.keep s.ext).el (k) (by omega) (by decide) (D:=av (r.getD k aZ)) (cI r k hkb)) h aC rfl (aj _) rfl ?_;intro f h
   refine ao h (eh (eo _ _) (by kernel_rfl) (by decide) (h.ev rfl) (h.ev rfl) (decide ((l.getD k aZ)=r.getD k aZ)) (cR _ _)) rfl ?_;intro f h
   refine ck s fun w1 s=>?_
   refine ah ?_
   refine hK11 _ _ ?_
   refine bK h rfl (fun hc=>?_) (fun hc=>?_)
   ·refine al fun K12 hK12=>?_
    refine ae ?_
    refine ac h (ak (h.ev rfl)) rfl ?_;intro f h
    refine ah ?_
    refine hK12 _ _ ?_
    refine wpIn_ret ?_
    refine bQ ?_
    refine aY ?_
    refine aY ?_
    refine bQ ?_
    refine aY ?_
    exact bo rfl h s rfl ((by show _=_;rw [decide_eq_false (fun e=>by subst e;simp at hc)]))
   ·refine wpIn_skip ?_
    refine bF ?_
    refine hK9 _ _ ?_
    refine ae ?_
    refine ac h (ce (h.ev rfl) (h.ev rfl) (by omega)) rfl ?_;intro f h
    refine ac h (ag (h.ev rfl)) rfl ?_;intro f h
    refine ah ?_
    refine bT ?_
    exact ⟨_,by omega,⟨k+1,h.only ⟨rfl,rfl,rfl,aO rfl (by omega),trivial⟩,St.as s trivial,rfl,by omega,pK hp1 (by simpa using hc)⟩⟩
  ·replace hc:=of_decide_eq_false hc
   refine wpIn_exit ?_
   refine bJ ?_
   refine bJ ?_
   refine cC ?_
   refine hK5 _ _ ?_
   refine al fun K13 hK13=>?_
   refine ae ?_
   refine ac h (ak (h.ev rfl)) rfl ?_;intro f h
   refine ah ?_
   refine hK13 _ _ ?_
   refine wpIn_ret ?_
   exact bo rfl h s rfl ((by show _=_;rw [decide_eq_true (rO hl9 (fun j hj=>hp1 j (by omega)))]))
theorem fk (vo:Value) (B9:List Own) (w0 w:World) (s:St w0 B9 w):Calls Tryz.prog 47 [.agg #[vo]].toArray w (fun e w9=>∃ r,e=.returned r∧∃ bn,r=.func (.func 79) #[] #[.pointer (some ⟨bn,0,none⟩)]∧St w0 (.blk bn (.cells #[vo] 24)::B9) w9):=by
 refine eb Tryz.func47 rfl Tryz.ntmps47 rfl [(0,.agg #[vo])] (by simp) fun f h=>?_
 refine al fun K1 hK1=>?_
 refine ae ?_
 refine bV (#[vo]) h s rfl rfl rfl ?_;intro f w1 b1 h s
 refine ac h (ak (h.ev rfl)) rfl ?_;intro f h
 refine ah ?_
 refine hK1 _ _ ?_
 refine al fun K2 hK2=>?_
 refine ae ?_
 refine ac h (dn [.pointer (some ⟨b1,0,none⟩)] (jE h rfl)) rfl ?_;intro f h
 refine ac h (ak (h.ev rfl)) rfl ?_;intro f h
 refine ah ?_
 refine hK2 _ _ ?_
 refine wpIn_ret ?_
 exact gv rfl h rfl (⟨_,rfl,b1,rfl,s⟩)
theorem eB (m:Nat) (hm:m≤1000) (vo:Value) (xs:List Value) (wr:World) (hV:bX wr vo 68 m xs) (lp bx:Nat) (q:Nat→Bool) (GG:Nat→Own→Prop) (g0:Own) (w0 w:World) (s:St w0 [.blk bx (.cells #[vo] 24),g0] w) (hg0:GG 0 g0) (hY:∀ (d:Nat) (B9:List Own) (w9:World) (i:Nat) (g:Own),d<m→(∀ j,j<d→q j=false)→GG d g→St w0 B9 w9→B9[i]? = some g→iu Tryz.prog lp [Value.pointer (some (a2 vo (d*68)))].toArray w9 (fun v w2=>v=.bool (!q d)∧∃ g',GG (d+1) g'∧St w0 (B9.set i g') w2)):Calls Tryz.prog 79 [.func (.yield lp) #[] #[],.pointer (some ⟨bx,0,none⟩)].toArray w (fun e w9=>(∃ v,e=.returned v)∧∃ d g,GG d g∧St w0 ([.blk bx (.cells #[vo] 24)]++[g]) w9∧d≤m∧(∀ j,j+1<d→q j=false)∧(lq q d=false→d=m)):=by
 refine eb Tryz.func79 rfl Tryz.ntmps79 rfl [(0,.func (.yield lp) #[] #[]),(1,.pointer (some ⟨bx,0,none⟩))] (by simp) fun f h=>?_
 refine al fun K1 hK1=>?_
 refine ae ?_
 refine ac h (ai cp (h.ev rfl)) rfl ?_;intro f h
 refine aq (V:=vo) (am (aL.of_own s 0 rfl) 0 rfl) h da rfl rfl ?_;intro f h
 refine ac h (a8 (hV) Tryz.underlying22 (h.ev rfl)) rfl ?_;intro f h
 refine ac h (ag (h.ev rfl)) rfl ?_;intro f h
 refine ah ?_
 refine hK1 _ _ ?_
 refine wpIn_block ?_
 refine wpIn_loop_ghost (fun nn aa ww=>∃ d:Nat,∃ gg:Own,Sl 18 aa [(0,.func (.yield lp) #[] #[]),(1,.pointer (some ⟨bx,0,none⟩)),(6,.int .i64 (m:Int)),(7,.int .i64 (d:Int))]∧St w0 [.blk bx (.cells (#[vo]) 24),(gg)] ww∧nn=m - d∧d≤m∧GG d gg∧∀ j,j<d→q j=false) (m - (0)) ⟨0,g0,h.only ⟨rfl,rfl,rfl,aO rfl (by omega),trivial⟩,s.as ⟨rfl,rfl,trivial⟩,rfl,Nat.zero_le _,hg0,fun j hj=>absurd hj (Nat.not_lt_zero _)⟩ ?_
 rintro _ f w1 ⟨d,gg,h,s,hnn,hp0,hp1,hp2⟩
 refine al fun K2 hK2=>?_
 refine ae ?_
 refine ac h (bS (h.ev rfl) (h.ev rfl)) rfl ?_;intro f h
 refine ah ?_
 refine hK2 _ _ ?_
 refine al fun K3 hK3=>?_
 refine bK h rfl (fun hc=>?_) (fun hc=>?_)
 ·replace hc:=of_decide_eq_true hc
  refine wpIn_skip ?_
  refine hK3 _ _ ?_
  refine al fun K4 hK4=>?_
  refine wpIn_block ?_
  refine al fun K5 hK5=>?_
  refine ae ?_
  have hdl:d<m:=by omega
  refine ac h (ag (h.ev rfl)) rfl ?_;intro f h
  refine ac h (ak (h.ev rfl)) rfl ?_;intro f h
  refine ah ?_
  refine hK5 _ _ ?_
  refine al fun K6 hK6=>?_
  cases hq:(q d:Bool)
  ·skip
   refine ae ?_
   refine ac h (ag (h.ev rfl)) rfl ?_;intro f h
   refine ac h (ai cp (h.ev rfl)) rfl ?_;intro f h
   refine aq (V:=vo) (am (aL.of_own s 0 rfl) 0 rfl) h da rfl rfl ?_;intro f h
   refine ac h (ag (h.ev rfl)) rfl ?_;intro f h
   refine ac h (cc (hV) (d) Tryz.underlying22 eA (h.ev rfl) (h.ev rfl) (by omega) (by omega)) rfl ?_;intro f h
   refine fh (V:=.bool true) (G:=GG (d+1)) [.pointer (some (a2 vo (d*68)))] 1 h rfl rfl (by have h9:=hY d _ _ 1 gg hdl hp2 hp1 s rfl;rw [hq] at h9;exact h9) rfl ?_;intro f w1 g1 hg1 h s
   refine ac h (aw (.bool false) (bB (h.ev rfl)) rfl) rfl ?_;intro f h
   refine ah ?_
   refine hK6 _ _ ?_
   refine wpIn_cond_false (h.ev rfl) ?_
   refine wpIn_skip ?_
   refine bF ?_
   refine hK4 _ _ ?_
   refine ae ?_
   refine ac h (ce (h.ev rfl) (h.ev rfl) (by omega)) rfl ?_;intro f h
   refine ac h (ag (h.ev rfl)) rfl ?_;intro f h
   refine ah ?_
   refine bT ?_
   exact ⟨_,by omega,⟨d+1,g1,h.only ⟨rfl,rfl,rfl,aO rfl (by omega),trivial⟩,St.as s ⟨rfl,rfl,trivial⟩,rfl,by omega,hg1,de hp2 hq⟩⟩
  ·skip
   refine ae ?_
   refine ac h (ag (h.ev rfl)) rfl ?_;intro f h
   refine ac h (ai cp (h.ev rfl)) rfl ?_;intro f h
   refine aq (V:=vo) (am (aL.of_own s 0 rfl) 0 rfl) h da rfl rfl ?_;intro f h
   refine ac h (ag (h.ev rfl)) rfl ?_;intro f h
   refine ac h (cc (hV) (d) Tryz.underlying22 eA (h.ev rfl) (h.ev rfl) (by omega) (by omega)) rfl ?_;intro f h
   refine fh (V:=.bool false) (G:=GG (d+1)) [.pointer (some (a2 vo (d*68)))] 1 h rfl rfl (by have h9:=hY d _ _ 1 gg hdl hp2 hp1 s rfl;rw [hq] at h9;exact h9) rfl ?_;intro f w1 g1 hg1 h s
   refine ac h (aw (.bool true) (bB (h.ev rfl)) rfl) rfl ?_;intro f h
   refine ah ?_
   refine hK6 _ _ ?_
   refine wpIn_cond_true (h.ev rfl) ?_
   refine wpIn_ret ?_
   refine bQ ?_
   refine aY ?_
   refine aY ?_
   refine bQ ?_
   exact jQ rfl h (⟨⟨_,rfl⟩,d+1,g1,hg1,s,by omega,fun j hj=>hp2 j (by omega),fun h9=>absurd (hq.symm.trans h9) (by decide)⟩)
 ·replace hc:=of_decide_eq_false hc
  refine wpIn_exit ?_
  refine bJ ?_
  refine bJ ?_
  refine cC ?_
  exact c4 rfl h (⟨⟨_,rfl⟩,d,gg,hp1,s,hp0,fun j hj=>hp2 j (by omega),fun _=>by omega⟩)
theorem eV (L:List N3) (vo:Value) (no:Int) (w:World) (hO:eN w vo L) (hL:L.length≤40):Calls Tryz.prog 35 [.agg #[vo],.int .i64 no].toArray w (cU w (is (qt vo L no))):=by
 refine d7 Tryz.func35 rfl Tryz.ntmps35 rfl [(0,.agg #[vo]),(1,.int .i64 no)] (by simp) fun f h=>?_
 have s:=St.start w
 refine al fun K1 hK1=>?_
 refine ae ?_
 refine bV (#[vo]) h s rfl rfl rfl ?_;intro f w1 b2 h s
 refine bV (#[.int .i64 no]) h s rfl rfl rfl ?_;intro f w1 b3 h s
 refine bf (#[.pointer none]) h s AF rfl rfl ?_;intro f w1 b4 h s
 refine ah ?_
 refine hK1 _ _ ?_
 refine al fun K2 hK2=>?_
 refine al fun K3 hK3=>?_
 refine ae ?_
 refine au 2 h s bk rfl rfl (rfl) rfl ?_;intro f h
 refine dl [.agg #[vo]] h kE (fk vo _ _ _ s) rfl rfl ?_;rintro f w1 r ⟨bn,rfl,s⟩ h
 refine ah ?_
 refine hK3 _ _ ?_
 refine wpIn_block ?_
 refine dW (fun d A9=>A9=[.blk b4 (.cells #[Cj vo (qL L no) d] 54),.blk b3 (.cells #[.int .i64 no] 3),.blk b2 (.cells #[vo] 24)]) [.blk b4 (.cells #[.pointer none] 54),.blk b3 (.cells #[.int .i64 no] 3),.blk b2 (.cells #[vo] 24)] [.blk bn (.cells #[vo] 24)] (L.length) (qL L no) (fun d=>[Value.pointer (some (a2 vo (d*68)))]) h s rfl kH (List.Perm.refl _) (rfl) (fun _=>rfl) ?_ ?_ ?_ ?_
 ·intro lp w2 GG g0 hg0 s2 hY;exact eB L.length (by omega) vo _ _ hO.1 lp bn (qL L no) GG g0 w w2 s2 hg0 hY
 ·intro lp D9 d9 rc R9 A9 w2 hd9 hq9 hJ9 s
  obtain rfl:=hJ9
  have h:=Sl.round1 (p:=8) (V:=.pointer (some (a2 vo (d9*68)))) h rfl
  have hdl9:=hd9
  refine ae ?_
  refine ac h (ak (h.ev rfl)) rfl ?_;intro f h
  refine ah ?_
  refine bT ?_
  refine ⟨_,s,fun w3 s=>?_⟩
  refine wpIn_block ?_
  refine al fun K4 hK4=>?_
  cases hq:(qL L no d9:Bool)
  ·skip
   refine bH 7 [[],[0],[0,1],[0,1,2],[0,1,2,3],[],[0,1,2,3,4,5]] h (by kernel_rfl) (by kernel_rfl) (by kernel_rfl) ?_
   refine ao h (ag (h.ev rfl)) rfl ?_;intro f h
   refine ao h (bz (h.ev rfl)) rfl ?_;intro f h
   refine ao h (bL aK (h.ev rfl) ((hO.1.keep s.ext).some (by omega))) rfl ?_;intro f h
   refine ao h (bL aH (h.ev rfl) ((hO.1.keep s.ext).some (by omega))) rfl ?_;intro f h
   refine aU (V:=.int .i64 (L.getD d9 z3).1.me.1) (ez (hO.1.keep s.ext) (d9*68+0) (ie L d9 hdl9)) h bw rfl rfl ?_;intro f h
   refine dq 3 h s bw rfl rfl (rfl) rfl ?_;intro f h
   refine ao h (aw (.bool false) (bU (h.ev rfl) (h.ev rfl)) (congrArg Value.bool hq)) rfl ?_;intro f h
   refine ck s fun w1 s=>?_
   refine ah ?_
   refine hK4 _ _ ?_
   refine wpIn_cond_false (h.ev rfl) ?_
   refine wpIn_skip ?_
   refine bF ?_
   replace s:=s.recell (D:=#[Cj vo (qL L no) (d9+1)]) 2 rfl (by rw [xU hq9];show _=#[bif qL L no d9 then _ else _];rw [hq];rfl)
   refine ⟨by first|exact hq|rfl,_,rfl,s.pick _ ?_⟩
   exact List.Sublist.cons_cons _ (List.Sublist.refl _)
  ·skip
   refine bH 7 [[],[0],[0,1],[0,1,2],[0,1,2,3],[],[0,1,2,3,4,5]] h (by kernel_rfl) (by kernel_rfl) (by kernel_rfl) ?_
   refine ao h (ag (h.ev rfl)) rfl ?_;intro f h
   refine ao h (bz (h.ev rfl)) rfl ?_;intro f h
   refine ao h (bL aK (h.ev rfl) ((hO.1.keep s.ext).some (by omega))) rfl ?_;intro f h
   refine ao h (bL aH (h.ev rfl) ((hO.1.keep s.ext).some (by omega))) rfl ?_;intro f h
   refine aU (V:=.int .i64 (L.getD d9 z3).1.me.1) (ez (hO.1.keep s.ext) (d9*68+0) (ie L d9 hdl9)) h bw rfl rfl ?_;intro f h
   refine dq 3 h s bw rfl rfl (rfl) rfl ?_;intro f h
   refine ao h (aw (.bool true) (bU (h.ev rfl) (h.ev rfl)) (congrArg Value.bool hq)) rfl ?_;intro f h
   refine ck s fun w1 s=>?_
   refine ah ?_
   refine hK4 _ _ ?_
   refine wpIn_cond_true (h.ev rfl) ?_
   refine al fun K5 hK5=>?_
   refine ae ?_
   refine ac h (ag (h.ev rfl)) rfl ?_;intro f h
   refine br 2 h s ge rfl rfl rfl (by simp) (rfl) ?_;intro w1 s
   refine ah ?_
   refine hK5 _ _ ?_
   refine wpIn_ret ?_
   refine bQ ?_
   replace s:=s.recell (D:=#[Cj vo (qL L no) (d9+1)]) 2 rfl (by show _=#[bif qL L no d9 then _ else _];rw [hq];rfl)
   refine ⟨by first|exact hq|rfl,_,rfl,s.pick _ ?_⟩
   exact List.Sublist.cons_cons _ (List.Sublist.refl _)
 ·intro D9 A9 w2 hJ9 hq9 s
  obtain rfl:=hJ9
  replace h:Sl _ {f with defers:={target:=.collected D9,args:=#[]}::f.defers} _ [{target:=.collected D9,args:=#[]}]:=⟨h.size,by rw [h.defers],h.holds⟩
  refine bF ?_
  refine hK2 _ _ ?_
  refine al fun K6 hK6=>?_
  refine ae ?_
  refine br 2 h s ge rfl rfl rfl (by simp) (rfl) ?_;intro w1 s
  refine ah ?_
  refine hK6 _ _ ?_
  refine wpIn_ret ?_
  exact fa 2 0 rfl h s ge rfl rfl rfl rfl rfl (fun w9=>(Cb hq9).symm)
 ·intro D9 d9 A9 w2 hd9 hqd9 hq9 hJ9 s
  obtain rfl:=hJ9
  replace h:Sl _ {f with defers:={target:=.collected D9,args:=#[]}::f.defers} _ [{target:=.collected D9,args:=#[]}]:=⟨h.size,by rw [h.defers],h.holds⟩
  refine bQ ?_
  refine aY ?_
  exact fa 2 0 rfl h s ge rfl rfl rfl rfl rfl (fun w9=>CI hd9 hq9 hqd9)
theorem j2 (L:List N3) (vo:Value) (w:World) (hO:eN w vo L) (hL:L.length≤40):Calls Tryz.prog 15 [.agg #[vo]].toArray w (cU w (fun v w'=>cS w' w.heap.size 28 33 v (aR L).length (ar (aR L)))):=by
 refine d7 Tryz.func15 rfl Tryz.ntmps15 rfl [(0,.agg #[vo])] (by simp) fun f h=>?_
 have s:=St.start w
 refine al fun K1 hK1=>?_
 refine ae ?_
 refine bV (#[vo]) h s rfl rfl rfl ?_;intro f w1 b1 h s
 refine ac h (ak (h.ev rfl)) rfl ?_;intro f h
 refine ah ?_
 refine hK1 _ _ ?_
 refine al fun K2 hK2=>?_
 refine ae ?_
 refine bf (#[.slice none 0 0]) h s qc rfl rfl ?_;intro f w1 b3 h s
 refine ah ?_
 refine hK2 _ _ ?_
 refine al fun K3 hK3=>?_
 refine al fun K4 hK4=>?_
 refine ae ?_
 refine au 1 h s bk rfl rfl (rfl) rfl ?_;intro f h
 replace s:=s.nilSl 28 33
 refine dl [.agg #[vo]] h kE (fk vo _ _ _ s) rfl rfl ?_;rintro f w1 r ⟨bn,rfl,s⟩ h
 refine ah ?_
 refine hK4 _ _ ?_
 refine wpIn_block ?_
 refine dW (fun d A9=>∃ v8:Value,A9=[.sl v8 28 33 (aR (L.take d)).length (ar (aR (L.take d))),.blk b3 (.cells #[v8] 36),.blk b1 (.cells #[vo] 24)]) [.sl (Value.slice none 0 0) 28 33 (aR (L.take 0)).length (ar (aR (L.take 0))),.blk b3 (.cells #[(Value.slice none 0 0)] 36),.blk b1 (.cells #[vo] 24)] [.blk bn (.cells #[vo] 24)] (L.length) (fun _=>false) (fun d=>[Value.pointer (some (a2 vo (d*68)))]) h s rfl kH (List.Perm.refl _) (⟨_,rfl⟩) (fun _=>rfl) ?_ ?_ ?_ ?_
 ·intro lp w2 GG g0 hg0 s2 hY;exact eB L.length (by omega) vo _ _ hO.1 lp bn (fun _=>false) GG g0 w w2 s2 hg0 hY
 ·intro lp D9 d9 rc R9 A9 w2 hd9 hq9 hJ9 s
  obtain ⟨v8,rfl⟩:=hJ9
  have h:=Sl.round1 (p:=7) (V:=.pointer (some (a2 vo (d9*68)))) h rfl
  have hdl9:=hd9
  refine ae ?_
  refine ac h (ak (h.ev rfl)) rfl ?_;intro f h
  refine ah ?_
  refine bT ?_
  refine ⟨_,s,fun w3 s=>?_⟩
  refine wpIn_block ?_
  have hbs:=s.ext.le
  refine' im 6 [1,2,3] [] [[],[],[1],[1,2],[1,2,3],[1,2,3,4],[0,1,2,3,4,5],[0,1,2,3,4,5,6]] (is _::is _::is _::is _::is _::(fun v w9=>bX w9 v 33 1 ((av (L.getD d9 z3).1.me).toList))::is undef::is undef::[]) (fun _=>True) h s (by kernel_rfl) (by kernel_rfl) (by kernel_rfl) (by kernel_rfl) rfl (fun _ _ h _=>h) (trivial) ⟨⟨_,rfl⟩,⟨_,rfl⟩,⟨_,rfl⟩,trivial⟩ ⟨aN _,aN _,aN _,aN _,aN _,bX.mono,aN _,aN _,trivial⟩ (And.intro ?_ (And.intro ?_ (And.intro ?_ (And.intro ?_ (And.intro ?_ (And.intro ?_ (And.intro ?_ (And.intro ?_ (trivial))))))))) ?_
  rotate_left 5
  ·refine bN 8 rfl (by decide) (by decide) ?_
   intro f9 w2 hE hs hd9 hl
   have e3:f9.tmps.getD 3 undef=_:=cL hl 3 (by kernel_rfl) (by kernel_rfl) (h.holds 3 _ rfl)
   have h:=aE [(3,_)] hs hd9 (holds_lk ⟨e3,trivial⟩)
   have s:=s.more hE
   have z:=St.start w2
   refine bR 3 h s bE rfl rfl (rfl) rfl ?_;intro f h
   refine ah ?_
   have e9:=h.holds 8 _ rfl
   refine ⟨?_,Ext.refl _,fun h9=>absurd h9 (by decide)⟩
   refine e9.trans ?_
   exact rfl
  ·refine dQ 9 rfl (by decide) ?_
   intro f9 w2 hE hs hl
   have e4:f9.tmps.getD 4 undef=_:=cL hl 4 (by kernel_rfl) (by kernel_rfl) (h.holds 4 _ rfl)
   have h:=aE [(4,_)] hs rfl (holds_lk ⟨e4,trivial⟩)
   refine ac h (ag (h.ev rfl)) rfl ?_;intro f h
   refine ah ?_
   have e9:=h.holds 9 _ rfl
   refine ⟨?_,rfl⟩
   refine e9.trans ?_
   exact rfl
  ·refine dQ 10 rfl (by decide) ?_
   intro f9 w2 hE hs hl
   have e9:f9.tmps.getD 9 undef=_:=bh hl 9 1 (by kernel_rfl) (by kernel_rfl)
   have h:=aE [(9,_)] hs rfl (holds_lk ⟨e9,trivial⟩)
   refine ac h (bz (h.ev rfl)) rfl ?_;intro f h
   refine ah ?_
   have e9:=h.holds 10 _ rfl
   refine ⟨?_,rfl⟩
   refine e9.trans ?_
   exact rfl
  ·refine dQ 11 rfl (by decide) ?_
   intro f9 w2 hE hs hl
   have e10:f9.tmps.getD 10 undef=_:=bh hl 10 2 (by kernel_rfl) (by kernel_rfl)
   have h:=aE [(10,_)] hs rfl (holds_lk ⟨e10,trivial⟩)
   refine ac h (bL aK (h.ev rfl) ((hO.1.keep s.ext).some (by omega))) rfl ?_;intro f h
   refine ah ?_
   have e9:=h.holds 11 _ rfl
   refine ⟨?_,rfl⟩
   refine e9.trans ?_
   exact rfl
  ·refine bN 12 rfl (by decide) (by decide) ?_
   intro f9 w2 hE hs hd9 hl
   have e11:f9.tmps.getD 11 undef=_:=bh hl 11 3 (by kernel_rfl) (by kernel_rfl)
   have h:=aE [(11,_)] hs hd9 (holds_lk ⟨e11,trivial⟩)
   have s:=s.more hE
   have z:=St.start w2
   refine ax (bX.elF (hO.1.keep s.ext) (d9) 0 33 (by omega) (by decide) (C:=ay (L.getD d9 z3).1.me (L.getD d9 z3).1.pr (L.getD d9 z3).2.1 (L.getD d9 z3).2.2) (df L d9 hdl9) (D:=av (L.getD d9 z3).1.me) (bj _ _ _ _)) h aC rfl (aj _) rfl ?_;intro f h
   refine ah ?_
   have e9:=h.holds 12 _ rfl
   refine ⟨?_,Ext.refl _,fun h9=>absurd h9 (by decide)⟩
   refine e9.trans ?_
   exact rfl
  ·refine bN 13 rfl (by decide) (by decide) ?_
   intro f9 w2 hE hs hd9 hl
   have e12:f9.tmps.getD 12 undef=_:=bh hl 12 4 (by kernel_rfl) (by kernel_rfl)
   have h:=aE [(12,_)] hs hd9 (holds_lk ⟨e12,trivial⟩)
   have s:=s.more hE
   have z:=St.start w2
   refine cm (vs:=[.agg (av (L.getD d9 z3).1.me)]) [.tmp 12] h z Tryz.underlying36 c8 rfl rfl (eI _) rfl rfl rfl ?_;intro f w1 v9 h z
   refine ah ?_
   exact Cw (h.holds 13 _ rfl) z _ (dh _)
  ·exact cG (by decide) (by decide)
  ·exact cG (by decide) (by decide)
  ·intro f9 w2 hE hs hd9 hWp hT hR hFr hDj
   obtain ⟨u13,hu13⟩:∃ v,f9.tmps.getD 13 undef=v:=⟨_,rfl⟩
   have e13:(fun v w9=>bX w9 v 33 1 ((av (L.getD d9 z3).1.me).toList)) u13 w2:=by rw [← hu13];exact hT 5 13 (by decide) rfl
   replace h:=sl_new (ops:=_) [(8,_),(9,_),(10,_),(11,_),(12,_),(13,u13)] h hs hd9 hR ⟨hT 0 8 (by decide) rfl,hT 1 9 (by decide) rfl,hT 2 10 (by decide) rfl,hT 3 11 (by decide) rfl,hT 4 12 (by decide) rfl,hu13,trivial⟩ (by kernel_rfl)
   replace s:=s.more hE
   clear hT hR hFr hDj
   refine fG.of ?_
   refine fj 2 (e13) h s Tryz.underlying36 c8 rfl rfl rfl (aS _) (by rw [List.length_map,List.length_take];unfold maxLen;omega) (by rw [List.length_map,List.length_take];omega) rfl ?_;intro f w1 v14 h s
   refine br 3 h s bE rfl rfl rfl (by simp) (aQ (s.getSl 2 rfl)) ?_;intro w1 s
   refine ah ?_
   refine bF ?_
   replace s:=s.resl (m:=(aR (L.take (d9+1))).length) (ys:=ar (aR (L.take (d9+1)))) 2 rfl (by rw [jW hdl9,List.length_append];rfl) (by rw [jW hdl9,gA])
   refine ⟨rfl,_,⟨v14,rfl⟩,s.pick _ ?_⟩
   exact List.Sublist.cons_cons _ (List.Sublist.refl _)
 ·intro D9 A9 w2 hJ9 hq9 s
  obtain ⟨v8,rfl⟩:=hJ9
  replace h:Sl _ {f with defers:={target:=.collected D9,args:=#[]}::f.defers} _ [{target:=.collected D9,args:=#[]}]:=⟨h.size,by rw [h.defers],h.holds⟩
  rw [List.take_length] at s
  refine bF ?_
  refine hK3 _ _ ?_
  refine al fun K5 hK5=>?_
  refine ae ?_
  refine bR 3 h s bE rfl rfl (rfl) rfl ?_;intro f h
  refine ac h (ak (h.ev rfl)) rfl ?_;intro f h
  refine ah ?_
  refine hK5 _ _ ?_
  refine wpIn_ret ?_
  exact mm 0 rfl h s rfl rfl (fun w9 s9=>s9.getSl 2 rfl)
 ·intro D9 d9 A9 w2 hd9 hqd9 hq9 hJ9 s
  cases hqd9
theorem q7 (a9:Option Addr) (n9 c9:Nat) (B9:List Own) (w0 w:World) (s:St w0 B9 w):Calls Tryz.prog 99 [.slice a9 n9 c9].toArray w (fun e w9=>∃ r,e=.returned r∧∃ bv,r=.func (.func 130) #[] #[.pointer (some ⟨bv,0,none⟩)]∧St w0 (.blk bv (.cells #[.slice a9 n9 c9] 36)::B9) w9):=by
 refine eb Tryz.func99 rfl Tryz.ntmps99 rfl [(0,.slice a9 n9 c9)] (by simp) fun f h=>?_
 refine al fun K1 hK1=>?_
 refine ae ?_
 refine bV (#[.slice a9 n9 c9]) h s rfl rfl rfl ?_;intro f w1 b1 h s
 refine ac h (ak (h.ev rfl)) rfl ?_;intro f h
 refine ah ?_
 refine hK1 _ _ ?_
 refine al fun K2 hK2=>?_
 refine ae ?_
 refine ac h (dn [.pointer (some ⟨b1,0,none⟩)] (jE h rfl)) rfl ?_;intro f h
 refine ac h (ak (h.ev rfl)) rfl ?_;intro f h
 refine ah ?_
 refine hK2 _ _ ?_
 refine wpIn_ret ?_
 exact gv rfl h rfl (⟨_,rfl,b1,rfl,s⟩)
theorem o7 (l:List Mb) (vh:Value) (B9:List Own) (w0 w:World) (s:St w0 B9 w) (hR:bX w vh 33 l.length (ar l)):Calls Tryz.prog 99 [vh].toArray w (fun e w9=>∃ r,e=.returned r∧∃ bv,r=.func (.func 130) #[] #[.pointer (some ⟨bv,0,none⟩)]∧St w0 (.blk bv (.cells #[vh] 36)::B9) w9):=by
 obtain ⟨a,c,rfl⟩:=hR.len
 exact q7 a _ c B9 w0 w s
theorem ji (l:List Mb) (hln:l.length≤1000) (vh:Value) (lp bx:Nat) (q:Nat→Bool) (GG:Nat→Own→Prop) (g0:Own) (w0 w:World) (s:St w0 [.blk bx (.cells #[vh] 36),.sl vh 28 33 l.length (ar l),g0] w) (hg0:GG 0 g0) (hY:∀ (d:Nat) (B9:List Own) (w9:World) (i:Nat) (g:Own),d<l.length→(∀ j,j<d→q j=false)→GG d g→St w0 B9 w9→B9[i]? = some g→iu Tryz.prog lp [Value.agg (av (l.getD d aZ))].toArray w9 (fun v w2=>v=.bool (!q d)∧∃ g',GG (d+1) g'∧St w0 (B9.set i g') w2)):Calls Tryz.prog 130 [.func (.yield lp) #[] #[],.pointer (some ⟨bx,0,none⟩)].toArray w (fun e w9=>(∃ v,e=.returned v)∧∃ d g,GG d g∧St w0 ([.blk bx (.cells #[vh] 36),.sl vh 28 33 l.length (ar l)]++[g]) w9∧d≤l.length∧(∀ j,j+1<d→q j=false)∧(lq q d=false→d=l.length)):=by
 refine eb Tryz.func130 rfl Tryz.ntmps130 rfl [(0,.func (.yield lp) #[] #[]),(1,.pointer (some ⟨bx,0,none⟩))] (by simp) fun f h=>?_
 refine al fun K1 hK1=>?_
 refine ae ?_
 refine bR 0 h s bE rfl rfl (rfl) rfl ?_;intro f h
 refine cT 1 h s Tryz.underlying36 rfl rfl rfl ?_;intro f h
 refine ac h (ag (h.ev rfl)) rfl ?_;intro f h
 refine ah ?_
 refine hK1 _ _ ?_
 refine wpIn_block ?_
 refine wpIn_loop_ghost (fun nn aa ww=>∃ d:Nat,∃ gg:Own,Sl 16 aa [(0,.func (.yield lp) #[] #[]),(1,.pointer (some ⟨bx,0,none⟩)),(5,vh),(6,.int .i64 (l.length:Int)),(7,.int .i64 (d:Int))]∧St w0 [.blk bx (.cells (#[vh]) 36),.sl vh 28 33 l.length (ar l),(gg)] ww∧nn=l.length - d∧d≤l.length∧GG d gg∧∀ j,j<d→q j=false) (l.length - (0)) ⟨0,g0,h.only ⟨rfl,rfl,rfl,rfl,aO rfl (by omega),trivial⟩,s.as ⟨rfl,rfl,rfl,trivial⟩,rfl,Nat.zero_le _,hg0,fun j hj=>absurd hj (Nat.not_lt_zero _)⟩ ?_
 rintro _ f w1 ⟨d,gg,h,s,hnn,hp0,hp1,hp2⟩
 refine al fun K2 hK2=>?_
 refine ae ?_
 refine ac h (bS (h.ev rfl) (h.ev rfl)) rfl ?_;intro f h
 refine ah ?_
 refine hK2 _ _ ?_
 refine al fun K3 hK3=>?_
 refine bK h rfl (fun hc=>?_) (fun hc=>?_)
 ·replace hc:=of_decide_eq_true hc
  refine wpIn_skip ?_
  refine hK3 _ _ ?_
  refine al fun K4 hK4=>?_
  refine wpIn_block ?_
  refine al fun K5 hK5=>?_
  refine ae ?_
  have hdl:d<l.length:=by omega
  refine ac h (cc (bX.of_own (s.getSl 1 rfl)) (d) Tryz.underlying36 cD (h.ev rfl) (h.ev rfl) (by omega) (by omega)) rfl ?_;intro f h
  refine ax ((bX.of_own (s.getSl 1 rfl)).el (d) (by omega) (by decide) (D:=av (l.getD d aZ)) (cI l d hdl)) h aC rfl (aj _) rfl ?_;intro f h
  refine bf (av aZ) h s cB rfl rfl ?_;intro f w1 b4 h s
  refine az 0 h s aC rfl rfl rfl (aj _) (aj _) (aS _) ?_;intro w1 s
  refine ah ?_
  refine hK5 _ _ ?_
  refine al fun K6 hK6=>?_
  cases hq:(q d:Bool)
  ·skip
   refine ae ?_
   refine ac h (ag (h.ev rfl)) rfl ?_;intro f h
   refine au 0 h s aC rfl rfl (aj _) rfl ?_;intro f h
   refine fh (V:=.bool true) (G:=GG (d+1)) [.agg (av (l.getD d aZ))] 3 h rfl rfl (by have h9:=hY d _ _ 3 gg hdl hp2 hp1 s rfl;rw [hq] at h9;exact h9) rfl ?_;intro f w1 g1 hg1 h s
   refine ac h (aw (.bool false) (bB (h.ev rfl)) rfl) rfl ?_;intro f h
   refine ah ?_
   refine hK6 _ _ ?_
   refine wpIn_cond_false (h.ev rfl) ?_
   refine wpIn_skip ?_
   refine bF ?_
   refine hK4 _ _ ?_
   refine ae ?_
   refine ac h (ce (h.ev rfl) (h.ev rfl) (by omega)) rfl ?_;intro f h
   refine ac h (ag (h.ev rfl)) rfl ?_;intro f h
   refine ah ?_
   refine bT ?_
   exact ⟨_,by omega,⟨d+1,g1,h.only ⟨rfl,rfl,rfl,rfl,aO rfl (by omega),trivial⟩,St.as (s.pick _ (List.sublist_append_right [_] _)) ⟨rfl,rfl,rfl,trivial⟩,rfl,by omega,hg1,de hp2 hq⟩⟩
  ·skip
   refine ae ?_
   refine ac h (ag (h.ev rfl)) rfl ?_;intro f h
   refine au 0 h s aC rfl rfl (aj _) rfl ?_;intro f h
   refine fh (V:=.bool false) (G:=GG (d+1)) [.agg (av (l.getD d aZ))] 3 h rfl rfl (by have h9:=hY d _ _ 3 gg hdl hp2 hp1 s rfl;rw [hq] at h9;exact h9) rfl ?_;intro f w1 g1 hg1 h s
   refine ac h (aw (.bool true) (bB (h.ev rfl)) rfl) rfl ?_;intro f h
   refine ah ?_
   refine hK6 _ _ ?_
   refine wpIn_cond_true (h.ev rfl) ?_
   refine wpIn_ret ?_
   refine bQ ?_
   refine aY ?_
   refine aY ?_
   refine bQ ?_
   exact jQ rfl h (⟨⟨_,rfl⟩,d+1,g1,hg1,s.pick _ (List.sublist_cons_self _ _),by omega,fun j hj=>hp2 j (by omega),fun h9=>absurd (hq.symm.trans h9) (by decide)⟩)
 ·replace hc:=of_decide_eq_false hc
  refine wpIn_exit ?_
  refine bJ ?_
  refine bJ ?_
  refine cC ?_
  exact c4 rfl h (⟨⟨_,rfl⟩,d,gg,hp1,s,hp0,fun j hj=>hp2 j (by omega),fun _=>by omega⟩)
theorem sS (n:Nat) (hn:n≤1000) (w:World):Calls Tryz.prog 131 [.slice none 0 0,.int .i64 (n:Int)].toArray w (cU w (fun v w'=>cS w' w.heap.size 28 33 v 0 [])):=by
 refine bq Tryz.func131 rfl Tryz.ntmps131 rfl [(0,.slice none 0 0),(1,.int .i64 (n:Int))] (by simp) fun f h=>?_
 have s:=St.start w
 refine al fun K1 hK1=>?_
 refine ae ?_
 refine ac h (ak (h.ev rfl)) rfl ?_;intro f h
 refine ah ?_
 refine hK1 _ _ ?_
 refine al fun K2 hK2=>?_
 refine al fun K3 hK3=>?_
 refine ae ?_
 refine ac h (ag (h.ev rfl)) rfl ?_;intro f h
 refine ac h (aw (.bool false) (bS (h.ev rfl) (h.ev rfl)) (congrArg Value.bool (decide_eq_false (by omega)))) rfl ?_;intro f h
 refine ah ?_
 refine hK3 _ _ ?_
 refine wpIn_cond_false (h.ev rfl) ?_
 refine wpIn_skip ?_
 refine hK2 _ _ ?_
 refine al fun K4 hK4=>?_
 refine al fun K5 hK5=>?_
 refine ae ?_
 refine ac h (ag (h.ev rfl)) rfl ?_;intro f h
 refine ac h (ag (h.ev rfl)) rfl ?_;intro f h
 refine ac h (lT Tryz.underlying36 (h.ev rfl)) rfl ?_;intro f h
 refine ac h (ag (h.ev rfl)) rfl ?_;intro f h
 refine ac h (lE Tryz.underlying36 (h.ev rfl)) rfl ?_;intro f h
 refine ac h (aw (.int .i64 0) (eS (h.ev rfl) (h.ev rfl) (by omega)) (rfl)) rfl ?_;intro f h
 refine ac h (aw (.int .i64 (n:Int)) (eS (h.ev rfl) (h.ev rfl) (by omega)) (congrArg (Value.int .i64) (by omega))) rfl ?_;intro f h
 refine ac h (ak (h.ev rfl)) rfl ?_;intro f h
 refine ah ?_
 refine hK5 _ _ ?_
 refine al fun K6 hK6=>?_
 refine ae ?_
 refine ac h (ag (h.ev rfl)) rfl ?_;intro f h
 refine ac h (cY (h.ev rfl) (h.ev rfl)) rfl ?_;intro f h
 refine ah ?_
 refine hK6 _ _ ?_
 refine bK h rfl (fun hc=>?_) (fun hc=>?_)
 ·replace hc:=of_decide_eq_true hc
  refine ae ?_
  refine ac h (ag (h.ev rfl)) rfl ?_;intro f h
  refine ac h (ag (h.ev rfl)) rfl ?_;intro f h
  refine ac h (lT Tryz.underlying36 (h.ev rfl)) rfl ?_;intro f h
  refine ac h (nZ Tryz.underlying36 cD (h.ev rfl) (h.ev rfl)) rfl ?_;intro f h
  refine ac h (ag (h.ev rfl)) rfl ?_;intro f h
  refine lX (n:=n) (base:=w.heap.size) h Tryz.underlying36 Tryz.underlying3 c8 rfl rfl (by omega) (by omega) (by omega) (Nat.le_refl _) rfl ?_;intro f w1 v22 xs9 h hE9 hO9
  replace s:=s.sl_new hE9 hO9
  refine ac h (ag (h.ev rfl)) rfl ?_;intro f h
  refine ac h (lE Tryz.underlying36 (h.ev rfl)) rfl ?_;intro f h
  refine ac h (mK hO9 Tryz.underlying36 cD (h.ev rfl) (h.ev rfl)) rfl ?_;intro f h
  refine ac h (ak (h.ev rfl)) rfl ?_;intro f h
  refine ah ?_
  refine hK4 _ _ ?_
  refine al fun K7 hK7=>?_
  refine ae ?_
  refine ac h (ag (h.ev rfl)) rfl ?_;intro f h
  refine ac h (ak (h.ev rfl)) rfl ?_;intro f h
  refine ah ?_
  refine hK7 _ _ ?_
  refine wpIn_ret ?_
  exact bo rfl h s rfl (hO9.cut0)
 ·replace hc:=of_decide_eq_false hc
  refine wpIn_skip ?_
  refine hK4 _ _ ?_
  refine al fun K8 hK8=>?_
  refine ae ?_
  refine ac h (ag (h.ev rfl)) rfl ?_;intro f h
  refine ac h (ak (h.ev rfl)) rfl ?_;intro f h
  refine ah ?_
  refine hK8 _ _ ?_
  refine wpIn_ret ?_
  exact bo rfl h s rfl (gh _ _ _ _)
theorem pV (vh:Value) (us:List Value) (ls:List (List Mb)) (hls:us.length=ls.length) (htot:ls.flatten.length≤1000) (hvn:us.length≤1000) (w:World) (hv:bX w vh 1 us.length us) (hr:∀ k,k<us.length→bX w (us.getD k undef) 33 (ls.getD k []).length (ar (ls.getD k []))):Calls Tryz.prog 100 [vh].toArray w (cU w (fun v w'=>cS w' w.heap.size 28 33 v ls.flatten.length (ar ls.flatten))):=by
 refine bq Tryz.func100 rfl Tryz.ntmps100 rfl [(0,vh)] (by simp) fun f h=>?_
 have s:=St.start w
 refine al fun K1 hK1=>?_
 refine ae ?_
 refine ac h (ak (h.ev rfl)) rfl ?_;intro f h
 refine ah ?_
 refine hK1 _ _ ?_
 refine al fun K2 hK2=>?_
 refine ae ?_
 refine ac h (ak (h.ev rfl)) rfl ?_;intro f h
 refine ah ?_
 refine hK2 _ _ ?_
 refine al fun K3 hK3=>?_
 refine al fun K4 hK4=>?_
 refine ae ?_
 refine ac h (ag (h.ev rfl)) rfl ?_;intro f h
 refine ac h (a8 (hv.keep s.ext) Tryz.underlying144 (h.ev rfl)) rfl ?_;intro f h
 refine ac h (ag (h.ev rfl)) rfl ?_;intro f h
 refine ah ?_
 refine hK4 _ _ ?_
 refine wpIn_block ?_
 refine wpIn_loop_ghost (fun nn aa ww=>∃ k:Nat,Sl 36 aa [(0,vh),(3,.int .i64 (((ls.take k).flatten.length:Nat):Int)),(9,vh),(10,.int .i64 (us.length:Int)),(11,.int .i64 (k:Int))]∧St w [] ww∧nn=us.length - k∧k≤us.length) (us.length - (0)) ⟨0,h.only ⟨rfl,aO rfl rfl,rfl,rfl,aO rfl (by omega),trivial⟩,s.as trivial,rfl,Nat.zero_le _⟩ ?_
 rintro _ f w1 ⟨k,h,s,hnn,hp0⟩
 refine al fun K5 hK5=>?_
 refine ae ?_
 refine ac h (bS (h.ev rfl) (h.ev rfl)) rfl ?_;intro f h
 refine ah ?_
 refine hK5 _ _ ?_
 refine al fun K6 hK6=>?_
 refine bK h rfl (fun hc=>?_) (fun hc=>?_)
 ·replace hc:=of_decide_eq_true hc
  refine wpIn_skip ?_
  refine hK6 _ _ ?_
  refine al fun K7 hK7=>?_
  refine wpIn_block ?_
  refine al fun K8 hK8=>?_
  refine ae ?_
  have hkl:k<us.length:=by omega
  refine ac h (cc (hv.keep s.ext) (k) Tryz.underlying144 Aj (h.ev rfl) (h.ev rfl) (by omega) (by omega)) rfl ?_;intro f h
  refine aq ((hv.keep s.ext).el1 (k) (V:=us.getD k undef) (rS hkl)) h bE rfl rfl ?_;intro f h
  refine ac h (ak (h.ev rfl)) rfl ?_;intro f h
  refine ah ?_
  refine hK8 _ _ ?_
  refine al fun K9 hK9=>?_
  refine ae ?_
  refine ac h (ag (h.ev rfl)) rfl ?_;intro f h
  refine ac h (ag (h.ev rfl)) rfl ?_;intro f h
  refine ac h (a8 ((hr k hkl).keep s.ext) Tryz.underlying36 (h.ev rfl)) rfl ?_;intro f h
  have hk1:=l5 ls k (by omega)
  have hk2:=ra ls (k+1)
  refine ac h (ce (h.ev rfl) (h.ev rfl) (by omega)) rfl ?_;intro f h
  refine ac h (ak (h.ev rfl)) rfl ?_;intro f h
  refine ah ?_
  refine hK9 _ _ ?_
  refine al fun K10 hK10=>?_
  refine ae ?_
  refine ac h (ag (h.ev rfl)) rfl ?_;intro f h
  refine ac h (aw (.bool false) (bS (h.ev rfl) (h.ev rfl)) (congrArg Value.bool (decide_eq_false (by omega)))) rfl ?_;intro f h
  refine ah ?_
  refine hK10 _ _ ?_
  refine wpIn_cond_false (h.ev rfl) ?_
  refine wpIn_skip ?_
  refine bF ?_
  refine hK7 _ _ ?_
  refine ae ?_
  refine ac h (ce (h.ev rfl) (h.ev rfl) (by omega)) rfl ?_;intro f h
  refine ac h (ag (h.ev rfl)) rfl ?_;intro f h
  refine ah ?_
  refine bT ?_
  exact ⟨_,by omega,⟨k+1,h.only ⟨rfl,aO rfl (by omega),rfl,rfl,aO rfl (by omega),trivial⟩,St.as s trivial,rfl,by omega⟩⟩
 ·replace hc:=of_decide_eq_false hc
  refine wpIn_exit ?_
  refine bJ ?_
  refine bJ ?_
  refine cC ?_
  refine hK3 _ _ ?_
  refine al fun K11 hK11=>?_
  refine ae ?_
  obtain rfl:k=us.length:=by omega
  refine ac h (aw (.int .i64 ((ls.flatten.length:Nat):Int)) (ag (h.ev rfl)) (by rw [hls,List.take_length])) rfl ?_;intro f h
  refine aI h s AR (sS ls.flatten.length (by omega) _) rfl rfl ?_;intro f w1 v24 hT hE h sq;replace s:=s.sl_new hE hT
  refine ac h (ak (h.ev rfl)) rfl ?_;intro f h
  refine ah ?_
  refine hK11 _ _ ?_
  refine al fun K12 hK12=>?_
  refine al fun K13 hK13=>?_
  refine ae ?_
  refine ac h (ag (h.ev rfl)) rfl ?_;intro f h
  refine ac h (a8 (hv.keep s.ext) Tryz.underlying144 (h.ev rfl)) rfl ?_;intro f h
  refine ac h (ag (h.ev rfl)) rfl ?_;intro f h
  refine ah ?_
  refine hK13 _ _ ?_
  refine wpIn_block ?_
  refine wpIn_loop_ghost (fun nn aa ww=>∃ i:Nat,∃ vb:Value,Sl 36 aa [(0,vh),(6,vb),(25,vh),(26,.int .i64 (us.length:Int)),(27,.int .i64 (i:Int))]∧St w [.sl vb 28 33 (ls.take i).flatten.length (ar (ls.take i).flatten)] ww∧nn=us.length - i∧i≤us.length) (us.length - (0)) ⟨0,v24,h.only ⟨rfl,rfl,rfl,rfl,aO rfl (by omega),trivial⟩,s.as ⟨gX rfl rfl,trivial⟩,rfl,Nat.zero_le _⟩ ?_
  rintro _ f w1 ⟨i,vb,h,s,hnn,hp0⟩
  refine al fun K14 hK14=>?_
  refine ae ?_
  refine ac h (bS (h.ev rfl) (h.ev rfl)) rfl ?_;intro f h
  refine ah ?_
  refine hK14 _ _ ?_
  refine al fun K15 hK15=>?_
  refine bK h rfl (fun hc=>?_) (fun hc=>?_)
  ·replace hc:=of_decide_eq_true hc
   refine wpIn_skip ?_
   refine hK15 _ _ ?_
   refine al fun K16 hK16=>?_
   refine wpIn_block ?_
   refine al fun K17 hK17=>?_
   refine ae ?_
   have hkl:i<us.length:=by omega
   have hk1:=l5 ls i (by omega)
   have hk2:=ra ls (i+1)
   refine ac h (cc (hv.keep s.ext) (i) Tryz.underlying144 Aj (h.ev rfl) (h.ev rfl) (by omega) (by omega)) rfl ?_;intro f h
   refine aq ((hv.keep s.ext).el1 (i) (V:=us.getD i undef) (rS hkl)) h bE rfl rfl ?_;intro f h
   refine ac h (ak (h.ev rfl)) rfl ?_;intro f h
   refine ah ?_
   refine hK17 _ _ ?_
   refine ae ?_
   refine ac h (ag (h.ev rfl)) rfl ?_;intro f h
   refine ac h (ag (h.ev rfl)) rfl ?_;intro f h
   refine fj 0 ((hr i hkl).keep s.ext) h s Tryz.underlying36 c8 rfl rfl rfl (eL _) (by unfold maxLen;omega) (by omega) rfl ?_;intro f w1 v33 h s
   refine ac h (ak (h.ev rfl)) rfl ?_;intro f h
   refine ah ?_
   refine bF ?_
   refine hK16 _ _ ?_
   refine ae ?_
   refine ac h (ce (h.ev rfl) (h.ev rfl) (by omega)) rfl ?_;intro f h
   refine ac h (ag (h.ev rfl)) rfl ?_;intro f h
   refine ah ?_
   refine bT ?_
   exact ⟨_,by omega,⟨i+1,v33,h.only ⟨rfl,rfl,rfl,rfl,aO rfl (by omega),trivial⟩,St.as s ⟨gX (l5 ls i (by omega)) (qU ls i (by omega)),trivial⟩,rfl,by omega⟩⟩
  ·replace hc:=of_decide_eq_false hc
   refine wpIn_exit ?_
   refine bJ ?_
   refine bJ ?_
   refine cC ?_
   refine hK12 _ _ ?_
   refine al fun K18 hK18=>?_
   refine ae ?_
   refine ac h (ag (h.ev rfl)) rfl ?_;intro f h
   refine ac h (ak (h.ev rfl)) rfl ?_;intro f h
   refine ah ?_
   refine hK18 _ _ ?_
   refine wpIn_ret ?_
   exact bo rfl h s rfl (pM (by omega) (s.getSl 0 rfl))
theorem jj (n:Nd) (vs vf:Value) (w:World) (hRs:bX w vs 33 n.sc.length (ar n.sc)) (hRf:bX w vf 33 n.fg.length (ar n.fg)) (hns:n.sc.length≤400) (hnf:n.fg.length≤400):Calls Tryz.prog 69 [.agg (ay n.me n.pr vs vf)].toArray w (cU w (fun v w9=>∃ bv vk,v=.func (.func 130) #[] #[.pointer (some ⟨bv,0,none⟩)]∧St w [.blk bv (.cells #[vk] 36),.sl vk 28 33 (aJ n).length (ar (aJ n))] w9)):=by
 refine bq Tryz.func69 rfl Tryz.ntmps69 rfl [(0,.agg (ay n.me n.pr vs vf))] (by simp) fun f h=>?_
 have s:=St.start w
 refine al fun K1 hK1=>?_
 refine ae ?_
 refine bV (ay n.me n.pr vs vf) h s rfl rfl rfl ?_;intro f w1 b1 h s
 refine ac h (ak (h.ev rfl)) rfl ?_;intro f h
 refine ah ?_
 refine hK1 _ _ ?_
 refine al fun K2 hK2=>?_
 refine ae ?_
 refine ac h (ai aV (h.ev rfl)) rfl ?_;intro f h
 refine ax (aL.subL (aL.of_own s 0 rfl) 33 33 (D:=av n.pr) (bc _ _ _ _)) h aC rfl (aj _) rfl ?_;intro f h
 refine cm (vs:=[.agg (av n.pr)]) [.tmp 4] h s Tryz.underlying36 c8 rfl rfl (eI _) rfl rfl rfl ?_;intro f w1 v5 h s
 replace s:=s.resl (m:=[n.pr].length) (ys:=ar [n.pr]) 0 rfl rfl (by rw [dh,cQ])
 refine ac h (ai bC (h.ev rfl)) rfl ?_;intro f h
 refine aq (V:=vs) (am (aL.of_own s 1 rfl) 66 (bA _ _ _ _)) h bE rfl rfl ?_;intro f h
 refine ac h (ai cP (h.ev rfl)) rfl ?_;intro f h
 refine aq (V:=vf) (am (aL.of_own s 1 rfl) 67 (cO _ _ _ _)) h bE rfl rfl ?_;intro f h
 refine cm (vs:=[v5,vs,vf]) [.tmp 5,.tmp 7,.tmp 9] h s Tryz.underlying144 CV rfl rfl (by intro v hv;simp only [List.mem_cons,List.not_mem_nil,or_false] at hv;rcases hv with rfl|rfl|rfl;exact n2 (bX.of_own (s.getSl 0 rfl));exact n2 hRs;exact n2 hRf) rfl rfl rfl ?_;intro f w1 v10 h s
 replace s:=s.resl (m:=3) (ys:=[v5,vs,vf]) 0 rfl rfl (by simp [lS (bX.of_own (s.getSl 1 rfl)),lS hRs,lS hRf])
 refine aI h s Br (pV v10 [v5,vs,vf] [[n.pr],n.sc,n.fg] rfl (by rw [jh];simp only [List.length_append,List.length_cons,List.length_nil];omega) (by show 3≤1000;omega) _ (bX.of_own (s.getSl 0 rfl)) (xn (bX.of_own (s.getSl 1 rfl)) (hRs.keep s.ext) (hRf.keep s.ext))) rfl rfl ?_;intro f w1 v11 hT hE h sq;replace s:=s.sl_new hE (hT.seq (m:=(aJ n).length) (ys:=ar (aJ n)) (by rw [jh];rfl) (by rw [jh];rfl))
 refine dl [v11] h zk (o7 (aJ n) v11 _ _ _ s (bX.of_own (s.getSl 0 rfl))) rfl rfl ?_;rintro f w1 r ⟨bv,rfl,s⟩ h
 refine ac h (ak (h.ev rfl)) rfl ?_;intro f h
 refine ah ?_
 refine hK2 _ _ ?_
 refine wpIn_ret ?_
 exact bo rfl h s rfl (⟨bv,v11,rfl,(s.sel [0,1] rfl (by decide))⟩)
theorem oN (m:Mb) (w:World):Calls Tryz.prog 78 [.agg (av m)].toArray w (cU w (fun v w9=>∃ bx,v=.func (.func 113) #[] #[.pointer (some ⟨bx,0,none⟩)]∧gZ w9 bx (av m))):=by
 refine bq Tryz.func78 rfl Tryz.ntmps78 rfl [(0,.agg (av m))] (by simp) fun f h=>?_
 have s:=St.start w
 refine al fun K1 hK1=>?_
 refine ae ?_
 refine bV ((av m)) h s rfl rfl rfl ?_;intro f w1 b1 h s
 refine ac h (ak (h.ev rfl)) rfl ?_;intro f h
 refine ah ?_
 refine hK1 _ _ ?_
 refine al fun K2 hK2=>?_
 refine ae ?_
 refine ac h (dn [.pointer (some ⟨b1,0,none⟩)] (jE h rfl)) rfl ?_;intro f h
 refine ac h (ak (h.ev rfl)) rfl ?_;intro f h
 refine ah ?_
 refine hK2 _ _ ?_
 refine wpIn_ret ?_
 exact bo rfl h s rfl (⟨b1,rfl,gZ.of_own s 0 rfl⟩)
theorem qB (x m:Mb) (bx:Nat) (w:World) (hb:gZ w bx (av m)):Calls Tryz.prog 113 [.agg (av x),.pointer (some ⟨bx,0,none⟩)].toArray w (cU w (is (.bool (gU m x)))):=by
 refine bq Tryz.func113 rfl Tryz.ntmps113 rfl [(0,.agg (av x)),(1,.pointer (some ⟨bx,0,none⟩))] (by simp) fun f h=>?_
 have s:=St.start w
 refine al fun K1 hK1=>?_
 refine ae ?_
 refine bV ((av x)) h s rfl rfl rfl ?_;intro f w1 b2 h s
 refine ac h (ak (h.ev rfl)) rfl ?_;intro f h
 refine ah ?_
 refine hK1 _ _ ?_
 refine al fun K2 hK2=>?_
 cases h0:(decide (x.1=m.1):Bool)
 ·skip
  refine ae ?_
  refine ac h (ai aH (h.ev rfl)) rfl ?_;intro f h
  refine aq (am (aL.of_own s 0 rfl) 0 (aP _)) h bw rfl rfl ?_;intro f h
  refine ac h (ai aH (h.ev rfl)) rfl ?_;intro f h
  refine aq (V:=.int .i64 m.1) (am (aL.of_tab (hb.keep s.ext)) 0 (aP _)) h bw rfl rfl ?_;intro f h
  refine ac h (aw (.bool false) (bU (h.ev rfl) (h.ev rfl)) (congrArg Value.bool h0)) rfl ?_;intro f h
  refine ac h (ag (h.ev rfl)) rfl ?_;intro f h
  refine aA h rfl rfl rfl ?_
  refine ac h (ai cj (h.ev rfl)) rfl ?_;intro f h
  refine aA h rfl rfl rfl ?_
  refine ax (aL.subL (aL.of_own s 0 rfl) 1 32 (D:=bO (_)) (cw _)) h cA rfl (by first|exact ba _|exact a6 _ _) rfl ?_;intro f h
  refine aA h rfl rfl rfl ?_
  refine ac h (ai cj (h.ev rfl)) rfl ?_;intro f h
  refine aA h rfl rfl rfl ?_
  refine ax (aL.subL (aL.of_tab (hb.keep s.ext)) 1 32 (D:=bO (_)) (cw _)) h cA rfl (by first|exact ba _|exact a6 _ _) rfl ?_;intro f h
  refine aA h rfl rfl rfl ?_
  refine ac h (dN g6 (h.ev rfl) (h.ev rfl)) rfl ?_;intro f h
  refine ac h (aF (h.ev rfl) (h.ev rfl)) rfl ?_;intro f h
  refine ac h (ak (h.ev rfl)) rfl ?_;intro f h
  refine ah ?_
  refine hK2 _ _ ?_
  refine wpIn_ret ?_
  exact bo rfl h s rfl (by show _=_;rw [n3 h0]<;>rfl)
 ·skip
  refine ae ?_
  refine ac h (ai aH (h.ev rfl)) rfl ?_;intro f h
  refine aq (am (aL.of_own s 0 rfl) 0 (aP _)) h bw rfl rfl ?_;intro f h
  refine ac h (ai aH (h.ev rfl)) rfl ?_;intro f h
  refine aq (V:=.int .i64 m.1) (am (aL.of_tab (hb.keep s.ext)) 0 (aP _)) h bw rfl rfl ?_;intro f h
  refine ac h (aw (.bool true) (bU (h.ev rfl) (h.ev rfl)) (congrArg Value.bool h0)) rfl ?_;intro f h
  refine ac h (ag (h.ev rfl)) rfl ?_;intro f h
  refine aB (b:=false) h rfl rfl rfl rfl ?_;intro f h
  refine aB (b:=false) h rfl rfl rfl rfl ?_;intro f h
  refine aB (b:=false) h rfl rfl rfl rfl ?_;intro f h
  refine aB (b:=false) h rfl rfl rfl rfl ?_;intro f h
  refine aB (b:=false) h rfl rfl rfl rfl ?_;intro f h
  refine ac h (aD (h.ev rfl) (h.ev rfl)) rfl ?_;intro f h
  refine ac h (ak (h.ev rfl)) rfl ?_;intro f h
  refine ah ?_
  refine hK2 _ _ ?_
  refine wpIn_ret ?_
  exact bo rfl h s rfl (by show _=_;rw [r8 h0]<;>rfl)
theorem gf (l:List Mb) (vh:Value) (w:World) (hR:bX w vh 33 l.length (ar l)) (hln:l.length≤1000):Calls Tryz.prog 45 [vh].toArray w (cU w (is (.bool (dd l)))):=by
 refine bq Tryz.func45 rfl Tryz.ntmps45 rfl [(0,vh)] (by simp) fun f h=>?_
 have s:=St.start w
 refine al fun K1 hK1=>?_
 refine ae ?_
 refine ac h (ak (h.ev rfl)) rfl ?_;intro f h
 refine ah ?_
 refine hK1 _ _ ?_
 refine al fun K2 hK2=>?_
 refine al fun K3 hK3=>?_
 refine ae ?_
 refine ac h (ag (h.ev rfl)) rfl ?_;intro f h
 refine ac h (a8 (hR.keep s.ext) Tryz.underlying36 (h.ev rfl)) rfl ?_;intro f h
 refine ac h (cY (h.ev rfl) (h.ev rfl)) rfl ?_;intro f h
 refine ah ?_
 refine hK3 _ _ ?_
 refine bK h rfl (fun hc=>?_) (fun hc=>?_)
 ·replace hc:=of_decide_eq_true hc
  refine al fun K4 hK4=>?_
  refine ae ?_
  refine ac h (ak (h.ev rfl)) rfl ?_;intro f h
  refine ah ?_
  refine hK4 _ _ ?_
  refine wpIn_ret ?_
  refine aY ?_
  exact bo rfl h s rfl (by show _=_;rw [kB (by omega)]<;>rfl)
 ·replace hc:=of_decide_eq_false hc
  have hl16:l.length≤16:=by omega
  refine wpIn_skip ?_
  refine hK2 _ _ ?_
  refine al fun K5 hK5=>?_
  refine al fun K6 hK6=>?_
  refine ae ?_
  refine ac h (ag (h.ev rfl)) rfl ?_;intro f h
  refine ac h (a8 (hR.keep s.ext) Tryz.underlying36 (h.ev rfl)) rfl ?_;intro f h
  refine ac h (ag (h.ev rfl)) rfl ?_;intro f h
  refine ah ?_
  refine hK6 _ _ ?_
  refine wpIn_block ?_
  refine wpIn_loop_ghost (fun nn aa ww=>∃ k:Nat,Sl 32 aa [(0,vh),(8,vh),(9,.int .i64 (l.length:Int)),(10,.int .i64 (k:Int))]∧St w [] ww∧nn=l.length - k∧k≤l.length∧∀ j,j<k→iz l j=false) (l.length - (0)) ⟨0,h.only ⟨rfl,rfl,rfl,aO rfl (by omega),trivial⟩,s.as trivial,rfl,Nat.zero_le _,fun j hj=>absurd hj (Nat.not_lt_zero _)⟩ ?_
  rintro _ f w1 ⟨k,h,s,hnn,hp0,hp1⟩
  refine al fun K7 hK7=>?_
  refine ae ?_
  refine ac h (bS (h.ev rfl) (h.ev rfl)) rfl ?_;intro f h
  refine ah ?_
  refine hK7 _ _ ?_
  refine al fun K8 hK8=>?_
  refine bK h rfl (fun hc=>?_) (fun hc=>?_)
  ·replace hc:=of_decide_eq_true hc
   refine wpIn_skip ?_
   refine hK8 _ _ ?_
   refine al fun K9 hK9=>?_
   refine wpIn_block ?_
   refine al fun K10 hK10=>?_
   refine ae ?_
   refine ac h (ag (h.ev rfl)) rfl ?_;intro f h
   have hkl:k<l.length:=by omega
   refine ac h (cc (hR.keep s.ext) (k) Tryz.underlying36 cD (h.ev rfl) (h.ev rfl) (by omega) (by omega)) rfl ?_;intro f h
   refine ax ((hR.keep s.ext).el (k) (by omega) (by decide) (D:=av (l.getD k aZ)) (cI l k hkl)) h aC rfl (aj _) rfl ?_;intro f h
   refine bf (av aZ) h s cB rfl rfl ?_;intro f w1 b4 h s
   refine ac h (ak (h.ev rfl)) rfl ?_;intro f h
   refine az 0 h s aC rfl rfl rfl (aj _) (aj _) (aS _) ?_;intro w1 s
   refine ah ?_
   refine hK10 _ _ ?_
   refine al fun K11 hK11=>?_
   cases k0:(decide ((l.getD k aZ).1<0):Bool)
   ·skip
    cases k1:(decide (16≤(l.getD k aZ).1):Bool)
    ·skip
     have hbs:=s.ext.le
     refine' im 14 [0] [] [[],[0],[0,1],[0,1,2],[0,1,2,3],[0,1,2,3,4],[0,1,2,3,4,5],[0,1,2,3,4,5,6],[0,1,2,3,4,5,6,7],[0,1,2,3,4,5,6,7,8],[0,1,2,3,4,5,6,7,8],[0,1,2,3,4,5,6,7,8,9,10],[0,1,2,3,4,5,6,7,8],[0,1,2,3,4,5,6,7,8,12],[0,1,2,3,4,5,6,7,8,9,10,11,12,13],[0,1,2,3,4,5,6,7,8,9,10,11,12,13,14]] (is _::is _::is _::is _::is _::is _::is _::is _::is _::is _::is _::is _::is _::(fun v w9=>∃ bx,v=.func (.func 113) #[] #[.pointer (some ⟨bx,0,none⟩)]∧gZ w9 bx (av (l.getD k aZ)))::is undef::is undef::[]) (fun _=>True) h s (by kernel_rfl) (by kernel_rfl) (by kernel_rfl) (by kernel_rfl) rfl (fun _ _ h _=>h) (trivial) ⟨⟨_,rfl⟩,trivial⟩ ⟨aN _,aN _,aN _,aN _,aN _,aN _,aN _,aN _,aN _,aN _,aN _,aN _,aN _,fun _ _ _ h9 hE=>by obtain ⟨bx,h1,h2⟩:=h9;exact ⟨bx,h1,h2.keep hE⟩,aN _,aN _,trivial⟩ (And.intro ?_ (And.intro ?_ (And.intro ?_ (And.intro ?_ (And.intro ?_ (And.intro ?_ (And.intro ?_ (And.intro ?_ (And.intro ?_ (And.intro ?_ (And.intro ?_ (And.intro ?_ (And.intro ?_ (And.intro ?_ (And.intro ?_ (And.intro ?_ (trivial))))))))))))))))) ?_
     rotate_left 13
     ·refine dQ 15 rfl (by decide) ?_
      intro f9 w2 hE hs hl
      have e4:f9.tmps.getD 4 undef=_:=cL hl 4 (by kernel_rfl) (by kernel_rfl) (h.holds 4 _ rfl)
      have h:=aE [(4,_)] hs rfl (holds_lk ⟨e4,trivial⟩)
      refine ac h (ai aH (h.ev rfl)) rfl ?_;intro f h
      refine ah ?_
      have e9:=h.holds 15 _ rfl
      refine ⟨?_,rfl⟩
      refine e9.trans ?_
      exact rfl
     ·refine bN 16 rfl (by decide) (by decide) ?_
      intro f9 w2 hE hs hd9 hl
      have e15:f9.tmps.getD 15 undef=_:=bh hl 15 0 (by kernel_rfl) (by kernel_rfl)
      have h:=aE [(15,_)] hs hd9 (holds_lk ⟨e15,trivial⟩)
      have s:=s.more hE
      have z:=St.start w2
      refine aq (am (aL.of_own s 0 rfl) 0 (aP _)) h bw rfl rfl ?_;intro f h
      refine ah ?_
      have e9:=h.holds 16 _ rfl
      refine ⟨?_,Ext.refl _,fun h9=>absurd h9 (by decide)⟩
      refine e9.trans ?_
      exact rfl
     ·refine bN 17 rfl (by decide) (by decide) ?_
      intro f9 w2 hE hs hd9 hl
      have e16:f9.tmps.getD 16 undef=_:=bh hl 16 1 (by kernel_rfl) (by kernel_rfl)
      have h:=aE [(16,_)] hs hd9 (holds_lk ⟨e16,trivial⟩)
      have s:=s.more hE
      have z:=St.start w2
      refine ac h (aw (.bool false) (bS (h.ev rfl) (h.ev rfl)) (congrArg Value.bool k0)) rfl ?_;intro f h
      refine ah ?_
      have e9:=h.holds 17 _ rfl
      refine ⟨?_,Ext.refl _,fun h9=>absurd h9 (by decide)⟩
      refine e9.trans ?_
      exact rfl
     ·refine bN 18 rfl (by decide) (by decide) ?_
      intro f9 w2 hE hs hd9 hl
      have e17:f9.tmps.getD 17 undef=_:=bh hl 17 2 (by kernel_rfl) (by kernel_rfl)
      have h:=aE [(17,_)] hs hd9 (holds_lk ⟨e17,trivial⟩)
      have s:=s.more hE
      have z:=St.start w2
      refine ac h (ag (h.ev rfl)) rfl ?_;intro f h
      refine ah ?_
      have e9:=h.holds 18 _ rfl
      refine ⟨?_,Ext.refl _,fun h9=>absurd h9 (by decide)⟩
      refine e9.trans ?_
      exact rfl
     ·refine bN 19 rfl (by decide) (by decide) ?_
      intro f9 w2 hE hs hd9 hl
      have e4:f9.tmps.getD 4 undef=_:=cL hl 4 (by kernel_rfl) (by kernel_rfl) (h.holds 4 _ rfl)
      have e18:f9.tmps.getD 18 undef=_:=bh hl 18 3 (by kernel_rfl) (by kernel_rfl)
      have h:=aE [(4,_),(18,_)] hs hd9 (holds_lk ⟨e4,e18,trivial⟩)
      have s:=s.more hE
      have z:=St.start w2
      refine aA h rfl rfl rfl ?_
      refine ac h (ai aH (h.ev rfl)) rfl ?_;intro f h
      refine ah ?_
      have e9:=h.holds 19 _ rfl
      refine ⟨?_,Ext.refl _,fun h9=>absurd h9 (by decide)⟩
      refine e9.trans ?_
      exact rfl
     ·refine bN 20 rfl (by decide) (by decide) ?_
      intro f9 w2 hE hs hd9 hl
      have e19:f9.tmps.getD 19 undef=_:=bh hl 19 4 (by kernel_rfl) (by kernel_rfl)
      have e18:f9.tmps.getD 18 undef=_:=bh hl 18 3 (by kernel_rfl) (by kernel_rfl)
      have h:=aE [(19,_),(18,_)] hs hd9 (holds_lk ⟨e19,e18,trivial⟩)
      have s:=s.more hE
      have z:=St.start w2
      refine aA h rfl rfl rfl ?_
      refine aq (am (aL.of_own s 0 rfl) 0 (aP _)) h bw rfl rfl ?_;intro f h
      refine ah ?_
      have e9:=h.holds 20 _ rfl
      refine ⟨?_,Ext.refl _,fun h9=>absurd h9 (by decide)⟩
      refine e9.trans ?_
      exact rfl
     ·refine bN 21 rfl (by decide) (by decide) ?_
      intro f9 w2 hE hs hd9 hl
      have e20:f9.tmps.getD 20 undef=_:=bh hl 20 5 (by kernel_rfl) (by kernel_rfl)
      have e18:f9.tmps.getD 18 undef=_:=bh hl 18 3 (by kernel_rfl) (by kernel_rfl)
      have h:=aE [(20,_),(18,_)] hs hd9 (holds_lk ⟨e20,e18,trivial⟩)
      have s:=s.more hE
      have z:=St.start w2
      refine aA h rfl rfl rfl ?_
      refine ac h (aw (.bool false) (dm (h.ev rfl) (h.ev rfl)) (congrArg Value.bool k1)) rfl ?_;intro f h
      refine ah ?_
      have e9:=h.holds 21 _ rfl
      refine ⟨?_,Ext.refl _,fun h9=>absurd h9 (by decide)⟩
      refine e9.trans ?_
      exact rfl
     ·refine bN 22 rfl (by decide) (by decide) ?_
      intro f9 w2 hE hs hd9 hl
      have e18:f9.tmps.getD 18 undef=_:=bh hl 18 3 (by kernel_rfl) (by kernel_rfl)
      have e21:f9.tmps.getD 21 undef=_:=bh hl 21 6 (by kernel_rfl) (by kernel_rfl)
      have h:=aE [(18,_),(21,_)] hs hd9 (holds_lk ⟨e18,e21,trivial⟩)
      have s:=s.more hE
      have z:=St.start w2
      refine ac h (aF (h.ev rfl) (h.ev rfl)) rfl ?_;intro f h
      refine ah ?_
      have e9:=h.holds 22 _ rfl
      refine ⟨?_,Ext.refl _,fun h9=>absurd h9 (by decide)⟩
      refine e9.trans ?_
      exact rfl
     ·refine bN 23 rfl (by decide) (by decide) ?_
      intro f9 w2 hE hs hd9 hl
      have e22:f9.tmps.getD 22 undef=_:=bh hl 22 7 (by kernel_rfl) (by kernel_rfl)
      have h:=aE [(22,_)] hs hd9 (holds_lk ⟨e22,trivial⟩)
      have s:=s.more hE
      have z:=St.start w2
      refine ac h (ag (h.ev rfl)) rfl ?_;intro f h
      refine ah ?_
      have e9:=h.holds 23 _ rfl
      refine ⟨?_,Ext.refl _,fun h9=>absurd h9 (by decide)⟩
      refine e9.trans ?_
      exact rfl
     ·refine bN 24 rfl (by decide) (by decide) ?_
      intro f9 w2 hE hs hd9 hl
      have e0:f9.tmps.getD 0 undef=_:=cL hl 0 (by kernel_rfl) (by kernel_rfl) (h.holds 0 _ rfl)
      have e23:f9.tmps.getD 23 undef=_:=bh hl 23 8 (by kernel_rfl) (by kernel_rfl)
      have h:=aE [(0,_),(23,_)] hs hd9 (holds_lk ⟨e0,e23,trivial⟩)
      have s:=s.more hE
      have z:=St.start w2
      refine aA h rfl rfl rfl ?_
      refine ac h (ag (h.ev rfl)) rfl ?_;intro f h
      refine ah ?_
      have e9:=h.holds 24 _ rfl
      refine ⟨?_,Ext.refl _,fun h9=>absurd h9 (by decide)⟩
      refine e9.trans ?_
      exact rfl
     ·refine bN 25 rfl (by decide) (by decide) ?_
      intro f9 w2 hE hs hd9 hl
      have e3:f9.tmps.getD 3 undef=_:=cL hl 3 (by kernel_rfl) (by kernel_rfl) (h.holds 3 _ rfl)
      have e23:f9.tmps.getD 23 undef=_:=bh hl 23 8 (by kernel_rfl) (by kernel_rfl)
      have h:=aE [(3,_),(23,_)] hs hd9 (holds_lk ⟨e3,e23,trivial⟩)
      have s:=s.more hE
      have z:=St.start w2
      refine aA h rfl rfl rfl ?_
      refine ac h (ag (h.ev rfl)) rfl ?_;intro f h
      refine ah ?_
      have e9:=h.holds 25 _ rfl
      refine ⟨?_,Ext.refl _,fun h9=>absurd h9 (by decide)⟩
      refine e9.trans ?_
      exact rfl
     ·refine bN 26 rfl (by decide) (by decide) ?_
      intro f9 w2 hE hs hd9 hl
      have e24:f9.tmps.getD 24 undef=_:=bh hl 24 9 (by kernel_rfl) (by kernel_rfl)
      have e25:f9.tmps.getD 25 undef=_:=bh hl 25 10 (by kernel_rfl) (by kernel_rfl)
      have e23:f9.tmps.getD 23 undef=_:=bh hl 23 8 (by kernel_rfl) (by kernel_rfl)
      have h:=aE [(24,_),(25,_),(23,_)] hs hd9 (holds_lk ⟨e24,e25,e23,trivial⟩)
      have s:=s.more hE
      have z:=St.start w2
      refine aA h rfl rfl rfl ?_
      refine ac h (dG (hR.keep s.ext) (k) Tryz.underlying36 cD (h.ev rfl) (h.ev rfl) (rfl) (by omega)) rfl ?_;intro f h
      refine ah ?_
      have e9:=h.holds 26 _ rfl
      refine ⟨?_,Ext.refl _,fun h9=>absurd h9 (by decide)⟩
      refine e9.trans ?_
      exact rfl
     ·refine bN 27 rfl (by decide) (by decide) ?_
      intro f9 w2 hE hs hd9 hl
      have e4:f9.tmps.getD 4 undef=_:=cL hl 4 (by kernel_rfl) (by kernel_rfl) (h.holds 4 _ rfl)
      have e23:f9.tmps.getD 23 undef=_:=bh hl 23 8 (by kernel_rfl) (by kernel_rfl)
      have h:=aE [(4,_),(23,_)] hs hd9 (holds_lk ⟨e4,e23,trivial⟩)
      have s:=s.more hE
      have z:=St.start w2
      refine aA h rfl rfl rfl ?_
      refine au 0 h s aC rfl rfl (aj _) rfl ?_;intro f h
      refine ah ?_
      have e9:=h.holds 27 _ rfl
      refine ⟨?_,Ext.refl _,fun h9=>absurd h9 (by decide)⟩
      refine e9.trans ?_
      exact rfl
     ·refine bN 28 rfl (by decide) (by decide) ?_
      intro f9 w2 hE hs hd9 hl
      have e27:f9.tmps.getD 27 undef=_:=bh hl 27 12 (by kernel_rfl) (by kernel_rfl)
      have e23:f9.tmps.getD 23 undef=_:=bh hl 23 8 (by kernel_rfl) (by kernel_rfl)
      have h:=aE [(27,_),(23,_)] hs hd9 (holds_lk ⟨e27,e23,trivial⟩)
      have s:=s.more hE
      have z:=St.start w2
      refine aA h rfl rfl rfl ?_
      refine aI h s B3 (oN _ _) rfl rfl ?_;intro f w3 v3 hT9 hE3 h s
      refine ah ?_
      exact ⟨by rw [h.holds 28 _ rfl];exact hT9,hE3,fun h9=>absurd h9 (by decide)⟩
     ·exact cG (by decide) (by decide)
     ·exact cG (by decide) (by decide)
     ·intro f9 w2 hE hs hd9 hWp hT hR hFr hDj
      obtain ⟨u28,hu28⟩:∃ v,f9.tmps.getD 28 undef=v:=⟨_,rfl⟩
      have e28:(fun v w9=>∃ bx,v=.func (.func 113) #[] #[.pointer (some ⟨bx,0,none⟩)]∧gZ w9 bx (av (l.getD k aZ))) u28 w2:=by rw [← hu28];exact hT 13 28 (by decide) rfl
      replace h:=sl_new (ops:=_) [(15,_),(16,_),(17,_),(18,_),(19,_),(20,_),(21,_),(22,_),(23,_),(24,_),(25,_),(26,_),(27,_),(28,u28)] h hs hd9 hR ⟨hT 0 15 (by decide) rfl,hT 1 16 (by decide) rfl,hT 2 17 (by decide) rfl,hT 3 18 (by decide) rfl,hT 4 19 (by decide) rfl,hT 5 20 (by decide) rfl,hT 6 21 (by decide) rfl,hT 7 22 (by decide) rfl,hT 8 23 (by decide) rfl,hT 9 24 (by decide) rfl,hT 10 25 (by decide) rfl,hT 11 26 (by decide) rfl,hT 12 27 (by decide) rfl,hu28,trivial⟩ (by kernel_rfl)
      replace s:=s.more hE
      clear hT hR hFr hDj
      refine fG.of ?_
      refine aA h rfl rfl rfl ?_
      obtain ⟨bx,hbx0,hbx⟩:=e28;subst hbx0
      refine aI h s zw (i1 (l.take k) (gn vh k) 113 [.pointer (some ⟨bx,0,none⟩)] (gU (l.getD k aZ)) _ (fc (hR.keep s.ext) k (by omega)) (by rw [List.length_take];omega) A3 (fun w9 h9 x hx=>qB x _ bx w9 (hbx.keep h9))) rfl rfl ?_;intro f w1 v9 hT hE h s;obtain rfl:=hT
      refine ac h (aF (h.ev rfl) (h.ev rfl)) rfl ?_;intro f h
      refine ah ?_
      refine hK11 _ _ ?_
      refine bK h rfl (fun hc=>?_) (fun hc=>?_)
      ·refine al fun K12 hK12=>?_
       refine ae ?_
       refine ac h (ak (h.ev rfl)) rfl ?_;intro f h
       refine ah ?_
       refine hK12 _ _ ?_
       refine wpIn_ret ?_
       refine bQ ?_
       refine aY ?_
       refine aY ?_
       refine bQ ?_
       refine aY ?_
       exact bo rfl h s rfl (by show _=_;rw [ee hkl ((l7 k0 k1).trans hc)]<;>rfl)
      ·refine wpIn_skip ?_
       refine bF ?_
       refine hK9 _ _ ?_
       refine ae ?_
       refine ac h (ce (h.ev rfl) (h.ev rfl) (by omega)) rfl ?_;intro f h
       refine ac h (ag (h.ev rfl)) rfl ?_;intro f h
       refine ah ?_
       refine bT ?_
       have hb9:iz l k=false:=(l7 k0 k1).trans hc
       exact ⟨_,by omega,⟨k+1,h.only ⟨rfl,rfl,rfl,aO rfl (by omega),trivial⟩,St.as (s.pick _ (List.sublist_append_right [_] _)) trivial,rfl,by omega,de hp1 hb9⟩⟩
    ·skip
     refine bH 16 [[],[0],[0,1],[0,1,2],[0,1,2,3],[0,1,2,3,4],[0,1,2,3,4,5],[0,1,2,3,4,5,6],[0,1,2,3,4,5,6,7],[0,1,2,3,4,5,6,7,8],[0,1,2,3,4,5,6,7,8],[0,1,2,3,4,5,6,7,8,9,10],[0,1,2,3,4,5,6,7,8],[0,1,2,3,4,5,6,7,8,12],[0,1,2,3,4,5,6,7,8,9,10,11,12,13],[0,1,2,3,4,5,6,7,8,9,10,11,12,13,14]] h (by kernel_rfl) (by kernel_rfl) (by kernel_rfl) ?_
     refine ao h (ai aH (h.ev rfl)) rfl ?_;intro f h
     refine aU (am (aL.of_own s 0 rfl) 0 (aP _)) h bw rfl rfl ?_;intro f h
     refine ao h (aw (.bool false) (bS (h.ev rfl) (h.ev rfl)) (congrArg Value.bool k0)) rfl ?_;intro f h
     refine ao h (ag (h.ev rfl)) rfl ?_;intro f h
     refine aT h rfl rfl rfl ?_
     refine ao h (ai aH (h.ev rfl)) rfl ?_;intro f h
     refine aT h rfl rfl rfl ?_
     refine aU (am (aL.of_own s 0 rfl) 0 (aP _)) h bw rfl rfl ?_;intro f h
     refine aT h rfl rfl rfl ?_
     refine ao h (aw (.bool true) (dm (h.ev rfl) (h.ev rfl)) (congrArg Value.bool k1)) rfl ?_;intro f h
     refine ao h (aF (h.ev rfl) (h.ev rfl)) rfl ?_;intro f h
     refine ao h (ag (h.ev rfl)) rfl ?_;intro f h
     refine aX (b:=false) h rfl rfl rfl rfl ?_;intro f h
     refine aX (b:=false) h rfl rfl rfl rfl ?_;intro f h
     refine aX (b:=false) h rfl rfl rfl rfl ?_;intro f h
     refine aX (b:=false) h rfl rfl rfl rfl ?_;intro f h
     refine aX (b:=false) h rfl rfl rfl rfl ?_;intro f h
     refine aX (b:=false) h rfl rfl rfl rfl ?_;intro f h
     refine ao h (aD (h.ev rfl) (h.ev rfl)) rfl ?_;intro f h
     refine ck s fun w1 s=>?_
     refine ah ?_
     refine hK11 _ _ ?_
     refine wpIn_cond_true (h.ev rfl) ?_
     refine al fun K13 hK13=>?_
     refine ae ?_
     refine ac h (ak (h.ev rfl)) rfl ?_;intro f h
     refine ah ?_
     refine hK13 _ _ ?_
     refine wpIn_ret ?_
     refine bQ ?_
     refine aY ?_
     refine aY ?_
     refine bQ ?_
     refine aY ?_
     exact bo rfl h s rfl (by show _=_;rw [ee hkl (vD k1)]<;>rfl)
   ·skip
    refine bH 16 [[],[0],[0,1],[0,1,2],[0,1,2,3],[0,1,2,3,4],[0,1,2,3,4,5],[0,1,2,3,4,5,6],[0,1,2,3,4,5,6,7],[0,1,2,3,4,5,6,7,8],[0,1,2,3,4,5,6,7,8],[0,1,2,3,4,5,6,7,8,9,10],[0,1,2,3,4,5,6,7,8],[0,1,2,3,4,5,6,7,8,12],[0,1,2,3,4,5,6,7,8,9,10,11,12,13],[0,1,2,3,4,5,6,7,8,9,10,11,12,13,14]] h (by kernel_rfl) (by kernel_rfl) (by kernel_rfl) ?_
    refine ao h (ai aH (h.ev rfl)) rfl ?_;intro f h
    refine aU (am (aL.of_own s 0 rfl) 0 (aP _)) h bw rfl rfl ?_;intro f h
    refine ao h (aw (.bool true) (bS (h.ev rfl) (h.ev rfl)) (congrArg Value.bool k0)) rfl ?_;intro f h
    refine ao h (ag (h.ev rfl)) rfl ?_;intro f h
    refine aX (b:=false) h rfl rfl rfl rfl ?_;intro f h
    refine aX (b:=false) h rfl rfl rfl rfl ?_;intro f h
    refine aX (b:=false) h rfl rfl rfl rfl ?_;intro f h
    refine ao h (aD (h.ev rfl) (h.ev rfl)) rfl ?_;intro f h
    refine ao h (ag (h.ev rfl)) rfl ?_;intro f h
    refine aX (b:=false) h rfl rfl rfl rfl ?_;intro f h
    refine aX (b:=false) h rfl rfl rfl rfl ?_;intro f h
    refine aX (b:=false) h rfl rfl rfl rfl ?_;intro f h
    refine aX (b:=false) h rfl rfl rfl rfl ?_;intro f h
    refine aX (b:=false) h rfl rfl rfl rfl ?_;intro f h
    refine aX (b:=false) h rfl rfl rfl rfl ?_;intro f h
    refine ao h (aD (h.ev rfl) (h.ev rfl)) rfl ?_;intro f h
    refine ck s fun w1 s=>?_
    refine ah ?_
    refine hK11 _ _ ?_
    refine wpIn_cond_true (h.ev rfl) ?_
    refine al fun K14 hK14=>?_
    refine ae ?_
    refine ac h (ak (h.ev rfl)) rfl ?_;intro f h
    refine ah ?_
    refine hK14 _ _ ?_
    refine wpIn_ret ?_
    refine bQ ?_
    refine aY ?_
    refine aY ?_
    refine bQ ?_
    refine aY ?_
    exact bo rfl h s rfl (by show _=_;rw [ee hkl (xk k0)]<;>rfl)
  ·replace hc:=of_decide_eq_false hc
   refine wpIn_exit ?_
   refine bJ ?_
   refine bJ ?_
   refine cC ?_
   refine hK5 _ _ ?_
   refine al fun K15 hK15=>?_
   refine ae ?_
   refine ac h (ak (h.ev rfl)) rfl ?_;intro f h
   refine ah ?_
   refine hK15 _ _ ?_
   refine wpIn_ret ?_
   exact bo rfl h s rfl (by show _=_;rw [kL hl16 (fun j hj=>hp1 j (by omega))]<;>rfl)
theorem nb (n:Nd) (vs vf:Value) (L:List N3) (vo:Value) (w:World) (hRs:bX w vs 33 n.sc.length (ar n.sc)) (hRf:bX w vf 33 n.fg.length (ar n.fg)) (hns:n.sc.length≤400) (hnf:n.fg.length≤400) (hO:eN w vo L) (hL:L.length≤40):Calls Tryz.prog 49 [.agg (ay n.me n.pr vs vf),.agg #[vo]].toArray w (cU w (is (.bool !((aJ n).any (jn L))))):=by
 have hkl9:(aJ n).length≤1000:=by simp only [aJ,List.length_append,List.length_cons];omega
 refine d7 Tryz.func49 rfl Tryz.ntmps49 rfl [(0,.agg (ay n.me n.pr vs vf)),(1,.agg #[vo])] (by simp) fun f h=>?_
 have s:=St.start w
 refine al fun K1 hK1=>?_
 refine ae ?_
 refine bV (ay n.me n.pr vs vf) h s rfl rfl rfl ?_;intro f w1 b2 h s
 refine bV (#[vo]) h s rfl rfl rfl ?_;intro f w1 b3 h s
 refine bf (#[.bool false]) h s rC rfl rfl ?_;intro f w1 b4 h s
 refine ah ?_
 refine hK1 _ _ ?_
 refine al fun K2 hK2=>?_
 refine al fun K3 hK3=>?_
 refine ae ?_
 refine au 2 h s aW rfl rfl (ap _ _ _ _) rfl ?_;intro f h
 refine aI h s u0 (jj n vs vf _ (hRs.keep s.ext) (hRf.keep s.ext) (by omega) (by omega)) rfl rfl ?_;rintro f w1 r9 ⟨bv,vk,rfl,hS⟩ hE h sq;replace s:=s.add hS;clear hS
 refine ah ?_
 refine hK3 _ _ ?_
 refine wpIn_block ?_
 refine dW (fun d A9=>A9=[.blk b4 (.cells #[.bool false] 4),.blk b3 (.cells #[vo] 24),.blk b2 (.cells (ay n.me n.pr vs vf) 42)]) [.blk b4 (.cells #[.bool false] 4),.blk b3 (.cells #[vo] 24),.blk b2 (.cells (ay n.me n.pr vs vf) 42)] [.blk bv (.cells #[vk] 36),.sl vk 28 33 (aJ n).length (ar (aJ n))] ((aJ n).length) (Dn n L) (fun d=>[Value.agg (av ((aJ n).getD d aZ))]) h s rfl nK (List.Perm.refl _) (rfl) (fun _=>rfl) ?_ ?_ ?_ ?_
 ·intro lp w2 GG g0 hg0 s2 hY;exact ji (aJ n) hkl9 vk lp bv (Dn n L) GG g0 w w2 s2 hg0 hY
 ·intro lp D9 d9 rc R9 A9 w2 hd9 hq9 hJ9 s
  obtain rfl:=hJ9
  have h:=Sl.round1 (p:=9) (V:=.agg (av ((aJ n).getD d9 aZ))) h rfl
  have hdl9:=hd9
  refine ae ?_
  refine bf (av aZ) h s cB rfl rfl ?_;intro f w1 b5 h s
  refine az 0 h s aC rfl rfl rfl (aj _) (aj _) (aS _) ?_;intro w1 s
  refine ah ?_
  refine bT ?_
  refine ⟨_,s.perm (List.perm_middle (l₁:=[_])),fun w3 s=>?_⟩
  refine wpIn_block ?_
  refine al fun K4 hK4=>?_
  cases p0:(decide (dx L ((aJ n).getD d9 aZ).1<L.length):Bool)
  ·skip
   refine ae ?_
   refine au 4 h s bk rfl rfl (rfl) rfl ?_;intro f h
   refine ac h (ai aH (h.ev rfl)) rfl ?_;intro f h
   refine aq (am (aL.of_own s 1 rfl) 0 (aP _)) h bw rfl rfl ?_;intro f h
   refine aI h s lW (aM (.pointer none) (eV L vo ((aJ n).getD d9 aZ).1 _ (hO.keep s.ext) hL) (sm (of_decide_eq_false p0))) rfl rfl ?_;intro f w1 v9 hT hE h s;obtain rfl:=hT
   refine ac h (ak (h.ev rfl)) rfl ?_;intro f h
   refine ah ?_
   refine hK4 _ _ ?_
   refine al fun K5 hK5=>?_
   refine bH 10 [[],[0],[0,1],[0,1,2],[0,1,2,3],[0,1,2,3,4],[0,1,2,3,4,5],[0,1,2],[0,1,2,3,4,5,6,7],[0,1,2,3,4,5,6,7,8]] h (by kernel_rfl) (by kernel_rfl) (by kernel_rfl) ?_
   refine ao h (ag (h.ev rfl)) rfl ?_;intro f h
   refine ao h (aw (.bool false) (iI Tryz.underlying54 (h.ev rfl) (h.ev rfl)) (rfl)) rfl ?_;intro f h
   refine ao h (ag (h.ev rfl)) rfl ?_;intro f h
   refine aX (b:=true) h rfl rfl rfl rfl ?_;intro f h
   refine aX (b:=true) h rfl rfl rfl rfl ?_;intro f h
   refine aX (b:=true) h rfl rfl rfl rfl ?_;intro f h
   refine aX (b:=true) h rfl rfl rfl rfl ?_;intro f h
   refine aX (b:=true) h rfl rfl rfl rfl ?_;intro f h
   refine aX (b:=true) h rfl rfl rfl rfl ?_;intro f h
   refine ao h (aF (h.ev rfl) (h.ev rfl)) rfl ?_;intro f h
   refine ck s fun w1 s=>?_
   refine ah ?_
   refine hK5 _ _ ?_
   refine wpIn_cond_false (h.ev rfl) ?_
   refine wpIn_skip ?_
   refine bF ?_
   refine ⟨(Dv p0),_,rfl,s.pick _ ?_⟩
   exact List.Sublist.cons_cons _ (List.Sublist.cons _ (List.Sublist.refl _))
  ·skip
   refine ae ?_
   refine au 4 h s bk rfl rfl (rfl) rfl ?_;intro f h
   refine ac h (ai aH (h.ev rfl)) rfl ?_;intro f h
   refine aq (am (aL.of_own s 1 rfl) 0 (aP _)) h bw rfl rfl ?_;intro f h
   refine aI h s lW (aM (.pointer (some (a2 vo (dx L ((aJ n).getD d9 aZ).1*68)))) (eV L vo ((aJ n).getD d9 aZ).1 _ (hO.keep s.ext) hL) (oP (of_decide_eq_true p0))) rfl rfl ?_;intro f w1 v9 hT hE h s;obtain rfl:=hT
   refine ac h (ak (h.ev rfl)) rfl ?_;intro f h
   refine ah ?_
   refine hK4 _ _ ?_
   refine al fun K6 hK6=>?_
   cases p1:(decide ((L.getD (dx L ((aJ n).getD d9 aZ).1) z3).1.me=((aJ n).getD d9 aZ)):Bool)
   ·skip
    refine bH 10 [[],[0],[0,1],[0,1,2],[0,1,2,3],[0,1,2,3,4],[0,1,2,3,4,5],[0,1,2],[0,1,2,3,4,5,6,7],[0,1,2,3,4,5,6,7,8]] h (by kernel_rfl) (by kernel_rfl) (by kernel_rfl) ?_
    have hp9:=of_decide_eq_true p0
    refine ao h (ag (h.ev rfl)) rfl ?_;intro f h
    refine ao h (aw (.bool true) (iI Tryz.underlying54 (h.ev rfl) (h.ev rfl)) (rfl)) rfl ?_;intro f h
    refine ao h (ag (h.ev rfl)) rfl ?_;intro f h
    refine aT h rfl rfl rfl ?_
    refine ao h (ag (h.ev rfl)) rfl ?_;intro f h
    refine aT h rfl rfl rfl ?_
    refine ao h (bz (h.ev rfl)) rfl ?_;intro f h
    refine aT h rfl rfl rfl ?_
    refine ao h (bL aK (h.ev rfl) ((hO.1.keep s.ext).some (by omega))) rfl ?_;intro f h
    refine aT h rfl rfl rfl ?_
    refine bi (bX.elF (hO.1.keep s.ext) (dx L ((aJ n).getD d9 aZ).1) 0 33 (by omega) (by decide) (C:=ay (L.getD (dx L ((aJ n).getD d9 aZ).1) z3).1.me (L.getD (dx L ((aJ n).getD d9 aZ).1) z3).1.pr (L.getD (dx L ((aJ n).getD d9 aZ).1) z3).2.1 (L.getD (dx L ((aJ n).getD d9 aZ).1) z3).2.2) (df L _ hp9) (D:=av (L.getD (dx L ((aJ n).getD d9 aZ).1) z3).1.me) (bj _ _ _ _)) h aC rfl (aj _) rfl ?_;intro f h
    refine aT h rfl rfl rfl ?_
    refine bM 1 h s aC rfl rfl (aj _) rfl ?_;intro f h
    refine aT h rfl rfl rfl ?_
    refine ao h (aw (.bool true) (eh (eo _ _) (by kernel_rfl) (by decide) (h.ev rfl) (h.ev rfl) (decide ((L.getD (dx L ((aJ n).getD d9 aZ).1) z3).1.me=((aJ n).getD d9 aZ))) (cR _ _)) (by rw [p1];rfl)) rfl ?_;intro f h
    refine ao h (aD (h.ev rfl) (h.ev rfl)) rfl ?_;intro f h
    refine ck s fun w1 s=>?_
    refine ah ?_
    refine hK6 _ _ ?_
    refine wpIn_cond_true (h.ev rfl) ?_
    refine al fun K7 hK7=>?_
    refine ae ?_
    refine br 3 h s fl rfl rfl rfl (by simp) (rfl) ?_;intro w1 s
    refine ah ?_
    refine hK7 _ _ ?_
    refine wpIn_ret ?_
    refine bQ ?_
    refine ⟨((C4 p0).trans (by rw [p1];rfl)),_,rfl,s.pick _ ?_⟩
    exact List.Sublist.cons_cons _ (List.Sublist.cons _ (List.Sublist.refl _))
   ·skip
    refine bH 10 [[],[0],[0,1],[0,1,2],[0,1,2,3],[0,1,2,3,4],[0,1,2,3,4,5],[0,1,2],[0,1,2,3,4,5,6,7],[0,1,2,3,4,5,6,7,8]] h (by kernel_rfl) (by kernel_rfl) (by kernel_rfl) ?_
    have hp9:=of_decide_eq_true p0
    refine ao h (ag (h.ev rfl)) rfl ?_;intro f h
    refine ao h (aw (.bool true) (iI Tryz.underlying54 (h.ev rfl) (h.ev rfl)) (rfl)) rfl ?_;intro f h
    refine ao h (ag (h.ev rfl)) rfl ?_;intro f h
    refine aT h rfl rfl rfl ?_
    refine ao h (ag (h.ev rfl)) rfl ?_;intro f h
    refine aT h rfl rfl rfl ?_
    refine ao h (bz (h.ev rfl)) rfl ?_;intro f h
    refine aT h rfl rfl rfl ?_
    refine ao h (bL aK (h.ev rfl) ((hO.1.keep s.ext).some (by omega))) rfl ?_;intro f h
    refine aT h rfl rfl rfl ?_
    refine bi (bX.elF (hO.1.keep s.ext) (dx L ((aJ n).getD d9 aZ).1) 0 33 (by omega) (by decide) (C:=ay (L.getD (dx L ((aJ n).getD d9 aZ).1) z3).1.me (L.getD (dx L ((aJ n).getD d9 aZ).1) z3).1.pr (L.getD (dx L ((aJ n).getD d9 aZ).1) z3).2.1 (L.getD (dx L ((aJ n).getD d9 aZ).1) z3).2.2) (df L _ hp9) (D:=av (L.getD (dx L ((aJ n).getD d9 aZ).1) z3).1.me) (bj _ _ _ _)) h aC rfl (aj _) rfl ?_;intro f h
    refine aT h rfl rfl rfl ?_
    refine bM 1 h s aC rfl rfl (aj _) rfl ?_;intro f h
    refine aT h rfl rfl rfl ?_
    refine ao h (aw (.bool false) (eh (eo _ _) (by kernel_rfl) (by decide) (h.ev rfl) (h.ev rfl) (decide ((L.getD (dx L ((aJ n).getD d9 aZ).1) z3).1.me=((aJ n).getD d9 aZ))) (cR _ _)) (by rw [p1];rfl)) rfl ?_;intro f h
    refine ao h (aD (h.ev rfl) (h.ev rfl)) rfl ?_;intro f h
    refine ck s fun w1 s=>?_
    refine ah ?_
    refine hK6 _ _ ?_
    refine wpIn_cond_false (h.ev rfl) ?_
    refine wpIn_skip ?_
    refine bF ?_
    refine ⟨((C4 p0).trans (by rw [p1];rfl)),_,rfl,s.pick _ ?_⟩
    exact List.Sublist.cons_cons _ (List.Sublist.cons _ (List.Sublist.refl _))
 ·intro D9 A9 w2 hJ9 hq9 s
  obtain rfl:=hJ9
  replace h:Sl _ {f with defers:={target:=.collected D9,args:=#[]}::f.defers} _ [{target:=.collected D9,args:=#[]}]:=⟨h.size,by rw [h.defers],h.holds⟩
  refine bF ?_
  refine hK2 _ _ ?_
  refine al fun K8 hK8=>?_
  refine ae ?_
  refine br 3 h s fl rfl rfl rfl (by simp) (rfl) ?_;intro w1 s
  refine ah ?_
  refine hK8 _ _ ?_
  refine wpIn_ret ?_
  exact fa 3 0 rfl h s fl rfl rfl rfl rfl rfl (fun w9=>by show _=_;rw [y4 hq9];rfl)
 ·intro D9 d9 A9 w2 hd9 hqd9 hq9 hJ9 s
  obtain rfl:=hJ9
  replace h:Sl _ {f with defers:={target:=.collected D9,args:=#[]}::f.defers} _ [{target:=.collected D9,args:=#[]}]:=⟨h.size,by rw [h.defers],h.holds⟩
  refine bQ ?_
  refine aY ?_
  exact fa 3 0 rfl h s fl rfl rfl rfl rfl rfl (fun w9=>by show _=_;rw [x8 hd9 hqd9];rfl)
theorem ex (L:List N3) (vo:Value) (w:World) (hO:eN w vo L) (hL:L.length≤40) (hb:RwB L):Calls Tryz.prog 11 [.agg #[vo]].toArray w (cU w (is (.bool (hQ L)))):=by
 have hml:(aR L).length≤1000:=by rw [List.length_map];omega
 refine d7 Tryz.func11 rfl Tryz.ntmps11 rfl [(0,.agg #[vo])] (by simp) fun f h=>?_
 have s:=St.start w
 refine al fun K1 hK1=>?_
 refine ae ?_
 refine bV (#[vo]) h s rfl rfl rfl ?_;intro f w1 b1 h s
 refine bf (#[.bool false]) h s rC rfl rfl ?_;intro f w1 b2 h s
 refine ah ?_
 refine hK1 _ _ ?_
 refine al fun K2 hK2=>?_
 refine ae ?_
 refine au 1 h s bk rfl rfl (rfl) rfl ?_;intro f h
 refine aI h s zu (j2 L vo _ (hO.keep s.ext) hL) rfl rfl ?_;intro f w1 v6 hT hE h sq;replace s:=s.sl_new hE hT
 refine ac h (ak (h.ev rfl)) rfl ?_;intro f h
 refine ah ?_
 refine hK2 _ _ ?_
 refine al fun K3 hK3=>?_
 refine al fun K4 hK4=>?_
 cases r0:(dd (aR L):Bool)
 ·skip
  refine ae ?_
  refine ac h (ag (h.ev rfl)) rfl ?_;intro f h
  refine aI h s pA (aM (.bool false) (gf (aR L) v6 _ (bX.of_own (s.getSl 0 rfl)) hml) (congrArg Value.bool r0)) rfl rfl ?_;intro f w1 v9 hT hE h s;obtain rfl:=hT
  refine ac h (aw (.bool true) (bB (h.ev rfl)) rfl) rfl ?_;intro f h
  refine ac h (ag (h.ev rfl)) rfl ?_;intro f h
  refine aB (b:=false) h rfl rfl rfl rfl ?_;intro f h
  refine aB (b:=false) h rfl rfl rfl rfl ?_;intro f h
  refine aB (b:=false) h rfl rfl rfl rfl ?_;intro f h
  refine ac h (aD (h.ev rfl) (h.ev rfl)) rfl ?_;intro f h
  refine ah ?_
  refine hK4 _ _ ?_
  refine wpIn_cond_true (h.ev rfl) ?_
  refine al fun K5 hK5=>?_
  refine ae ?_
  refine br 1 h s fl rfl rfl rfl (by simp) (rfl) ?_;intro w1 s
  refine ah ?_
  refine hK5 _ _ ?_
  refine wpIn_ret ?_
  refine aY ?_
  exact mu 1 rfl h s fl rfl rfl rfl (fun w9=>(congrArg Value.bool (Bb r0)).symm)
 ·skip
  cases r1:(lU (aR L):Bool)
  ·skip
   refine ae ?_
   refine ac h (ag (h.ev rfl)) rfl ?_;intro f h
   refine aI h s pA (aM (.bool true) (gf (aR L) v6 _ (bX.of_own (s.getSl 0 rfl)) hml) (congrArg Value.bool r0)) rfl rfl ?_;intro f w1 v9 hT hE h s;obtain rfl:=hT
   refine ac h (aw (.bool false) (bB (h.ev rfl)) rfl) rfl ?_;intro f h
   refine ac h (ag (h.ev rfl)) rfl ?_;intro f h
   refine aA h rfl rfl rfl ?_
   refine ac h (ag (h.ev rfl)) rfl ?_;intro f h
   refine aA h rfl rfl rfl ?_
   refine aI h s zK (aM (.bool false) (jR (aR L) v6 _ (bX.of_own (s.getSl 0 rfl)) hml) (congrArg Value.bool r1)) rfl rfl ?_;intro f w1 v9 hT hE h s;obtain rfl:=hT
   refine aA h rfl rfl rfl ?_
   refine ac h (aw (.bool true) (bB (h.ev rfl)) rfl) rfl ?_;intro f h
   refine ac h (aF (h.ev rfl) (h.ev rfl)) rfl ?_;intro f h
   refine ah ?_
   refine hK4 _ _ ?_
   refine wpIn_cond_true (h.ev rfl) ?_
   refine al fun K6 hK6=>?_
   refine ae ?_
   refine br 1 h s fl rfl rfl rfl (by simp) (rfl) ?_;intro w1 s
   refine ah ?_
   refine hK6 _ _ ?_
   refine wpIn_ret ?_
   refine aY ?_
   exact mu 1 rfl h s fl rfl rfl rfl (fun w9=>(congrArg Value.bool (By r1)).symm)
  ·skip
   refine ae ?_
   refine ac h (ag (h.ev rfl)) rfl ?_;intro f h
   refine aI h s pA (aM (.bool true) (gf (aR L) v6 _ (bX.of_own (s.getSl 0 rfl)) hml) (congrArg Value.bool r0)) rfl rfl ?_;intro f w1 v9 hT hE h s;obtain rfl:=hT
   refine ac h (aw (.bool false) (bB (h.ev rfl)) rfl) rfl ?_;intro f h
   refine ac h (ag (h.ev rfl)) rfl ?_;intro f h
   refine aA h rfl rfl rfl ?_
   refine ac h (ag (h.ev rfl)) rfl ?_;intro f h
   refine aA h rfl rfl rfl ?_
   refine aI h s zK (aM (.bool true) (jR (aR L) v6 _ (bX.of_own (s.getSl 0 rfl)) hml) (congrArg Value.bool r1)) rfl rfl ?_;intro f w1 v9 hT hE h s;obtain rfl:=hT
   refine aA h rfl rfl rfl ?_
   refine ac h (aw (.bool false) (bB (h.ev rfl)) rfl) rfl ?_;intro f h
   refine ac h (aF (h.ev rfl) (h.ev rfl)) rfl ?_;intro f h
   refine ah ?_
   refine hK4 _ _ ?_
   refine wpIn_cond_false (h.ev rfl) ?_
   refine wpIn_skip ?_
   refine hK3 _ _ ?_
   refine al fun K7 hK7=>?_
   refine al fun K8 hK8=>?_
   refine ae ?_
   refine au 2 h s bk rfl rfl (rfl) rfl ?_;intro f h
   refine dl [.agg #[vo]] h kE (fk vo _ _ _ s) rfl rfl ?_;rintro f w1 r ⟨bn,rfl,s⟩ h
   refine ah ?_
   refine hK8 _ _ ?_
   refine wpIn_block ?_
   refine dW (fun d A9=>A9=[.sl v6 28 33 (aR L).length (ar (aR L)),.blk b2 (.cells #[.bool false] 4),.blk b1 (.cells #[vo] 24)]) [.sl v6 28 33 (aR L).length (ar (aR L)),.blk b2 (.cells #[.bool false] 4),.blk b1 (.cells #[vo] 24)] [.blk bn (.cells #[vo] 24)] (L.length) (xf L) (fun d=>[Value.pointer (some (a2 vo (d*68)))]) h s rfl kH (List.Perm.refl _) (rfl) (fun _=>rfl) ?_ ?_ ?_ ?_
   ·intro lp w2 GG g0 hg0 s2 hY;exact eB L.length (by omega) vo _ _ hO.1 lp bn (xf L) GG g0 w w2 s2 hg0 hY
   ·intro lp D9 d9 rc R9 A9 w2 hd9 hq9 hJ9 s
    obtain rfl:=hJ9
    have h:=Sl.round1 (p:=17) (V:=.pointer (some (a2 vo (d9*68)))) h rfl
    have hdl9:=hd9
    refine ae ?_
    refine ac h (ak (h.ev rfl)) rfl ?_;intro f h
    refine ah ?_
    refine bT ?_
    refine ⟨_,s,fun w3 s=>?_⟩
    refine wpIn_block ?_
    refine al fun K9 hK9=>?_
    cases k0:(cr (L.getD d9 z3).1:Bool)
    ·skip
     refine bH 13 [[],[0],[0,1],[0,1,2],[0,1,2,3],[0,1,2,3,4],[0,1,2,3,4,5],[0,1,2,3,4,5,6],[0,1,2,3,4,5,6,7],[0,1,2,3,4,5],[0,1,2,3,4,5,6,7,8,9],[0,1,2,3,4,5,6,7,8,9,10],[0,1,2,3,4,5,6,7,8,9,10,11]] h (by kernel_rfl) (by kernel_rfl) (by kernel_rfl) ?_
     have hx9:=hb.each _ (bu hdl9)
     refine ao h (ag (h.ev rfl)) rfl ?_;intro f h
     refine ao h (bz (h.ev rfl)) rfl ?_;intro f h
     refine bi ((hO.1.keep s.ext).el (d9) (by omega) (by decide) (D:=ay (L.getD d9 z3).1.me (L.getD d9 z3).1.pr (L.getD d9 z3).2.1 (L.getD d9 z3).2.2) (df L d9 hdl9)) h aW rfl (ap _ _ _ _) rfl ?_;intro f h
     refine cn h gd (fun w9 hE9=>aM (.bool false) (db (L.getD d9 z3).1 (L.getD d9 z3).2.1 (L.getD d9 z3).2.2 w9 ((hO.2 _ (bu hdl9)).1.keep (s.ext.trans hE9)) ((hO.2 _ (bu hdl9)).2.keep (s.ext.trans hE9)) (by omega) (by omega)) (congrArg Value.bool k0)) rfl rfl ?_;intro f h
     refine ao h (aw (.bool true) (bB (h.ev rfl)) rfl) rfl ?_;intro f h
     refine ao h (ag (h.ev rfl)) rfl ?_;intro f h
     refine aX (b:=false) h rfl rfl rfl rfl ?_;intro f h
     refine aX (b:=false) h rfl rfl rfl rfl ?_;intro f h
     refine aX (b:=false) h rfl rfl rfl rfl ?_;intro f h
     refine aX (b:=false) h rfl rfl rfl rfl ?_;intro f h
     refine aX (b:=false) h rfl rfl rfl rfl ?_;intro f h
     refine aX (b:=false) h rfl rfl rfl rfl ?_;intro f h
     refine ao h (aD (h.ev rfl) (h.ev rfl)) rfl ?_;intro f h
     refine ck s fun w1 s=>?_
     refine ah ?_
     refine hK9 _ _ ?_
     refine wpIn_cond_true (h.ev rfl) ?_
     refine al fun K10 hK10=>?_
     refine ae ?_
     refine br 3 h s fl rfl rfl rfl (by simp) (rfl) ?_;intro w1 s
     refine ah ?_
     refine hK10 _ _ ?_
     refine wpIn_ret ?_
     refine bQ ?_
     refine ⟨(D0 k0),_,rfl,s.pick _ ?_⟩
     exact List.Sublist.cons_cons _ (List.Sublist.refl _)
    ·skip
     cases k1:((aJ (L.getD d9 z3).1).any (jn L):Bool)
     ·skip
      refine bH 13 [[],[0],[0,1],[0,1,2],[0,1,2,3],[0,1,2,3,4],[0,1,2,3,4,5],[0,1,2,3,4,5,6],[0,1,2,3,4,5,6,7],[0,1,2,3,4,5],[0,1,2,3,4,5,6,7,8,9],[0,1,2,3,4,5,6,7,8,9,10],[0,1,2,3,4,5,6,7,8,9,10,11]] h (by kernel_rfl) (by kernel_rfl) (by kernel_rfl) ?_
      have hx9:=hb.each _ (bu hdl9)
      refine ao h (ag (h.ev rfl)) rfl ?_;intro f h
      refine ao h (bz (h.ev rfl)) rfl ?_;intro f h
      refine bi ((hO.1.keep s.ext).el (d9) (by omega) (by decide) (D:=ay (L.getD d9 z3).1.me (L.getD d9 z3).1.pr (L.getD d9 z3).2.1 (L.getD d9 z3).2.2) (df L d9 hdl9)) h aW rfl (ap _ _ _ _) rfl ?_;intro f h
      refine cn h gd (fun w9 hE9=>aM (.bool true) (db (L.getD d9 z3).1 (L.getD d9 z3).2.1 (L.getD d9 z3).2.2 w9 ((hO.2 _ (bu hdl9)).1.keep (s.ext.trans hE9)) ((hO.2 _ (bu hdl9)).2.keep (s.ext.trans hE9)) (by omega) (by omega)) (congrArg Value.bool k0)) rfl rfl ?_;intro f h
      refine ao h (aw (.bool false) (bB (h.ev rfl)) rfl) rfl ?_;intro f h
      refine ao h (ag (h.ev rfl)) rfl ?_;intro f h
      refine aT h rfl rfl rfl ?_
      refine ao h (ag (h.ev rfl)) rfl ?_;intro f h
      refine aT h rfl rfl rfl ?_
      refine ao h (bz (h.ev rfl)) rfl ?_;intro f h
      refine aT h rfl rfl rfl ?_
      refine bi ((hO.1.keep s.ext).el (d9) (by omega) (by decide) (D:=ay (L.getD d9 z3).1.me (L.getD d9 z3).1.pr (L.getD d9 z3).2.1 (L.getD d9 z3).2.2) (df L d9 hdl9)) h aW rfl (ap _ _ _ _) rfl ?_;intro f h
      refine aT h rfl rfl rfl ?_
      refine bM 4 h s bk rfl rfl (rfl) rfl ?_;intro f h
      refine aT h rfl rfl rfl ?_
      refine cn h zQ (fun w9 hE9=>aM (.bool true) (nb (L.getD d9 z3).1 (L.getD d9 z3).2.1 (L.getD d9 z3).2.2 L vo w9 ((hO.2 _ (bu hdl9)).1.keep (s.ext.trans hE9)) ((hO.2 _ (bu hdl9)).2.keep (s.ext.trans hE9)) (by omega) (by omega) (hO.keep (s.ext.trans hE9)) hL) (by rw [k1];rfl)) rfl rfl ?_;intro f h
      refine aT h rfl rfl rfl ?_
      refine ao h (aw (.bool false) (bB (h.ev rfl)) rfl) rfl ?_;intro f h
      refine ao h (aF (h.ev rfl) (h.ev rfl)) rfl ?_;intro f h
      refine ck s fun w1 s=>?_
      refine ah ?_
      refine hK9 _ _ ?_
      refine wpIn_cond_false (h.ev rfl) ?_
      refine wpIn_skip ?_
      refine bF ?_
      refine ⟨((Ct k0).trans k1),_,rfl,s.pick _ ?_⟩
      exact List.Sublist.cons_cons _ (List.Sublist.refl _)
     ·skip
      refine bH 13 [[],[0],[0,1],[0,1,2],[0,1,2,3],[0,1,2,3,4],[0,1,2,3,4,5],[0,1,2,3,4,5,6],[0,1,2,3,4,5,6,7],[0,1,2,3,4,5],[0,1,2,3,4,5,6,7,8,9],[0,1,2,3,4,5,6,7,8,9,10],[0,1,2,3,4,5,6,7,8,9,10,11]] h (by kernel_rfl) (by kernel_rfl) (by kernel_rfl) ?_
      have hx9:=hb.each _ (bu hdl9)
      refine ao h (ag (h.ev rfl)) rfl ?_;intro f h
      refine ao h (bz (h.ev rfl)) rfl ?_;intro f h
      refine bi ((hO.1.keep s.ext).el (d9) (by omega) (by decide) (D:=ay (L.getD d9 z3).1.me (L.getD d9 z3).1.pr (L.getD d9 z3).2.1 (L.getD d9 z3).2.2) (df L d9 hdl9)) h aW rfl (ap _ _ _ _) rfl ?_;intro f h
      refine cn h gd (fun w9 hE9=>aM (.bool true) (db (L.getD d9 z3).1 (L.getD d9 z3).2.1 (L.getD d9 z3).2.2 w9 ((hO.2 _ (bu hdl9)).1.keep (s.ext.trans hE9)) ((hO.2 _ (bu hdl9)).2.keep (s.ext.trans hE9)) (by omega) (by omega)) (congrArg Value.bool k0)) rfl rfl ?_;intro f h
      refine ao h (aw (.bool false) (bB (h.ev rfl)) rfl) rfl ?_;intro f h
      refine ao h (ag (h.ev rfl)) rfl ?_;intro f h
      refine aT h rfl rfl rfl ?_
      refine ao h (ag (h.ev rfl)) rfl ?_;intro f h
      refine aT h rfl rfl rfl ?_
      refine ao h (bz (h.ev rfl)) rfl ?_;intro f h
      refine aT h rfl rfl rfl ?_
      refine bi ((hO.1.keep s.ext).el (d9) (by omega) (by decide) (D:=ay (L.getD d9 z3).1.me (L.getD d9 z3).1.pr (L.getD d9 z3).2.1 (L.getD d9 z3).2.2) (df L d9 hdl9)) h aW rfl (ap _ _ _ _) rfl ?_;intro f h
      refine aT h rfl rfl rfl ?_
      refine bM 4 h s bk rfl rfl (rfl) rfl ?_;intro f h
      refine aT h rfl rfl rfl ?_
      refine cn h zQ (fun w9 hE9=>aM (.bool false) (nb (L.getD d9 z3).1 (L.getD d9 z3).2.1 (L.getD d9 z3).2.2 L vo w9 ((hO.2 _ (bu hdl9)).1.keep (s.ext.trans hE9)) ((hO.2 _ (bu hdl9)).2.keep (s.ext.trans hE9)) (by omega) (by omega) (hO.keep (s.ext.trans hE9)) hL) (by rw [k1];rfl)) rfl rfl ?_;intro f h
      refine aT h rfl rfl rfl ?_
      refine ao h (aw (.bool true) (bB (h.ev rfl)) rfl) rfl ?_;intro f h
      refine ao h (aF (h.ev rfl) (h.ev rfl)) rfl ?_;intro f h
      refine ck s fun w1 s=>?_
      refine ah ?_
      refine hK9 _ _ ?_
      refine wpIn_cond_true (h.ev rfl) ?_
      refine al fun K11 hK11=>?_
      refine ae ?_
      refine br 3 h s fl rfl rfl rfl (by simp) (rfl) ?_;intro w1 s
      refine ah ?_
      refine hK11 _ _ ?_
      refine wpIn_ret ?_
      refine bQ ?_
      refine ⟨((Ct k0).trans k1),_,rfl,s.pick _ ?_⟩
      exact List.Sublist.cons_cons _ (List.Sublist.refl _)
   ·intro D9 A9 w2 hJ9 hq9 s
    obtain rfl:=hJ9
    replace h:Sl _ {f with defers:={target:=.collected D9,args:=#[]}::f.defers} _ [{target:=.collected D9,args:=#[]}]:=⟨h.size,by rw [h.defers],h.holds⟩
    refine bF ?_
    refine hK7 _ _ ?_
    refine al fun K12 hK12=>?_
    refine ae ?_
    refine br 3 h s fl rfl rfl rfl (by simp) (rfl) ?_;intro w1 s
    refine ah ?_
    refine hK12 _ _ ?_
    refine wpIn_ret ?_
    exact fa 3 0 rfl h s fl rfl rfl rfl rfl rfl (fun w9=>(congrArg Value.bool (xE r0 r1 hq9)).symm)
   ·intro D9 d9 A9 w2 hd9 hqd9 hq9 hJ9 s
    obtain rfl:=hJ9
    replace h:Sl _ {f with defers:={target:=.collected D9,args:=#[]}::f.defers} _ [{target:=.collected D9,args:=#[]}]:=⟨h.size,by rw [h.defers],h.holds⟩
    refine bQ ?_
    refine aY ?_
    exact fa 3 0 rfl h s fl rfl rfl rfl rfl rfl (fun w9=>(congrArg Value.bool (y6 r0 r1 hd9 hqd9)).symm)
end Go.Proofs.YthggibfkgofncaaGreat
