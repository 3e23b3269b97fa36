/- What Right of package node answers, and the functions that it calls, and copies of rows of members: for all nodes with at most 1000 members in each row. -/
import Derived.Test.YthggibfkgofncaaGreatCon
set_option linter.unusedVariables false
set_option linter.unusedSimpArgs false
set_option linter.unusedSectionVars false
namespace Go.Proofs.YthggibfkgofncaaGreat
open Go.RowKit
theorem qp (l:List Mb) (vh:Value) (g9:Nat) (caps:List Value) (p:Mb→Bool) (w:World) (hR:bX w vh 33 l.length (ar l)) (hln:l.length≤1000) (hg:Fnc Tryz.prog g9) (hp:∀ w9,Ext w w9→∀ x∈l,Calls Tryz.prog g9 (.agg (av x)::caps).toArray w9 (cU w9 (is (.bool (p x))))):Calls Tryz.prog 112 [vh,.func (.func g9) #[] caps.toArray].toArray w (cU w (fun v _=>∃ r:Int,v=.int .i64 r∧((r = -1∧∀ x∈l,p x=false)∨∃ k:Nat,∃ hk:k<l.length,r=(k:Int)∧p l[k]=true))):=by
 refine bq Tryz.func112 rfl Tryz.ntmps112 rfl [(0,vh),(1,.func (.func g9) #[] caps.toArray)] (by simp) fun f h=>?_
 have s:=St.start w
 refine al fun K1 hK1=>?_
 refine ae ?_
 refine ac h (ak (h.ev rfl)) rfl ?_;intro f h
 refine ah ?_
 refine hK1 _ _ ?_
 refine al fun K2 hK2=>?_
 refine al fun K3 hK3=>?_
 refine ae ?_
 refine ac h (ag (h.ev rfl)) rfl ?_;intro f h
 refine ac h (a8 (hR.keep s.ext) Tryz.underlying36 (h.ev rfl)) rfl ?_;intro f h
 refine ac h (ag (h.ev rfl)) rfl ?_;intro f h
 refine ah ?_
 refine hK3 _ _ ?_
 refine wpIn_block ?_
 refine wpIn_loop_ghost (fun nn aa ww=>∃ k:Nat,Sl 19 aa [(0,vh),(1,.func (.func g9) #[] caps.toArray),(6,vh),(7,.int .i64 (l.length:Int)),(8,.int .i64 (k:Int))]∧St w [] ww∧nn=l.length - k∧k≤l.length∧∀ i (hi:i<l.length),i<k→p l[i]=false) (l.length - (0)) ⟨0,h.only ⟨rfl,rfl,rfl,rfl,aO rfl (by omega),trivial⟩,s.as trivial,rfl,Nat.zero_le _,fun i hi h9=>absurd h9 (Nat.not_lt_zero _)⟩ ?_
 rintro _ f w1 ⟨k,h,s,hnn,hp0,hp1⟩
 refine al fun K4 hK4=>?_
 refine ae ?_
 refine ac h (bS (h.ev rfl) (h.ev rfl)) rfl ?_;intro f h
 refine ah ?_
 refine hK4 _ _ ?_
 refine al fun K5 hK5=>?_
 refine bK h rfl (fun hc=>?_) (fun hc=>?_)
 ·replace hc:=of_decide_eq_true hc
  refine wpIn_skip ?_
  refine hK5 _ _ ?_
  refine al fun K6 hK6=>?_
  refine wpIn_block ?_
  refine al fun K7 hK7=>?_
  refine ae ?_
  refine ac h (ag (h.ev rfl)) rfl ?_;intro f h
  refine ac h (ak (h.ev rfl)) rfl ?_;intro f h
  refine ah ?_
  refine hK7 _ _ ?_
  refine al fun K8 hK8=>?_
  refine ae ?_
  have hkl:k<l.length:=by omega
  refine ac h (ag (h.ev rfl)) rfl ?_;intro f h
  refine ac h (ag (h.ev rfl)) rfl ?_;intro f h
  refine ac h (ag (h.ev rfl)) rfl ?_;intro f h
  refine ac h (cc (hR.keep s.ext) (k) Tryz.underlying36 cD (h.ev rfl) (h.ev rfl) (by omega) (by omega)) rfl ?_;intro f h
  refine ax ((hR.keep s.ext).el (k) (by omega) (by decide) (D:=av l[k]) (rY l k hkl)) h aC rfl (aj _) rfl ?_;intro f h
  refine dM [.agg (av l[k])] (caps:=caps) h s hg rfl (hp _ s.ext _ (List.getElem_mem hkl)) rfl rfl ?_;intro f w1 v9 hT hE h s;obtain rfl:=hT
  refine ah ?_
  refine hK8 _ _ ?_
  refine bK h rfl (fun hc=>?_) (fun hc=>?_)
  ·refine al fun K9 hK9=>?_
   refine ae ?_
   refine ac h (ag (h.ev rfl)) rfl ?_;intro f h
   refine ac h (ak (h.ev rfl)) rfl ?_;intro f h
   refine ah ?_
   refine hK9 _ _ ?_
   refine wpIn_ret ?_
   refine bQ ?_
   refine aY ?_
   refine aY ?_
   refine bQ ?_
   refine aY ?_
   exact bo rfl h s rfl (⟨_,rfl,.inr ⟨k,hkl,rfl,hc⟩⟩)
  ·refine wpIn_skip ?_
   refine bF ?_
   refine hK6 _ _ ?_
   refine ae ?_
   refine ac h (ce (h.ev rfl) (h.ev rfl) (by omega)) rfl ?_;intro f h
   refine ac h (ag (h.ev rfl)) rfl ?_;intro f h
   refine ah ?_
   refine bT ?_
   exact ⟨_,by omega,⟨k+1,h.only ⟨rfl,rfl,rfl,rfl,aO rfl (by omega),trivial⟩,St.as s trivial,rfl,by omega,oS (fun y=>p y=false) hp1 hkl hc⟩⟩
 ·replace hc:=of_decide_eq_false hc
  refine wpIn_exit ?_
  refine bJ ?_
  refine bJ ?_
  refine cC ?_
  refine hK2 _ _ ?_
  refine al fun K10 hK10=>?_
  refine ae ?_
  refine ac h (ak (h.ev rfl)) rfl ?_;intro f h
  refine ah ?_
  refine hK10 _ _ ?_
  refine wpIn_ret ?_
  exact bo rfl h s rfl (⟨_,rfl,.inl ⟨rfl,fun x hx=>(by obtain ⟨i,hi,e⟩:=List.getElem_of_mem hx;rw [← e];exact hp1 i hi (by omega))⟩⟩)
theorem i1 (l:List Mb) (vh:Value) (g9:Nat) (caps:List Value) (p:Mb→Bool) (w:World) (hR:bX w vh 33 l.length (ar l)) (hln:l.length≤1000) (hg:Fnc Tryz.prog g9) (hp:∀ w9,Ext w w9→∀ x∈l,Calls Tryz.prog g9 (.agg (av x)::caps).toArray w9 (cU w9 (is (.bool (p x))))):Calls Tryz.prog 77 [vh,.func (.func g9) #[] caps.toArray].toArray w (cU w (is (.bool (l.any p)))):=by
 refine bq Tryz.func77 rfl Tryz.ntmps77 rfl [(0,vh),(1,.func (.func g9) #[] caps.toArray)] (by simp) fun f h=>?_
 have s:=St.start w
 refine al fun K1 hK1=>?_
 refine ae ?_
 refine ac h (ak (h.ev rfl)) rfl ?_;intro f h
 refine ah ?_
 refine hK1 _ _ ?_
 refine al fun K2 hK2=>?_
 refine ae ?_
 refine ac h (ag (h.ev rfl)) rfl ?_;intro f h
 refine ac h (ag (h.ev rfl)) rfl ?_;intro f h
 refine aI h s uK (qp l vh g9 caps p _ (hR.keep s.ext) hln hg (fun w9 h9=>hp w9 (s.ext.trans h9))) rfl rfl ?_;rintro f w1 v9 ⟨r9,rfl,hr⟩ hE h s
 refine ac h (aw (.bool (l.any p)) (dm (h.ev rfl) (h.ev rfl)) (congrArg Value.bool (yf hr))) rfl ?_;intro f h
 refine ac h (ak (h.ev rfl)) rfl ?_;intro f h
 refine ah ?_
 refine hK2 _ _ ?_
 refine wpIn_ret ?_
 exact bo rfl h s rfl (rfl)
theorem dF (m:Mb) (w:World):Calls Tryz.prog 55 [.agg (av m)].toArray w (cU w (is (.bool (dO m)))):=by
 refine bq Tryz.func55 rfl Tryz.ntmps55 rfl [(0,.agg (av m))] (by simp) fun f h=>?_
 have s:=St.start w
 refine al fun K1 hK1=>?_
 refine ae ?_
 refine bV ((av m)) h s rfl rfl rfl ?_;intro f w1 b1 h s
 refine ac h (ak (h.ev rfl)) rfl ?_;intro f h
 refine ah ?_
 refine hK1 _ _ ?_
 refine al fun K2 hK2=>?_
 cases h0:(decide (0≤m.1):Bool)
 ·skip
  refine ae ?_
  refine ac h (ai aH (h.ev rfl)) rfl ?_;intro f h
  refine aq (am (aL.of_own s 0 rfl) 0 (aP _)) h bw rfl rfl ?_;intro f h
  refine ac h (aw (.bool false) (dm (h.ev rfl) (h.ev rfl)) (congrArg Value.bool h0)) rfl ?_;intro f h
  refine ac h (ag (h.ev rfl)) rfl ?_;intro f h
  refine aB (b:=true) h rfl rfl rfl rfl ?_;intro f h
  refine aB (b:=true) h rfl rfl rfl rfl ?_;intro f h
  refine aB (b:=true) h rfl rfl rfl rfl ?_;intro f h
  refine ac h (aF (h.ev rfl) (h.ev rfl)) rfl ?_;intro f h
  refine ac h (ak (h.ev rfl)) rfl ?_;intro f h
  refine ah ?_
  refine hK2 _ _ ?_
  refine wpIn_ret ?_
  exact bo rfl h s rfl (by show _=_;rw [zy h0]<;>rfl)
 ·skip
  refine ae ?_
  refine ac h (ai aH (h.ev rfl)) rfl ?_;intro f h
  refine aq (am (aL.of_own s 0 rfl) 0 (aP _)) h bw rfl rfl ?_;intro f h
  refine ac h (aw (.bool true) (dm (h.ev rfl) (h.ev rfl)) (congrArg Value.bool h0)) rfl ?_;intro f h
  refine ac h (ag (h.ev rfl)) rfl ?_;intro f h
  refine aA h rfl rfl rfl ?_
  refine ac h (ai aH (h.ev rfl)) rfl ?_;intro f h
  refine aA h rfl rfl rfl ?_
  refine aq (am (aL.of_own s 0 rfl) 0 (aP _)) h bw rfl rfl ?_;intro f h
  refine aA h rfl rfl rfl ?_
  refine ac h (bS (h.ev rfl) (h.ev rfl)) rfl ?_;intro f h
  refine ac h (aD (h.ev rfl) (h.ev rfl)) rfl ?_;intro f h
  refine ac h (ak (h.ev rfl)) rfl ?_;intro f h
  refine ah ?_
  refine hK2 _ _ ?_
  refine wpIn_ret ?_
  exact bo rfl h s rfl (by show _=_;rw [z8 h0]<;>rfl)
theorem dH  (w:World):Calls Tryz.prog 68 [].toArray w (cU w (is (.agg (av dB)))):=by
 refine bq Tryz.func68 rfl Tryz.ntmps68 rfl [] (by simp) fun f h=>?_
 have s:=St.start w
 refine al fun K1 hK1=>?_
 refine ae ?_
 refine bf (av aZ) h s cB rfl rfl ?_;intro f w1 b0 h s
 refine ah ?_
 refine hK1 _ _ ?_
 refine al fun K2 hK2=>?_
 refine ae ?_
 refine ac h (dU mM rfl) rfl ?_;intro f h
 refine az 0 h s aC rfl rfl rfl (aj _) (aj _) (aS _) ?_;intro w1 s
 refine ah ?_
 refine hK2 _ _ ?_
 refine wpIn_ret ?_
 exact c5 0 rfl h s aC rfl rfl (aj _) (rfl)
theorem oE (m:Mb) (no:Int) (w:World):Calls Tryz.prog 80 [.agg (av m),.int .i64 no].toArray w (cU w (is (.bool (jp m no)))):=by
 refine bq Tryz.func80 rfl Tryz.ntmps80 rfl [(0,.agg (av m)),(1,.int .i64 no)] (by simp) fun f h=>?_
 have s:=St.start w
 refine al fun K1 hK1=>?_
 refine ae ?_
 refine bV ((av m)) h s rfl rfl rfl ?_;intro f w1 b2 h s
 refine ac h (ak (h.ev rfl)) rfl ?_;intro f h
 refine ah ?_
 refine hK1 _ _ ?_
 refine al fun K2 hK2=>?_
 cases q0:(decide (m=dB):Bool)
 ·skip
  cases q1:(dO m:Bool)
  ·skip
   refine bH 14 [[],[],[0,1],[0,1,2],[0,1,2,3],[0,1,2,3,4],[0,1,2,3,4,5],[0,1,2,3,4,5,6],[0,1,2,3,4,5,6,7],[0,1,2,3,4,5,6],[0,1,2,3,4,5,6,7,8,9],[0,1,2,3,4,5,6,7,8,9,10],[0,1,2,3,4,5,6,7,8,9,10,11],[0,1,2,3,4,5,6,7,8,9,10,11,12]] h (by kernel_rfl) (by kernel_rfl) (by kernel_rfl) ?_
   refine bM 0 h s aC rfl rfl (aj _) rfl ?_;intro f h
   refine cn h fT (fun w9 hE9=>dH w9) rfl rfl ?_;intro f h
   refine ao h (aw (.bool false) (bW (eo _ _) (by kernel_rfl) (by decide) (h.ev rfl) (h.ev rfl) (decide (m=dB)) (cR _ _)) (congrArg Value.bool q0)) rfl ?_;intro f h
   refine ao h (ag (h.ev rfl)) rfl ?_;intro f h
   refine aT h rfl rfl rfl ?_
   refine bM 0 h s aC rfl rfl (aj _) rfl ?_;intro f h
   refine aT h rfl rfl rfl ?_
   refine cn h fN (fun w9 hE9=>aM (.bool false) (dF m w9) (congrArg Value.bool q1)) rfl rfl ?_;intro f h
   refine aT h rfl rfl rfl ?_
   refine ao h (ag (h.ev rfl)) rfl ?_;intro f h
   refine aX (b:=true) h rfl rfl rfl rfl ?_;intro f h
   refine aX (b:=true) h rfl rfl rfl rfl ?_;intro f h
   refine aX (b:=true) h rfl rfl rfl rfl ?_;intro f h
   refine aX (b:=true) h rfl rfl rfl rfl ?_;intro f h
   refine aT h rfl rfl rfl ?_
   refine ao h (aF (h.ev rfl) (h.ev rfl)) rfl ?_;intro f h
   refine ao h (aF (h.ev rfl) (h.ev rfl)) rfl ?_;intro f h
   refine ao h (ak (h.ev rfl)) rfl ?_;intro f h
   refine ck s fun w1 s=>?_
   refine ah ?_
   refine hK2 _ _ ?_
   refine wpIn_ret ?_
   exact bo rfl h s rfl (by show _=_;rw [zm q0 q1])
  ·skip
   cases q2:(decide (m.1≠no):Bool)
   ·skip
    refine bH 14 [[],[],[0,1],[0,1,2],[0,1,2,3],[0,1,2,3,4],[0,1,2,3,4,5],[0,1,2,3,4,5,6],[0,1,2,3,4,5,6,7],[0,1,2,3,4,5,6],[0,1,2,3,4,5,6,7,8,9],[0,1,2,3,4,5,6,7,8,9,10],[0,1,2,3,4,5,6,7,8,9,10,11],[0,1,2,3,4,5,6,7,8,9,10,11,12]] h (by kernel_rfl) (by kernel_rfl) (by kernel_rfl) ?_
    refine bM 0 h s aC rfl rfl (aj _) rfl ?_;intro f h
    refine cn h fT (fun w9 hE9=>dH w9) rfl rfl ?_;intro f h
    refine ao h (aw (.bool false) (bW (eo _ _) (by kernel_rfl) (by decide) (h.ev rfl) (h.ev rfl) (decide (m=dB)) (cR _ _)) (congrArg Value.bool q0)) rfl ?_;intro f h
    refine ao h (ag (h.ev rfl)) rfl ?_;intro f h
    refine aT h rfl rfl rfl ?_
    refine bM 0 h s aC rfl rfl (aj _) rfl ?_;intro f h
    refine aT h rfl rfl rfl ?_
    refine cn h fN (fun w9 hE9=>aM (.bool true) (dF m w9) (congrArg Value.bool q1)) rfl rfl ?_;intro f h
    refine aT h rfl rfl rfl ?_
    refine ao h (ag (h.ev rfl)) rfl ?_;intro f h
    refine aT h rfl rfl rfl ?_
    refine ao h (ai aH (h.ev rfl)) rfl ?_;intro f h
    refine aT h rfl rfl rfl ?_
    refine aU (am (aL.of_own s 0 rfl) 0 (aP _)) h bw rfl rfl ?_;intro f h
    refine aT h rfl rfl rfl ?_
    refine ao h (ag (h.ev rfl)) rfl ?_;intro f h
    refine aT h rfl rfl rfl ?_
    refine ao h (aw (.bool false) (cy (h.ev rfl) (h.ev rfl)) (congrArg Value.bool q2)) rfl ?_;intro f h
    refine aT h rfl rfl rfl ?_
    refine ao h (aD (h.ev rfl) (h.ev rfl)) rfl ?_;intro f h
    refine ao h (aF (h.ev rfl) (h.ev rfl)) rfl ?_;intro f h
    refine ao h (ak (h.ev rfl)) rfl ?_;intro f h
    refine ck s fun w1 s=>?_
    refine ah ?_
    refine hK2 _ _ ?_
    refine wpIn_ret ?_
    exact bo rfl h s rfl (by show _=_;rw [rg q0 q1,q2])
   ·skip
    refine bH 14 [[],[],[0,1],[0,1,2],[0,1,2,3],[0,1,2,3,4],[0,1,2,3,4,5],[0,1,2,3,4,5,6],[0,1,2,3,4,5,6,7],[0,1,2,3,4,5,6],[0,1,2,3,4,5,6,7,8,9],[0,1,2,3,4,5,6,7,8,9,10],[0,1,2,3,4,5,6,7,8,9,10,11],[0,1,2,3,4,5,6,7,8,9,10,11,12]] h (by kernel_rfl) (by kernel_rfl) (by kernel_rfl) ?_
    refine bM 0 h s aC rfl rfl (aj _) rfl ?_;intro f h
    refine cn h fT (fun w9 hE9=>dH w9) rfl rfl ?_;intro f h
    refine ao h (aw (.bool false) (bW (eo _ _) (by kernel_rfl) (by decide) (h.ev rfl) (h.ev rfl) (decide (m=dB)) (cR _ _)) (congrArg Value.bool q0)) rfl ?_;intro f h
    refine ao h (ag (h.ev rfl)) rfl ?_;intro f h
    refine aT h rfl rfl rfl ?_
    refine bM 0 h s aC rfl rfl (aj _) rfl ?_;intro f h
    refine aT h rfl rfl rfl ?_
    refine cn h fN (fun w9 hE9=>aM (.bool true) (dF m w9) (congrArg Value.bool q1)) rfl rfl ?_;intro f h
    refine aT h rfl rfl rfl ?_
    refine ao h (ag (h.ev rfl)) rfl ?_;intro f h
    refine aT h rfl rfl rfl ?_
    refine ao h (ai aH (h.ev rfl)) rfl ?_;intro f h
    refine aT h rfl rfl rfl ?_
    refine aU (am (aL.of_own s 0 rfl) 0 (aP _)) h bw rfl rfl ?_;intro f h
    refine aT h rfl rfl rfl ?_
    refine ao h (ag (h.ev rfl)) rfl ?_;intro f h
    refine aT h rfl rfl rfl ?_
    refine ao h (aw (.bool true) (cy (h.ev rfl) (h.ev rfl)) (congrArg Value.bool q2)) rfl ?_;intro f h
    refine aT h rfl rfl rfl ?_
    refine ao h (aD (h.ev rfl) (h.ev rfl)) rfl ?_;intro f h
    refine ao h (aF (h.ev rfl) (h.ev rfl)) rfl ?_;intro f h
    refine ao h (ak (h.ev rfl)) rfl ?_;intro f h
    refine ck s fun w1 s=>?_
    refine ah ?_
    refine hK2 _ _ ?_
    refine wpIn_ret ?_
    exact bo rfl h s rfl (by show _=_;rw [rg q0 q1,q2])
 ·skip
  refine bH 14 [[],[],[0,1],[0,1,2],[0,1,2,3],[0,1,2,3,4],[0,1,2,3,4,5],[0,1,2,3,4,5,6],[0,1,2,3,4,5,6,7],[0,1,2,3,4,5,6],[0,1,2,3,4,5,6,7,8,9],[0,1,2,3,4,5,6,7,8,9,10],[0,1,2,3,4,5,6,7,8,9,10,11],[0,1,2,3,4,5,6,7,8,9,10,11,12]] h (by kernel_rfl) (by kernel_rfl) (by kernel_rfl) ?_
  refine bM 0 h s aC rfl rfl (aj _) rfl ?_;intro f h
  refine cn h fT (fun w9 hE9=>dH w9) rfl rfl ?_;intro f h
  refine ao h (aw (.bool true) (bW (eo _ _) (by kernel_rfl) (by decide) (h.ev rfl) (h.ev rfl) (decide (m=dB)) (cR _ _)) (congrArg Value.bool q0)) rfl ?_;intro f h
  refine ao h (ag (h.ev rfl)) rfl ?_;intro f h
  refine aX (b:=false) h rfl rfl rfl rfl ?_;intro f h
  refine aX (b:=false) h rfl rfl rfl rfl ?_;intro f h
  refine aX (b:=false) h rfl rfl rfl rfl ?_;intro f h
  refine cN h rfl rfl rfl rfl ?_;intro f h
  refine cN h rfl rfl rfl rfl ?_;intro f h
  refine cN h rfl rfl rfl rfl ?_;intro f h
  refine cN h rfl rfl rfl rfl ?_;intro f h
  refine aX (b:=false) h rfl rfl rfl rfl ?_;intro f h
  refine ao h (aD (h.ev rfl) (h.ev rfl)) rfl ?_;intro f h
  refine ao h (ak (h.ev rfl)) rfl ?_;intro f h
  refine ck s fun w1 s=>?_
  refine ah ?_
  refine hK2 _ _ ?_
  refine wpIn_ret ?_
  exact bo rfl h s rfl (by show _=_;rw [se q0])
theorem qC (x:Mb) (no:Int) (bx:Nat) (w:World) (hb:gZ w bx #[.int .i64 no]):Calls Tryz.prog 87 [.agg (av x),.pointer (some ⟨bx,0,none⟩)].toArray w (cU w (is (.bool (decide (x.1=no))))):=by
 refine bq Tryz.func87 rfl Tryz.ntmps87 rfl [(0,.agg (av x)),(1,.pointer (some ⟨bx,0,none⟩))] (by simp) fun f h=>?_
 have s:=St.start w
 refine al fun K1 hK1=>?_
 refine ae ?_
 refine bV ((av x)) h s rfl rfl rfl ?_;intro f w1 b2 h s
 refine ac h (ak (h.ev rfl)) rfl ?_;intro f h
 refine ah ?_
 refine hK1 _ _ ?_
 refine al fun K2 hK2=>?_
 refine ae ?_
 refine ac h (ai aH (h.ev rfl)) rfl ?_;intro f h
 refine aq (am (aL.of_own s 0 rfl) 0 (aP _)) h bw rfl rfl ?_;intro f h
 refine aq (V:=.int .i64 no) (am (aL.of_tab (hb.keep s.ext)) 0 (rfl)) h bw rfl rfl ?_;intro f h
 refine ac h (bU (h.ev rfl) (h.ev rfl)) rfl ?_;intro f h
 refine ac h (ak (h.ev rfl)) rfl ?_;intro f h
 refine ah ?_
 refine hK2 _ _ ?_
 refine wpIn_ret ?_
 exact bo rfl h s rfl (rfl)
theorem ko (l:List Mb) (vh:Value) (no:Int) (w:World) (hR:bX w vh 33 l.length (ar l)) (hln:l.length≤1000):Calls Tryz.prog 57 [vh,.int .i64 no].toArray w (cU w (is (.bool (mD l no)))):=by
 refine bq Tryz.func57 rfl Tryz.ntmps57 rfl [(0,vh),(1,.int .i64 no)] (by simp) fun f h=>?_
 have s:=St.start w
 refine al fun K1 hK1=>?_
 refine ae ?_
 refine bV (#[.int .i64 no]) h s rfl rfl rfl ?_;intro f w1 b3 h s
 refine ac h (ak (h.ev rfl)) rfl ?_;intro f h
 refine ah ?_
 refine hK1 _ _ ?_
 refine al fun K2 hK2=>?_
 refine ae ?_
 refine ac h (ag (h.ev rfl)) rfl ?_;intro f h
 refine ac h (dn [.pointer (some ⟨b3,0,none⟩)] (jE h rfl)) rfl ?_;intro f h
 refine aI h s zw (i1 l vh 87 [.pointer (some ⟨b3,0,none⟩)] (fun x=>decide (x.1=no)) _ (hR.keep s.ext) hln Di (fun w9 h9 x _=>qC x no b3 w9 ((gZ.of_own s 0 rfl).keep h9))) rfl rfl ?_;intro f w1 v9 hT hE h s;obtain rfl:=hT
 refine ac h (ak (h.ev rfl)) rfl ?_;intro f h
 refine ah ?_
 refine hK2 _ _ ?_
 refine wpIn_ret ?_
 exact bo rfl h s rfl (rfl)
theorem jq (l:List Mb) (vh:Value) (no:Int) (w:World) (hR:bX w vh 33 l.length (ar l)) (hln:l.length≤1000):Calls Tryz.prog 114 [vh,.int .i64 no].toArray w (cU w (is (.bool (iv l no)))):=by
 refine bq Tryz.func114 rfl Tryz.ntmps114 rfl [(0,vh),(1,.int .i64 no)] (by simp) fun f h=>?_
 have s:=St.start w
 refine al fun K1 hK1=>?_
 refine ae ?_
 refine ac h (ak (h.ev rfl)) rfl ?_;intro f h
 refine ah ?_
 refine hK1 _ _ ?_
 refine al fun K2 hK2=>?_
 refine al fun K3 hK3=>?_
 refine ae ?_
 refine ac h (ag (h.ev rfl)) rfl ?_;intro f h
 refine ac h (a8 (hR.keep s.ext) Tryz.underlying36 (h.ev rfl)) rfl ?_;intro f h
 refine ac h (ag (h.ev rfl)) rfl ?_;intro f h
 refine ah ?_
 refine hK3 _ _ ?_
 refine wpIn_block ?_
 refine wpIn_loop_ghost (fun nn aa ww=>∃ k:Nat,Sl 32 aa [(0,vh),(1,.int .i64 no),(7,vh),(8,.int .i64 (l.length:Int)),(9,.int .i64 (k:Int))]∧St w [] ww∧nn=l.length - k∧k≤l.length∧∀ j,j<k→iY l no j=false) (l.length - (0)) ⟨0,h.only ⟨rfl,rfl,rfl,rfl,aO rfl (by omega),trivial⟩,s.as trivial,rfl,Nat.zero_le _,fun j hj=>absurd hj (Nat.not_lt_zero _)⟩ ?_
 rintro _ f w1 ⟨k,h,s,hnn,hp0,hp1⟩
 refine al fun K4 hK4=>?_
 refine ae ?_
 refine ac h (bS (h.ev rfl) (h.ev rfl)) rfl ?_;intro f h
 refine ah ?_
 refine hK4 _ _ ?_
 refine al fun K5 hK5=>?_
 refine bK h rfl (fun hc=>?_) (fun hc=>?_)
 ·replace hc:=of_decide_eq_true hc
  refine wpIn_skip ?_
  refine hK5 _ _ ?_
  refine al fun K6 hK6=>?_
  refine wpIn_block ?_
  refine al fun K7 hK7=>?_
  refine ae ?_
  refine ac h (ag (h.ev rfl)) rfl ?_;intro f h
  have hkl:k<l.length:=by omega
  refine ac h (cc (hR.keep s.ext) (k) Tryz.underlying36 cD (h.ev rfl) (h.ev rfl) (by omega) (by omega)) rfl ?_;intro f h
  refine ax ((hR.keep s.ext).el (k) (by omega) (by decide) (D:=av (l.getD k aZ)) (cI l k hkl)) h aC rfl (aj _) rfl ?_;intro f h
  refine bf (av aZ) h s cB rfl rfl ?_;intro f w1 b6 h s
  refine ac h (ak (h.ev rfl)) rfl ?_;intro f h
  refine az 0 h s aC rfl rfl rfl (aj _) (aj _) (aS _) ?_;intro w1 s
  refine ah ?_
  refine hK7 _ _ ?_
  refine al fun K8 hK8=>?_
  cases k0:(dO (l.getD k aZ):Bool)
  ·skip
   refine bH 17 [[],[0],[0,1],[0,1,2],[0,1,2,3],[0,1,2,3,4],[0,1,2,3],[0,1,2,3,4,5,6],[0,1,2,3,4,5,6,7],[0,1,2,3,4,5,6,7,8],[0,1,2,3,4,5,6,7,8,9],[0,1,2,3,4,5,6,7,8,9],[0,1,2,3,4,5,6,7,8,9,10,11],[0,1,2,3,4,5,6,7,8,9],[0,1,2,3,4,5,6,7,8,9,13],[0,1,2,3,4,5,6,7,8,9,10,11,12,13,14],[0,1,2,3,4,5,6,7,8,9,10,11,12,13,14,15]] h (by kernel_rfl) (by kernel_rfl) (by kernel_rfl) ?_
   refine bM 0 h s aC rfl rfl (aj _) rfl ?_;intro f h
   refine cn h fN (fun w9 hE9=>aM (.bool false) (dF (l.getD k aZ) w9) (congrArg Value.bool k0)) rfl rfl ?_;intro f h
   refine ao h (aw (.bool true) (bB (h.ev rfl)) rfl) rfl ?_;intro f h
   refine ao h (ag (h.ev rfl)) rfl ?_;intro f h
   refine aX (b:=false) h rfl rfl rfl rfl ?_;intro f h
   refine aX (b:=false) h rfl rfl rfl rfl ?_;intro f h
   refine aX (b:=false) h rfl rfl rfl rfl ?_;intro f h
   refine aX (b:=false) h rfl rfl rfl rfl ?_;intro f h
   refine ao h (aD (h.ev rfl) (h.ev rfl)) rfl ?_;intro f h
   refine ao h (ag (h.ev rfl)) rfl ?_;intro f h
   refine aX (b:=false) h rfl rfl rfl rfl ?_;intro f h
   refine aX (b:=false) h rfl rfl rfl rfl ?_;intro f h
   refine aX (b:=false) h rfl rfl rfl rfl ?_;intro f h
   refine aX (b:=false) h rfl rfl rfl rfl ?_;intro f h
   refine aX (b:=false) h rfl rfl rfl rfl ?_;intro f h
   refine aX (b:=false) h rfl rfl rfl rfl ?_;intro f h
   refine ao h (aD (h.ev rfl) (h.ev rfl)) rfl ?_;intro f h
   refine ck s fun w1 s=>?_
   refine ah ?_
   refine hK8 _ _ ?_
   refine wpIn_cond_true (h.ev rfl) ?_
   refine al fun K9 hK9=>?_
   refine ae ?_
   refine ac h (ak (h.ev rfl)) rfl ?_;intro f h
   refine ah ?_
   refine hK9 _ _ ?_
   refine wpIn_ret ?_
   refine bQ ?_
   refine aY ?_
   refine aY ?_
   refine bQ ?_
   refine aY ?_
   exact bo rfl h s rfl (by show _=_;rw [gj hkl (xj k0)])
  ·skip
   cases k1:(decide ((l.getD k aZ).1=no):Bool)
   ·skip
    refine bH 17 [[],[0],[0,1],[0,1,2],[0,1,2,3],[0,1,2,3,4],[0,1,2,3],[0,1,2,3,4,5,6],[0,1,2,3,4,5,6,7],[0,1,2,3,4,5,6,7,8],[0,1,2,3,4,5,6,7,8,9],[0,1,2,3,4,5,6,7,8,9],[0,1,2,3,4,5,6,7,8,9,10,11],[0,1,2,3,4,5,6,7,8,9],[0,1,2,3,4,5,6,7,8,9,13],[0,1,2,3,4,5,6,7,8,9,10,11,12,13,14],[0,1,2,3,4,5,6,7,8,9,10,11,12,13,14,15]] h (by kernel_rfl) (by kernel_rfl) (by kernel_rfl) ?_
    refine bM 0 h s aC rfl rfl (aj _) rfl ?_;intro f h
    refine cn h fN (fun w9 hE9=>aM (.bool true) (dF (l.getD k aZ) w9) (congrArg Value.bool k0)) rfl rfl ?_;intro f h
    refine ao h (aw (.bool false) (bB (h.ev rfl)) rfl) rfl ?_;intro f h
    refine ao h (ag (h.ev rfl)) rfl ?_;intro f h
    refine aT h rfl rfl rfl ?_
    refine ao h (ai aH (h.ev rfl)) rfl ?_;intro f h
    refine aT h rfl rfl rfl ?_
    refine aU (am (aL.of_own s 0 rfl) 0 (aP _)) h bw rfl rfl ?_;intro f h
    refine aT h rfl rfl rfl ?_
    refine ao h (ag (h.ev rfl)) rfl ?_;intro f h
    refine aT h rfl rfl rfl ?_
    refine ao h (aw (.bool false) (bU (h.ev rfl) (h.ev rfl)) (congrArg Value.bool k1)) rfl ?_;intro f h
    refine ao h (aF (h.ev rfl) (h.ev rfl)) rfl ?_;intro f h
    refine ao h (ag (h.ev rfl)) rfl ?_;intro f h
    refine aT h rfl rfl rfl ?_
    refine ao h (ag (h.ev rfl)) rfl ?_;intro f h
    refine aT h rfl rfl rfl ?_
    refine ao h (ag (h.ev rfl)) rfl ?_;intro f h
    refine aT h rfl rfl rfl ?_
    refine ao h (dG (hR.keep s.ext) (k) Tryz.underlying36 cD (h.ev rfl) (h.ev rfl) (rfl) (by omega)) rfl ?_;intro f h
    refine aT h rfl rfl rfl ?_
    refine ao h (ai aH (h.ev rfl)) rfl ?_;intro f h
    refine aT h rfl rfl rfl ?_
    refine aU (am (aL.of_own s 0 rfl) 0 (aP _)) h bw rfl rfl ?_;intro f h
    refine aT h rfl rfl rfl ?_
    refine cn h uy (fun w9 hE9=>ko (l.take k) (gn vh k) (l.getD k aZ).1 w9 ((fc hR k (by omega)).keep (s.ext.trans hE9)) (by rw [List.length_take];omega)) rfl rfl ?_;intro f h
    refine ao h (aF (h.ev rfl) (h.ev rfl)) rfl ?_;intro f h
    refine ck s fun w1 s=>?_
    refine ah ?_
    refine hK8 _ _ ?_
    refine bK h rfl (fun hc=>?_) (fun hc=>?_)
    ·refine al fun K10 hK10=>?_
     refine ae ?_
     refine ac h (ak (h.ev rfl)) rfl ?_;intro f h
     refine ah ?_
     refine hK10 _ _ ?_
     refine wpIn_ret ?_
     refine bQ ?_
     refine aY ?_
     refine aY ?_
     refine bQ ?_
     refine aY ?_
     exact bo rfl h s rfl (by show _=_;rw [gj hkl ((nB k0 k1).trans hc)])
    ·refine wpIn_skip ?_
     refine bF ?_
     refine hK6 _ _ ?_
     refine ae ?_
     refine ac h (ce (h.ev rfl) (h.ev rfl) (by omega)) rfl ?_;intro f h
     refine ac h (ag (h.ev rfl)) rfl ?_;intro f h
     refine ah ?_
     refine bT ?_
     have hb9:iY l no k=false:=(nB k0 k1).trans hc
     exact ⟨_,by omega,⟨k+1,h.only ⟨rfl,rfl,rfl,rfl,aO rfl (by omega),trivial⟩,St.as (s.pick _ (List.sublist_append_right [_] _)) trivial,rfl,by omega,de hp1 hb9⟩⟩
   ·skip
    refine bH 17 [[],[0],[0,1],[0,1,2],[0,1,2,3],[0,1,2,3,4],[0,1,2,3],[0,1,2,3,4,5,6],[0,1,2,3,4,5,6,7],[0,1,2,3,4,5,6,7,8],[0,1,2,3,4,5,6,7,8,9],[0,1,2,3,4,5,6,7,8,9],[0,1,2,3,4,5,6,7,8,9,10,11],[0,1,2,3,4,5,6,7,8,9],[0,1,2,3,4,5,6,7,8,9,13],[0,1,2,3,4,5,6,7,8,9,10,11,12,13,14],[0,1,2,3,4,5,6,7,8,9,10,11,12,13,14,15]] h (by kernel_rfl) (by kernel_rfl) (by kernel_rfl) ?_
    refine bM 0 h s aC rfl rfl (aj _) rfl ?_;intro f h
    refine cn h fN (fun w9 hE9=>aM (.bool true) (dF (l.getD k aZ) w9) (congrArg Value.bool k0)) rfl rfl ?_;intro f h
    refine ao h (aw (.bool false) (bB (h.ev rfl)) rfl) rfl ?_;intro f h
    refine ao h (ag (h.ev rfl)) rfl ?_;intro f h
    refine aT h rfl rfl rfl ?_
    refine ao h (ai aH (h.ev rfl)) rfl ?_;intro f h
    refine aT h rfl rfl rfl ?_
    refine aU (am (aL.of_own s 0 rfl) 0 (aP _)) h bw rfl rfl ?_;intro f h
    refine aT h rfl rfl rfl ?_
    refine ao h (ag (h.ev rfl)) rfl ?_;intro f h
    refine aT h rfl rfl rfl ?_
    refine ao h (aw (.bool true) (bU (h.ev rfl) (h.ev rfl)) (congrArg Value.bool k1)) rfl ?_;intro f h
    refine ao h (aF (h.ev rfl) (h.ev rfl)) rfl ?_;intro f h
    refine ao h (ag (h.ev rfl)) rfl ?_;intro f h
    refine aX (b:=false) h rfl rfl rfl rfl ?_;intro f h
    refine aX (b:=false) h rfl rfl rfl rfl ?_;intro f h
    refine aX (b:=false) h rfl rfl rfl rfl ?_;intro f h
    refine aX (b:=false) h rfl rfl rfl rfl ?_;intro f h
    refine aX (b:=false) h rfl rfl rfl rfl ?_;intro f h
    refine aX (b:=false) h rfl rfl rfl rfl ?_;intro f h
    refine ao h (aD (h.ev rfl) (h.ev rfl)) rfl ?_;intro f h
    refine ck s fun w1 s=>?_
    refine ah ?_
    refine hK8 _ _ ?_
    refine wpIn_cond_true (h.ev rfl) ?_
    refine al fun K11 hK11=>?_
    refine ae ?_
    refine ac h (ak (h.ev rfl)) rfl ?_;intro f h
    refine ah ?_
    refine hK11 _ _ ?_
    refine wpIn_ret ?_
    refine bQ ?_
    refine aY ?_
    refine aY ?_
    refine bQ ?_
    refine aY ?_
    exact bo rfl h s rfl (by show _=_;rw [gj hkl (vV k1)])
 ·replace hc:=of_decide_eq_false hc
  refine wpIn_exit ?_
  refine bJ ?_
  refine bJ ?_
  refine cC ?_
  refine hK2 _ _ ?_
  refine al fun K12 hK12=>?_
  refine ae ?_
  refine ac h (ak (h.ev rfl)) rfl ?_;intro f h
  refine ah ?_
  refine hK12 _ _ ?_
  refine wpIn_ret ?_
  exact bo rfl h s rfl (by show _=_;rw [pv (by omega) hp1])
theorem sp (l:List Mb) (vh:Value) (m:Mb) (w:World) (hR:bX w vh 33 l.length (ar l)) (hln:l.length≤1000):Calls Tryz.prog 81 [vh,.agg (av m)].toArray w (cU w (is (.bool (iw l m)))):=by
 refine bq Tryz.func81 rfl Tryz.ntmps81 rfl [(0,vh),(1,.agg (av m))] (by simp) fun f h=>?_
 have s:=St.start w
 refine al fun K1 hK1=>?_
 refine ae ?_
 refine bV ((av m)) h s rfl rfl rfl ?_;intro f w1 b3 h s
 refine ac h (ak (h.ev rfl)) rfl ?_;intro f h
 refine ah ?_
 refine hK1 _ _ ?_
 refine al fun K2 hK2=>?_
 refine al fun K3 hK3=>?_
 cases h1:(decide (l.length=1):Bool)
 ·skip
  refine bH 10 [[],[0],[0,1],[0,1,2],[0,1,2,3],[0,1,2,3,4],[0,1,2,3,4,5],[0,1,2,3],[0,1,2,3,4,5,6,7],[0,1,2,3,4,5,6,7,8]] h (by kernel_rfl) (by kernel_rfl) (by kernel_rfl) ?_
  refine ao h (ag (h.ev rfl)) rfl ?_;intro f h
  refine ao h (a8 (hR.keep s.ext) Tryz.underlying36 (h.ev rfl)) rfl ?_;intro f h
  refine ao h (aw (.bool false) (bU (h.ev rfl) (h.ev rfl)) (congrArg Value.bool (decide_eq_false (by have:=of_decide_eq_false h1;omega)))) rfl ?_;intro f h
  refine ao h (ag (h.ev rfl)) rfl ?_;intro f h
  refine aX (b:=true) h rfl rfl rfl rfl ?_;intro f h
  refine aX (b:=true) h rfl rfl rfl rfl ?_;intro f h
  refine aX (b:=true) h rfl rfl rfl rfl ?_;intro f h
  refine aX (b:=true) h rfl rfl rfl rfl ?_;intro f h
  refine aX (b:=true) h rfl rfl rfl rfl ?_;intro f h
  refine ao h (aF (h.ev rfl) (h.ev rfl)) rfl ?_;intro f h
  refine ck s fun w1 s=>?_
  refine ah ?_
  refine hK3 _ _ ?_
  refine wpIn_cond_false (h.ev rfl) ?_
  refine wpIn_skip ?_
  refine hK2 _ _ ?_
  refine al fun K4 hK4=>?_
  cases g0:(decide (1≤l.length):Bool)
  ·skip
   refine ae ?_
   have hno:¬ (l.length=1∧l.getD 0 aZ=m):=(by rintro ⟨h9,h8⟩;exact absurd h9 (of_decide_eq_false h1))
   refine ac h (ag (h.ev rfl)) rfl ?_;intro f h
   refine ac h (a8 (hR.keep s.ext) Tryz.underlying36 (h.ev rfl)) rfl ?_;intro f h
   refine ac h (aw (.bool false) (dm (h.ev rfl) (h.ev rfl)) (congrArg Value.bool (decide_eq_false (by have:=of_decide_eq_false g0;omega)))) rfl ?_;intro f h
   refine ac h (ag (h.ev rfl)) rfl ?_;intro f h
   refine aB (b:=true) h rfl rfl rfl rfl ?_;intro f h
   refine aB (b:=true) h rfl rfl rfl rfl ?_;intro f h
   refine aB (b:=true) h rfl rfl rfl rfl ?_;intro f h
   refine ac h (aF (h.ev rfl) (h.ev rfl)) rfl ?_;intro f h
   refine ac h (ag (h.ev rfl)) rfl ?_;intro f h
   refine aB (b:=true) h rfl rfl rfl rfl ?_;intro f h
   refine aB (b:=true) h rfl rfl rfl rfl ?_;intro f h
   refine aB (b:=true) h rfl rfl rfl rfl ?_;intro f h
   refine aB (b:=true) h rfl rfl rfl rfl ?_;intro f h
   refine ac h (aF (h.ev rfl) (h.ev rfl)) rfl ?_;intro f h
   refine ac h (ak (h.ev rfl)) rfl ?_;intro f h
   refine ah ?_
   refine hK4 _ _ ?_
   refine wpIn_ret ?_
   exact bo rfl h s rfl (by show _=_;rw [xc hno g0])
  ·skip
   cases g1:(decide (l.length≤4):Bool)
   ·skip
    refine ae ?_
    have hno:¬ (l.length=1∧l.getD 0 aZ=m):=(by rintro ⟨h9,h8⟩;exact absurd h9 (of_decide_eq_false h1))
    refine ac h (ag (h.ev rfl)) rfl ?_;intro f h
    refine ac h (a8 (hR.keep s.ext) Tryz.underlying36 (h.ev rfl)) rfl ?_;intro f h
    refine ac h (aw (.bool true) (dm (h.ev rfl) (h.ev rfl)) (congrArg Value.bool (decide_eq_true (by have:=of_decide_eq_true g0;omega)))) rfl ?_;intro f h
    refine ac h (ag (h.ev rfl)) rfl ?_;intro f h
    refine aA h rfl rfl rfl ?_
    refine ac h (ag (h.ev rfl)) rfl ?_;intro f h
    refine aA h rfl rfl rfl ?_
    refine ac h (a8 (hR.keep s.ext) Tryz.underlying36 (h.ev rfl)) rfl ?_;intro f h
    refine aA h rfl rfl rfl ?_
    refine ac h (aw (.bool false) (gL (h.ev rfl) (h.ev rfl)) (congrArg Value.bool (decide_eq_false (by have:=of_decide_eq_false g1;omega)))) rfl ?_;intro f h
    refine ac h (aD (h.ev rfl) (h.ev rfl)) rfl ?_;intro f h
    refine ac h (ag (h.ev rfl)) rfl ?_;intro f h
    refine aB (b:=true) h rfl rfl rfl rfl ?_;intro f h
    refine aB (b:=true) h rfl rfl rfl rfl ?_;intro f h
    refine aB (b:=true) h rfl rfl rfl rfl ?_;intro f h
    refine aB (b:=true) h rfl rfl rfl rfl ?_;intro f h
    refine ac h (aF (h.ev rfl) (h.ev rfl)) rfl ?_;intro f h
    refine ac h (ak (h.ev rfl)) rfl ?_;intro f h
    refine ah ?_
    refine hK4 _ _ ?_
    refine wpIn_ret ?_
    exact bo rfl h s rfl (by show _=_;rw [ug hno g1])
   ·skip
    refine ae ?_
    have hno:¬ (l.length=1∧l.getD 0 aZ=m):=(by rintro ⟨h9,h8⟩;exact absurd h9 (of_decide_eq_false h1))
    refine ac h (ag (h.ev rfl)) rfl ?_;intro f h
    refine ac h (a8 (hR.keep s.ext) Tryz.underlying36 (h.ev rfl)) rfl ?_;intro f h
    refine ac h (aw (.bool true) (dm (h.ev rfl) (h.ev rfl)) (congrArg Value.bool (decide_eq_true (by have:=of_decide_eq_true g0;omega)))) rfl ?_;intro f h
    refine ac h (ag (h.ev rfl)) rfl ?_;intro f h
    refine aA h rfl rfl rfl ?_
    refine ac h (ag (h.ev rfl)) rfl ?_;intro f h
    refine aA h rfl rfl rfl ?_
    refine ac h (a8 (hR.keep s.ext) Tryz.underlying36 (h.ev rfl)) rfl ?_;intro f h
    refine aA h rfl rfl rfl ?_
    refine ac h (aw (.bool true) (gL (h.ev rfl) (h.ev rfl)) (congrArg Value.bool (decide_eq_true (by have:=of_decide_eq_true g1;omega)))) rfl ?_;intro f h
    refine ac h (aD (h.ev rfl) (h.ev rfl)) rfl ?_;intro f h
    refine ac h (ag (h.ev rfl)) rfl ?_;intro f h
    refine aA h rfl rfl rfl ?_
    refine ac h (ag (h.ev rfl)) rfl ?_;intro f h
    refine aA h rfl rfl rfl ?_
    refine ac h (ai aH (h.ev rfl)) rfl ?_;intro f h
    refine aA h rfl rfl rfl ?_
    refine aq (am (aL.of_own s 0 rfl) 0 (aP _)) h bw rfl rfl ?_;intro f h
    refine aA h rfl rfl rfl ?_
    refine aI h s qZ (jq l vh m.1 _ (hR.keep s.ext) hln) rfl rfl ?_;intro f w1 v9 hT hE h s;obtain rfl:=hT
    refine ac h (aD (h.ev rfl) (h.ev rfl)) rfl ?_;intro f h
    refine ac h (ak (h.ev rfl)) rfl ?_;intro f h
    refine ah ?_
    refine hK4 _ _ ?_
    refine wpIn_ret ?_
    exact bo rfl h s rfl (by show _=_;rw [uw hno g0 g1])
 ·skip
  cases h2:(decide (l.getD 0 aZ=m):Bool)
  ·skip
   refine bH 10 [[],[0],[0,1],[0,1,2],[0,1,2,3],[0,1,2,3,4],[0,1,2,3,4,5],[0,1,2,3],[0,1,2,3,4,5,6,7],[0,1,2,3,4,5,6,7,8]] h (by kernel_rfl) (by kernel_rfl) (by kernel_rfl) ?_
   refine ao h (ag (h.ev rfl)) rfl ?_;intro f h
   refine ao h (a8 (hR.keep s.ext) Tryz.underlying36 (h.ev rfl)) rfl ?_;intro f h
   refine ao h (aw (.bool true) (bU (h.ev rfl) (h.ev rfl)) (congrArg Value.bool (decide_eq_true (by have:=of_decide_eq_true h1;omega)))) rfl ?_;intro f h
   refine ao h (ag (h.ev rfl)) rfl ?_;intro f h
   refine aT h rfl rfl rfl ?_
   refine ao h (ag (h.ev rfl)) rfl ?_;intro f h
   refine aT h rfl rfl rfl ?_
   have h19:=of_decide_eq_true h1
   refine ao h (cc (hR.keep s.ext) (0) Tryz.underlying36 cD (h.ev rfl) (h.ev rfl) (by omega) (by omega)) rfl ?_;intro f h
   refine aT h rfl rfl rfl ?_
   refine bi ((hR.keep s.ext).el (0) (by omega) (by decide) (D:=av (l.getD 0 aZ)) (cI l 0 (by omega))) h aC rfl (aj _) rfl ?_;intro f h
   refine aT h rfl rfl rfl ?_
   refine bM 0 h s aC rfl rfl (aj _) rfl ?_;intro f h
   refine aT h rfl rfl rfl ?_
   refine ao h (aw (.bool false) (bW (eo _ _) (by kernel_rfl) (by decide) (h.ev rfl) (h.ev rfl) (decide (l.getD 0 aZ=m)) (cR _ _)) (congrArg Value.bool h2)) rfl ?_;intro f h
   refine ao h (aD (h.ev rfl) (h.ev rfl)) rfl ?_;intro f h
   refine ck s fun w1 s=>?_
   refine ah ?_
   refine hK3 _ _ ?_
   refine wpIn_cond_false (h.ev rfl) ?_
   refine wpIn_skip ?_
   refine hK2 _ _ ?_
   refine al fun K5 hK5=>?_
   cases g0:(decide (1≤l.length):Bool)
   ·skip
    refine ae ?_
    have hno:¬ (l.length=1∧l.getD 0 aZ=m):=(by rintro ⟨h9,h8⟩;exact absurd h8 (of_decide_eq_false h2))
    refine ac h (ag (h.ev rfl)) rfl ?_;intro f h
    refine ac h (a8 (hR.keep s.ext) Tryz.underlying36 (h.ev rfl)) rfl ?_;intro f h
    refine ac h (aw (.bool false) (dm (h.ev rfl) (h.ev rfl)) (congrArg Value.bool (decide_eq_false (by have:=of_decide_eq_false g0;omega)))) rfl ?_;intro f h
    refine ac h (ag (h.ev rfl)) rfl ?_;intro f h
    refine aB (b:=true) h rfl rfl rfl rfl ?_;intro f h
    refine aB (b:=true) h rfl rfl rfl rfl ?_;intro f h
    refine aB (b:=true) h rfl rfl rfl rfl ?_;intro f h
    refine ac h (aF (h.ev rfl) (h.ev rfl)) rfl ?_;intro f h
    refine ac h (ag (h.ev rfl)) rfl ?_;intro f h
    refine aB (b:=true) h rfl rfl rfl rfl ?_;intro f h
    refine aB (b:=true) h rfl rfl rfl rfl ?_;intro f h
    refine aB (b:=true) h rfl rfl rfl rfl ?_;intro f h
    refine aB (b:=true) h rfl rfl rfl rfl ?_;intro f h
    refine ac h (aF (h.ev rfl) (h.ev rfl)) rfl ?_;intro f h
    refine ac h (ak (h.ev rfl)) rfl ?_;intro f h
    refine ah ?_
    refine hK5 _ _ ?_
    refine wpIn_ret ?_
    exact bo rfl h s rfl (by show _=_;rw [xc hno g0])
   ·skip
    cases g1:(decide (l.length≤4):Bool)
    ·skip
     refine ae ?_
     have hno:¬ (l.length=1∧l.getD 0 aZ=m):=(by rintro ⟨h9,h8⟩;exact absurd h8 (of_decide_eq_false h2))
     refine ac h (ag (h.ev rfl)) rfl ?_;intro f h
     refine ac h (a8 (hR.keep s.ext) Tryz.underlying36 (h.ev rfl)) rfl ?_;intro f h
     refine ac h (aw (.bool true) (dm (h.ev rfl) (h.ev rfl)) (congrArg Value.bool (decide_eq_true (by have:=of_decide_eq_true g0;omega)))) rfl ?_;intro f h
     refine ac h (ag (h.ev rfl)) rfl ?_;intro f h
     refine aA h rfl rfl rfl ?_
     refine ac h (ag (h.ev rfl)) rfl ?_;intro f h
     refine aA h rfl rfl rfl ?_
     refine ac h (a8 (hR.keep s.ext) Tryz.underlying36 (h.ev rfl)) rfl ?_;intro f h
     refine aA h rfl rfl rfl ?_
     refine ac h (aw (.bool false) (gL (h.ev rfl) (h.ev rfl)) (congrArg Value.bool (decide_eq_false (by have:=of_decide_eq_false g1;omega)))) rfl ?_;intro f h
     refine ac h (aD (h.ev rfl) (h.ev rfl)) rfl ?_;intro f h
     refine ac h (ag (h.ev rfl)) rfl ?_;intro f h
     refine aB (b:=true) h rfl rfl rfl rfl ?_;intro f h
     refine aB (b:=true) h rfl rfl rfl rfl ?_;intro f h
     refine aB (b:=true) h rfl rfl rfl rfl ?_;intro f h
     refine aB (b:=true) h rfl rfl rfl rfl ?_;intro f h
     refine ac h (aF (h.ev rfl) (h.ev rfl)) rfl ?_;intro f h
     refine ac h (ak (h.ev rfl)) rfl ?_;intro f h
     refine ah ?_
     refine hK5 _ _ ?_
     refine wpIn_ret ?_
     exact bo rfl h s rfl (by show _=_;rw [ug hno g1])
    ·skip
     refine ae ?_
     have hno:¬ (l.length=1∧l.getD 0 aZ=m):=(by rintro ⟨h9,h8⟩;exact absurd h8 (of_decide_eq_false h2))
     refine ac h (ag (h.ev rfl)) rfl ?_;intro f h
     refine ac h (a8 (hR.keep s.ext) Tryz.underlying36 (h.ev rfl)) rfl ?_;intro f h
     refine ac h (aw (.bool true) (dm (h.ev rfl) (h.ev rfl)) (congrArg Value.bool (decide_eq_true (by have:=of_decide_eq_true g0;omega)))) rfl ?_;intro f h
     refine ac h (ag (h.ev rfl)) rfl ?_;intro f h
     refine aA h rfl rfl rfl ?_
     refine ac h (ag (h.ev rfl)) rfl ?_;intro f h
     refine aA h rfl rfl rfl ?_
     refine ac h (a8 (hR.keep s.ext) Tryz.underlying36 (h.ev rfl)) rfl ?_;intro f h
     refine aA h rfl rfl rfl ?_
     refine ac h (aw (.bool true) (gL (h.ev rfl) (h.ev rfl)) (congrArg Value.bool (decide_eq_true (by have:=of_decide_eq_true g1;omega)))) rfl ?_;intro f h
     refine ac h (aD (h.ev rfl) (h.ev rfl)) rfl ?_;intro f h
     refine ac h (ag (h.ev rfl)) rfl ?_;intro f h
     refine aA h rfl rfl rfl ?_
     refine ac h (ag (h.ev rfl)) rfl ?_;intro f h
     refine aA h rfl rfl rfl ?_
     refine ac h (ai aH (h.ev rfl)) rfl ?_;intro f h
     refine aA h rfl rfl rfl ?_
     refine aq (am (aL.of_own s 0 rfl) 0 (aP _)) h bw rfl rfl ?_;intro f h
     refine aA h rfl rfl rfl ?_
     refine aI h s qZ (jq l vh m.1 _ (hR.keep s.ext) hln) rfl rfl ?_;intro f w1 v9 hT hE h s;obtain rfl:=hT
     refine ac h (aD (h.ev rfl) (h.ev rfl)) rfl ?_;intro f h
     refine ac h (ak (h.ev rfl)) rfl ?_;intro f h
     refine ah ?_
     refine hK5 _ _ ?_
     refine wpIn_ret ?_
     exact bo rfl h s rfl (by show _=_;rw [uw hno g0 g1])
  ·skip
   refine bH 10 [[],[0],[0,1],[0,1,2],[0,1,2,3],[0,1,2,3,4],[0,1,2,3,4,5],[0,1,2,3],[0,1,2,3,4,5,6,7],[0,1,2,3,4,5,6,7,8]] h (by kernel_rfl) (by kernel_rfl) (by kernel_rfl) ?_
   refine ao h (ag (h.ev rfl)) rfl ?_;intro f h
   refine ao h (a8 (hR.keep s.ext) Tryz.underlying36 (h.ev rfl)) rfl ?_;intro f h
   refine ao h (aw (.bool true) (bU (h.ev rfl) (h.ev rfl)) (congrArg Value.bool (decide_eq_true (by have:=of_decide_eq_true h1;omega)))) rfl ?_;intro f h
   refine ao h (ag (h.ev rfl)) rfl ?_;intro f h
   refine aT h rfl rfl rfl ?_
   refine ao h (ag (h.ev rfl)) rfl ?_;intro f h
   refine aT h rfl rfl rfl ?_
   have h19:=of_decide_eq_true h1
   refine ao h (cc (hR.keep s.ext) (0) Tryz.underlying36 cD (h.ev rfl) (h.ev rfl) (by omega) (by omega)) rfl ?_;intro f h
   refine aT h rfl rfl rfl ?_
   refine bi ((hR.keep s.ext).el (0) (by omega) (by decide) (D:=av (l.getD 0 aZ)) (cI l 0 (by omega))) h aC rfl (aj _) rfl ?_;intro f h
   refine aT h rfl rfl rfl ?_
   refine bM 0 h s aC rfl rfl (aj _) rfl ?_;intro f h
   refine aT h rfl rfl rfl ?_
   refine ao h (aw (.bool true) (bW (eo _ _) (by kernel_rfl) (by decide) (h.ev rfl) (h.ev rfl) (decide (l.getD 0 aZ=m)) (cR _ _)) (congrArg Value.bool h2)) rfl ?_;intro f h
   refine ao h (aD (h.ev rfl) (h.ev rfl)) rfl ?_;intro f h
   refine ck s fun w1 s=>?_
   refine ah ?_
   refine hK3 _ _ ?_
   refine wpIn_cond_true (h.ev rfl) ?_
   refine al fun K6 hK6=>?_
   refine ae ?_
   refine ac h (ak (h.ev rfl)) rfl ?_;intro f h
   refine ah ?_
   refine hK6 _ _ ?_
   refine wpIn_ret ?_
   refine aY ?_
   exact bo rfl h s rfl (by show _=_;rw [uC h1 h2])
theorem uH (l:List Mb) (vh:Value) (no:Int) (w:World) (hR:bX w vh 33 l.length (ar l)) (hln:l.length≤1000):Calls Tryz.prog 82 [vh,.int .i64 no].toArray w (cU w (is (.bool (jT l no)))):=by
 refine bq Tryz.func82 rfl Tryz.ntmps82 rfl [(0,vh),(1,.int .i64 no)] (by simp) fun f h=>?_
 have s:=St.start w
 refine al fun K1 hK1=>?_
 refine ae ?_
 refine ac h (ak (h.ev rfl)) rfl ?_;intro f h
 refine ah ?_
 refine hK1 _ _ ?_
 refine al fun K2 hK2=>?_
 cases g0:(decide (l.length≤16):Bool)
 ·skip
  refine ae ?_
  refine ac h (ag (h.ev rfl)) rfl ?_;intro f h
  refine ac h (a8 (hR.keep s.ext) Tryz.underlying36 (h.ev rfl)) rfl ?_;intro f h
  refine ac h (aw (.bool false) (gL (h.ev rfl) (h.ev rfl)) (congrArg Value.bool (decide_eq_false (by have:=of_decide_eq_false g0;omega)))) rfl ?_;intro f h
  refine ac h (ag (h.ev rfl)) rfl ?_;intro f h
  refine aB (b:=true) h rfl rfl rfl rfl ?_;intro f h
  refine aB (b:=true) h rfl rfl rfl rfl ?_;intro f h
  refine aB (b:=true) h rfl rfl rfl rfl ?_;intro f h
  refine ac h (aF (h.ev rfl) (h.ev rfl)) rfl ?_;intro f h
  refine ac h (ak (h.ev rfl)) rfl ?_;intro f h
  refine ah ?_
  refine hK2 _ _ ?_
  refine wpIn_ret ?_
  exact bo rfl h s rfl (by show _=_;rw [z7 g0])
 ·skip
  refine ae ?_
  refine ac h (ag (h.ev rfl)) rfl ?_;intro f h
  refine ac h (a8 (hR.keep s.ext) Tryz.underlying36 (h.ev rfl)) rfl ?_;intro f h
  refine ac h (aw (.bool true) (gL (h.ev rfl) (h.ev rfl)) (congrArg Value.bool (decide_eq_true (by have:=of_decide_eq_true g0;omega)))) rfl ?_;intro f h
  refine ac h (ag (h.ev rfl)) rfl ?_;intro f h
  refine aA h rfl rfl rfl ?_
  refine ac h (ag (h.ev rfl)) rfl ?_;intro f h
  refine aA h rfl rfl rfl ?_
  refine ac h (ag (h.ev rfl)) rfl ?_;intro f h
  refine aA h rfl rfl rfl ?_
  refine aI h s qZ (jq l vh no _ (hR.keep s.ext) hln) rfl rfl ?_;intro f w1 v9 hT hE h s;obtain rfl:=hT
  refine ac h (aD (h.ev rfl) (h.ev rfl)) rfl ?_;intro f h
  refine ac h (ak (h.ev rfl)) rfl ?_;intro f h
  refine ah ?_
  refine hK2 _ _ ?_
  refine wpIn_ret ?_
  exact bo rfl h s rfl (by show _=_;rw [zG g0])
theorem db (n:Nd) (vs vf:Value) (w:World) (hRs:bX w vs 33 n.sc.length (ar n.sc)) (hRf:bX w vf 33 n.fg.length (ar n.fg)) (hns:n.sc.length≤1000) (hnf:n.fg.length≤1000):Calls Tryz.prog 48 [.agg (ay n.me n.pr vs vf)].toArray w (cU w (is (.bool (cr n)))):=by
 refine bq Tryz.func48 rfl Tryz.ntmps48 rfl [(0,.agg (ay n.me n.pr vs vf))] (by simp) fun f h=>?_
 have s:=St.start w
 refine al fun K1 hK1=>?_
 refine ae ?_
 refine bV (ay n.me n.pr vs vf) h s rfl rfl rfl ?_;intro f w1 b1 h s
 refine ac h (ak (h.ev rfl)) rfl ?_;intro f h
 refine ah ?_
 refine hK1 _ _ ?_
 refine al fun K2 hK2=>?_
 cases h0:(dO n.me:Bool)
 ·skip
  refine ae ?_
  refine ac h (ai aK (h.ev rfl)) rfl ?_;intro f h
  refine ax (aL.subL (aL.of_own s 0 rfl) 0 33 (D:=av n.me) (bj _ _ _ _)) h aC rfl (aj _) rfl ?_;intro f h
  refine aI h s fN (aM (.bool false) (dF n.me _) (congrArg Value.bool h0)) rfl rfl ?_;intro f w1 v9 hT hE h s;obtain rfl:=hT
  refine ac h (ag (h.ev rfl)) rfl ?_;intro f h
  refine aB (b:=true) h rfl rfl rfl rfl ?_;intro f h
  refine aB (b:=true) h rfl rfl rfl rfl ?_;intro f h
  refine aB (b:=true) h rfl rfl rfl rfl ?_;intro f h
  refine aB (b:=true) h rfl rfl rfl rfl ?_;intro f h
  refine aB (b:=true) h rfl rfl rfl rfl ?_;intro f h
  refine aB (b:=true) h rfl rfl rfl rfl ?_;intro f h
  refine ac h (aF (h.ev rfl) (h.ev rfl)) rfl ?_;intro f h
  refine ac h (ag (h.ev rfl)) rfl ?_;intro f h
  refine aB (b:=true) h rfl rfl rfl rfl ?_;intro f h
  refine aB (b:=true) h rfl rfl rfl rfl ?_;intro f h
  refine aB (b:=true) h rfl rfl rfl rfl ?_;intro f h
  refine aB (b:=true) h rfl rfl rfl rfl ?_;intro f h
  refine aB (b:=true) h rfl rfl rfl rfl ?_;intro f h
  refine ac h (aF (h.ev rfl) (h.ev rfl)) rfl ?_;intro f h
  refine ac h (ag (h.ev rfl)) rfl ?_;intro f h
  refine aB (b:=true) h rfl rfl rfl rfl ?_;intro f h
  refine aB (b:=true) h rfl rfl rfl rfl ?_;intro f h
  refine aB (b:=true) h rfl rfl rfl rfl ?_;intro f h
  refine aB (b:=true) h rfl rfl rfl rfl ?_;intro f h
  refine aB (b:=true) h rfl rfl rfl rfl ?_;intro f h
  refine aB (b:=true) h rfl rfl rfl rfl ?_;intro f h
  refine ac h (aF (h.ev rfl) (h.ev rfl)) rfl ?_;intro f h
  refine ac h (ak (h.ev rfl)) rfl ?_;intro f h
  refine ah ?_
  refine hK2 _ _ ?_
  refine wpIn_ret ?_
  exact bo rfl h s rfl (by show _=_;rw [rL h0])
 ·skip
  cases h1:(jp n.pr n.me.1:Bool)
  ·skip
   refine ae ?_
   refine ac h (ai aK (h.ev rfl)) rfl ?_;intro f h
   refine ax (aL.subL (aL.of_own s 0 rfl) 0 33 (D:=av n.me) (bj _ _ _ _)) h aC rfl (aj _) rfl ?_;intro f h
   refine aI h s fN (aM (.bool true) (dF n.me _) (congrArg Value.bool h0)) rfl rfl ?_;intro f w1 v9 hT hE h s;obtain rfl:=hT
   refine ac h (ag (h.ev rfl)) rfl ?_;intro f h
   refine aA h rfl rfl rfl ?_
   refine ac h (ai aV (h.ev rfl)) rfl ?_;intro f h
   refine aA h rfl rfl rfl ?_
   refine ax (aL.subL (aL.of_own s 0 rfl) 33 33 (D:=av n.pr) (bc _ _ _ _)) h aC rfl (aj _) rfl ?_;intro f h
   refine aA h rfl rfl rfl ?_
   refine ac h (ai aK (h.ev rfl)) rfl ?_;intro f h
   refine aA h rfl rfl rfl ?_
   refine ac h (ai aH (h.ev rfl)) rfl ?_;intro f h
   refine aA h rfl rfl rfl ?_
   refine aq (am (aL.of_own s 0 rfl) 0 (bZ _ _ _ _)) h bw rfl rfl ?_;intro f h
   refine aA h rfl rfl rfl ?_
   refine aI h s uj (aM (.bool false) (oE n.pr n.me.1 _) (congrArg Value.bool h1)) rfl rfl ?_;intro f w1 v9 hT hE h s;obtain rfl:=hT
   refine ac h (aD (h.ev rfl) (h.ev rfl)) rfl ?_;intro f h
   refine ac h (ag (h.ev rfl)) rfl ?_;intro f h
   refine aB (b:=true) h rfl rfl rfl rfl ?_;intro f h
   refine aB (b:=true) h rfl rfl rfl rfl ?_;intro f h
   refine aB (b:=true) h rfl rfl rfl rfl ?_;intro f h
   refine aB (b:=true) h rfl rfl rfl rfl ?_;intro f h
   refine aB (b:=true) h rfl rfl rfl rfl ?_;intro f h
   refine ac h (aF (h.ev rfl) (h.ev rfl)) rfl ?_;intro f h
   refine ac h (ag (h.ev rfl)) rfl ?_;intro f h
   refine aB (b:=true) h rfl rfl rfl rfl ?_;intro f h
   refine aB (b:=true) h rfl rfl rfl rfl ?_;intro f h
   refine aB (b:=true) h rfl rfl rfl rfl ?_;intro f h
   refine aB (b:=true) h rfl rfl rfl rfl ?_;intro f h
   refine aB (b:=true) h rfl rfl rfl rfl ?_;intro f h
   refine aB (b:=true) h rfl rfl rfl rfl ?_;intro f h
   refine ac h (aF (h.ev rfl) (h.ev rfl)) rfl ?_;intro f h
   refine ac h (ak (h.ev rfl)) rfl ?_;intro f h
   refine ah ?_
   refine hK2 _ _ ?_
   refine wpIn_ret ?_
   exact bo rfl h s rfl (by show _=_;rw [nU h1])
  ·skip
   cases h2:(iw n.sc n.me:Bool)
   ·skip
    refine ae ?_
    refine ac h (ai aK (h.ev rfl)) rfl ?_;intro f h
    refine ax (aL.subL (aL.of_own s 0 rfl) 0 33 (D:=av n.me) (bj _ _ _ _)) h aC rfl (aj _) rfl ?_;intro f h
    refine aI h s fN (aM (.bool true) (dF n.me _) (congrArg Value.bool h0)) rfl rfl ?_;intro f w1 v9 hT hE h s;obtain rfl:=hT
    refine ac h (ag (h.ev rfl)) rfl ?_;intro f h
    refine aA h rfl rfl rfl ?_
    refine ac h (ai aV (h.ev rfl)) rfl ?_;intro f h
    refine aA h rfl rfl rfl ?_
    refine ax (aL.subL (aL.of_own s 0 rfl) 33 33 (D:=av n.pr) (bc _ _ _ _)) h aC rfl (aj _) rfl ?_;intro f h
    refine aA h rfl rfl rfl ?_
    refine ac h (ai aK (h.ev rfl)) rfl ?_;intro f h
    refine aA h rfl rfl rfl ?_
    refine ac h (ai aH (h.ev rfl)) rfl ?_;intro f h
    refine aA h rfl rfl rfl ?_
    refine aq (am (aL.of_own s 0 rfl) 0 (bZ _ _ _ _)) h bw rfl rfl ?_;intro f h
    refine aA h rfl rfl rfl ?_
    refine aI h s uj (aM (.bool true) (oE n.pr n.me.1 _) (congrArg Value.bool h1)) rfl rfl ?_;intro f w1 v9 hT hE h s;obtain rfl:=hT
    refine ac h (aD (h.ev rfl) (h.ev rfl)) rfl ?_;intro f h
    refine ac h (ag (h.ev rfl)) rfl ?_;intro f h
    refine aA h rfl rfl rfl ?_
    refine ac h (ai bC (h.ev rfl)) rfl ?_;intro f h
    refine aA h rfl rfl rfl ?_
    refine aq (V:=vs) (am (aL.of_own s 0 rfl) 66 (bA _ _ _ _)) h bE rfl rfl ?_;intro f h
    refine aA h rfl rfl rfl ?_
    refine ac h (ai aK (h.ev rfl)) rfl ?_;intro f h
    refine aA h rfl rfl rfl ?_
    refine ax (aL.subL (aL.of_own s 0 rfl) 0 33 (D:=av n.me) (bj _ _ _ _)) h aC rfl (aj _) rfl ?_;intro f h
    refine aA h rfl rfl rfl ?_
    refine aI h s zT (aM (.bool false) (sp n.sc vs n.me _ (hRs.keep s.ext) hns) (congrArg Value.bool h2)) rfl rfl ?_;intro f w1 v9 hT hE h s;obtain rfl:=hT
    refine ac h (aD (h.ev rfl) (h.ev rfl)) rfl ?_;intro f h
    refine ac h (ag (h.ev rfl)) rfl ?_;intro f h
    refine aB (b:=true) h rfl rfl rfl rfl ?_;intro f h
    refine aB (b:=true) h rfl rfl rfl rfl ?_;intro f h
    refine aB (b:=true) h rfl rfl rfl rfl ?_;intro f h
    refine aB (b:=true) h rfl rfl rfl rfl ?_;intro f h
    refine aB (b:=true) h rfl rfl rfl rfl ?_;intro f h
    refine aB (b:=true) h rfl rfl rfl rfl ?_;intro f h
    refine ac h (aF (h.ev rfl) (h.ev rfl)) rfl ?_;intro f h
    refine ac h (ak (h.ev rfl)) rfl ?_;intro f h
    refine ah ?_
    refine hK2 _ _ ?_
    refine wpIn_ret ?_
    exact bo rfl h s rfl (by show _=_;rw [jO h2])
   ·skip
    refine ae ?_
    refine ac h (ai aK (h.ev rfl)) rfl ?_;intro f h
    refine ax (aL.subL (aL.of_own s 0 rfl) 0 33 (D:=av n.me) (bj _ _ _ _)) h aC rfl (aj _) rfl ?_;intro f h
    refine aI h s fN (aM (.bool true) (dF n.me _) (congrArg Value.bool h0)) rfl rfl ?_;intro f w1 v9 hT hE h s;obtain rfl:=hT
    refine ac h (ag (h.ev rfl)) rfl ?_;intro f h
    refine aA h rfl rfl rfl ?_
    refine ac h (ai aV (h.ev rfl)) rfl ?_;intro f h
    refine aA h rfl rfl rfl ?_
    refine ax (aL.subL (aL.of_own s 0 rfl) 33 33 (D:=av n.pr) (bc _ _ _ _)) h aC rfl (aj _) rfl ?_;intro f h
    refine aA h rfl rfl rfl ?_
    refine ac h (ai aK (h.ev rfl)) rfl ?_;intro f h
    refine aA h rfl rfl rfl ?_
    refine ac h (ai aH (h.ev rfl)) rfl ?_;intro f h
    refine aA h rfl rfl rfl ?_
    refine aq (am (aL.of_own s 0 rfl) 0 (bZ _ _ _ _)) h bw rfl rfl ?_;intro f h
    refine aA h rfl rfl rfl ?_
    refine aI h s uj (aM (.bool true) (oE n.pr n.me.1 _) (congrArg Value.bool h1)) rfl rfl ?_;intro f w1 v9 hT hE h s;obtain rfl:=hT
    refine ac h (aD (h.ev rfl) (h.ev rfl)) rfl ?_;intro f h
    refine ac h (ag (h.ev rfl)) rfl ?_;intro f h
    refine aA h rfl rfl rfl ?_
    refine ac h (ai bC (h.ev rfl)) rfl ?_;intro f h
    refine aA h rfl rfl rfl ?_
    refine aq (V:=vs) (am (aL.of_own s 0 rfl) 66 (bA _ _ _ _)) h bE rfl rfl ?_;intro f h
    refine aA h rfl rfl rfl ?_
    refine ac h (ai aK (h.ev rfl)) rfl ?_;intro f h
    refine aA h rfl rfl rfl ?_
    refine ax (aL.subL (aL.of_own s 0 rfl) 0 33 (D:=av n.me) (bj _ _ _ _)) h aC rfl (aj _) rfl ?_;intro f h
    refine aA h rfl rfl rfl ?_
    refine aI h s zT (aM (.bool true) (sp n.sc vs n.me _ (hRs.keep s.ext) hns) (congrArg Value.bool h2)) rfl rfl ?_;intro f w1 v9 hT hE h s;obtain rfl:=hT
    refine ac h (aD (h.ev rfl) (h.ev rfl)) rfl ?_;intro f h
    refine ac h (ag (h.ev rfl)) rfl ?_;intro f h
    refine aA h rfl rfl rfl ?_
    refine ac h (ai cP (h.ev rfl)) rfl ?_;intro f h
    refine aA h rfl rfl rfl ?_
    refine aq (V:=vf) (am (aL.of_own s 0 rfl) 67 (cO _ _ _ _)) h bE rfl rfl ?_;intro f h
    refine aA h rfl rfl rfl ?_
    refine ac h (ai aK (h.ev rfl)) rfl ?_;intro f h
    refine aA h rfl rfl rfl ?_
    refine ac h (ai aH (h.ev rfl)) rfl ?_;intro f h
    refine aA h rfl rfl rfl ?_
    refine aq (am (aL.of_own s 0 rfl) 0 (bZ _ _ _ _)) h bw rfl rfl ?_;intro f h
    refine aA h rfl rfl rfl ?_
    refine aI h s Cp (uH n.fg vf n.me.1 _ (hRf.keep s.ext) hnf) rfl rfl ?_;intro f w1 v9 hT hE h s;obtain rfl:=hT
    refine ac h (aD (h.ev rfl) (h.ev rfl)) rfl ?_;intro f h
    refine ac h (ak (h.ev rfl)) rfl ?_;intro f h
    refine ah ?_
    refine hK2 _ _ ?_
    refine wpIn_ret ?_
    exact bo rfl h s rfl (by show _=_;rw [xK h0 h1 h2])
theorem tz (l:List Mb) (hln:l.length≤1000) (a9:Option Addr) (n9 c9:Nat) (w:World) (hR:bX w (.slice a9 n9 c9) 33 l.length (ar l)):Calls Tryz.prog 71 [.slice a9 n9 c9].toArray w (cU w (fun v w'=>cS w' w.heap.size 28 33 v l.length (ar l))):=by
 refine bq Tryz.func71 rfl Tryz.ntmps71 rfl [(0,.slice a9 n9 c9)] (by simp) fun f h=>?_
 have s:=St.start w
 refine al fun K1 hK1=>?_
 refine ae ?_
 refine ac h (ak (h.ev rfl)) rfl ?_;intro f h
 refine ah ?_
 refine hK1 _ _ ?_
 refine al fun K2 hK2=>?_
 refine al fun K3 hK3=>?_
 cases hn:(a9.isNone:Bool)
 ·skip
  refine ae ?_
  refine ac h (ag (h.ev rfl)) rfl ?_;intro f h
  refine ac h (aw (.bool false) (fM Tryz.underlying36 (h.ev rfl) (h.ev rfl)) (congrArg Value.bool hn)) rfl ?_;intro f h
  refine ah ?_
  refine hK3 _ _ ?_
  refine wpIn_cond_false (h.ev rfl) ?_
  refine wpIn_skip ?_
  refine hK2 _ _ ?_
  refine al fun K4 hK4=>?_
  refine ae ?_
  refine mU (base:=w.heap.size) h Tryz.underlying36 c8 (Nat.le_refl _) rfl ?_;intro f w2 v5 h hE3 e5
  refine ac h (ag (h.ev rfl)) rfl ?_;intro f h
  refine jN (base:=w.heap.size) e5 (hR.keep hE3) h Tryz.underlying36 c8 rfl rfl hE3.le (eL _) (by unfold maxLen;omega) (by omega) rfl ?_;intro f w3 v7 h hE4 e7
  replace s:=s.sl_new (hE3.trans hE4) e7
  refine ac h (ak (h.ev rfl)) rfl ?_;intro f h
  refine ah ?_
  refine hK4 _ _ ?_
  refine wpIn_ret ?_
  exact bo rfl h s rfl (s.getSl 0 rfl)
 ·skip
  refine ae ?_
  refine ac h (ag (h.ev rfl)) rfl ?_;intro f h
  refine ac h (aw (.bool true) (fM Tryz.underlying36 (h.ev rfl) (h.ev rfl)) (congrArg Value.bool hn)) rfl ?_;intro f h
  refine ah ?_
  refine hK3 _ _ ?_
  refine wpIn_cond_true (h.ev rfl) ?_
  refine al fun K5 hK5=>?_
  refine ae ?_
  refine ac h (ak (h.ev rfl)) rfl ?_;intro f h
  refine ah ?_
  refine hK5 _ _ ?_
  refine wpIn_ret ?_
  refine aY ?_
  exact bo rfl h s rfl (by obtain rfl:=qw hn hR;exact gh _ _ _ _)
theorem gt (l:List Mb) (hln:l.length≤1000) (v9:Value) (w:World) (hR:bX w v9 33 l.length (ar l)):Calls Tryz.prog 71 [v9].toArray w (cU w (fun v w'=>cS w' w.heap.size 28 33 v l.length (ar l))):=by
 obtain ⟨a,c,rfl⟩:=hR.len
 exact tz l hln a _ c w hR
theorem jk (n:Nd) (vs vf:Value) (w:World) (hRs:bX w vs 33 n.sc.length (ar n.sc)) (hRf:bX w vf 33 n.fg.length (ar n.fg)) (hns:n.sc.length≤1000) (hnf:n.fg.length≤1000):Calls Tryz.prog 56 [.agg (ay n.me n.pr vs vf)].toArray w (cU w (Ce w 28 n)):=by
 refine bq Tryz.func56 rfl Tryz.ntmps56 rfl [(0,.agg (ay n.me n.pr vs vf))] (by simp) fun f h=>?_
 have s:=St.start w
 refine al fun K1 hK1=>?_
 refine ae ?_
 refine bV (ay n.me n.pr vs vf) h s rfl rfl rfl ?_;intro f w1 b1 h s
 refine bf (ay aZ aZ bp bp) h s dL rfl rfl ?_;intro f w1 b2 h s
 refine ah ?_
 refine hK1 _ _ ?_
 refine al fun K2 hK2=>?_
 refine ae ?_
 refine ac h (ai bC (h.ev rfl)) rfl ?_;intro f h
 refine aq (V:=vs) (am (aL.of_own s 1 rfl) 66 (bA _ _ _ _)) h bE rfl rfl ?_;intro f h
 refine aI h s rX (gt n.sc hns vs _ (hRs.keep s.ext)) rfl rfl ?_;intro f w1 v5 hT hE h sq;replace s:=s.sl_new hE hT
 refine ac h (ai bC (h.ev rfl)) rfl ?_;intro f h
 refine br 2 h s bE rfl rfl rfl (by rw [ap];omega) (aQ (s.getSl 0 rfl)) ?_;intro w1 s
 replace s:=s.recell (D:=ay n.me n.pr v5 vf) 2 rfl (fo _ _ _ _ _)
 refine ah ?_
 refine hK2 _ _ ?_
 refine al fun K3 hK3=>?_
 refine ae ?_
 refine ac h (ai cP (h.ev rfl)) rfl ?_;intro f h
 refine aq (V:=vf) (am (aL.of_own s 2 rfl) 67 (cO _ _ _ _)) h bE rfl rfl ?_;intro f h
 refine aI h s rX (gt n.fg hnf vf _ (hRf.keep s.ext)) rfl rfl ?_;intro f w1 v9 hT hE h sq;replace s:=s.sl_new hE hT
 refine ac h (ai cP (h.ev rfl)) rfl ?_;intro f h
 refine br 3 h s bE rfl rfl rfl (by rw [ap];omega) (aQ (s.getSl 0 rfl)) ?_;intro w1 s
 replace s:=s.recell (D:=ay n.me n.pr v5 v9) 3 rfl (il _ _ _ _ _)
 refine ah ?_
 refine hK3 _ _ ?_
 refine al fun K4 hK4=>?_
 refine ae ?_
 refine au 3 h s aW rfl rfl (ap _ _ _ _) rfl ?_;intro f h
 refine az 2 h s aW rfl rfl rfl (ap _ _ _ _) (ap _ _ _ _) (a7 (aQ (s.getSl 1 rfl)) (aQ (s.getSl 0 rfl))) ?_;intro w1 s
 refine ah ?_
 refine hK4 _ _ ?_
 refine wpIn_ret ?_
 exact c5 2 rfl h s aW rfl rfl (ap _ _ _ _) (A7 rfl (s.sel [1,0] rfl (by decide)))
end Go.Proofs.YthggibfkgofncaaGreat
