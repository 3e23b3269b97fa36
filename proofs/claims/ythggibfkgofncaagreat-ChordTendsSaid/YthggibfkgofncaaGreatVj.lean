/- What Right of package node answers, and the functions that it calls, and copies of rows of members: for all nodes with at most 1000 members in each row. -/
import Derived.Test.YthggibfkgofncaaGreatCon
set_option linter.unusedVariables false
set_option linter.unusedSimpArgs false
set_option linter.unusedSectionVars false
namespace Go.Proofs.YthggibfkgofncaaGreat
open Go.RowKit
theorem rm (l:List Mb) (vh:Value) (g9:Nat) (caps:List Value) (p:Mb→Bool) (w:World) (hR:bq w vh 33 l.length (ap l)) (hln:l.length≤1000) (hg:Fnc Tryz.prog g9) (hp:∀ w9,Ext w w9→∀ x∈l,Calls Tryz.prog g9 (.agg (aw x)::caps).toArray w9 (cU w9 (is (.bool (p x))))):Calls Tryz.prog 112 [vh,.func (.func g9) #[] caps.toArray].toArray w (cU w (fun v _=>∃ r:Int,v=.int .i64 r∧((r = -1∧∀ x∈l,p x=false)∨∃ k:Nat,∃ hk:k<l.length,r=(k:Int)∧p l[k]=true))):=by
 refine bp Tryz.func112 rfl Tryz.ntmps112 rfl [(0,vh),(1,.func (.func g9) #[] caps.toArray)] (by simp) fun f h=>?_
 have s:=St.start w
 refine al fun K1 hK1=>?_
 refine ae ?_
 refine ac h (aj (h.ev rfl)) rfl ?_;intro f h
 refine ah ?_
 refine hK1 _ _ ?_
 refine al fun K2 hK2=>?_
 refine al fun K3 hK3=>?_
 refine ae ?_
 refine ac h (ag (h.ev rfl)) rfl ?_;intro f h
 refine ac h (bc (hR.keep s.ext) Tryz.underlying36 (h.ev rfl)) rfl ?_;intro f h
 refine ac h (ag (h.ev rfl)) rfl ?_;intro f h
 refine ah ?_
 refine hK3 _ _ ?_
 refine wpIn_block ?_
 refine wpIn_loop_ghost (fun nn aa ww=>∃ k:Nat,Sl 19 aa [(0,vh),(1,.func (.func g9) #[] caps.toArray),(6,vh),(7,.int .i64 (l.length:Int)),(8,.int .i64 (k:Int))]∧St w [] ww∧nn=l.length - k∧k≤l.length∧∀ i (hi:i<l.length),i<k→p l[i]=false) (l.length - (0)) ⟨0,h.only ⟨rfl,rfl,rfl,rfl,aQ rfl (by omega),trivial⟩,s.as trivial,rfl,Nat.zero_le _,fun i hi h9=>absurd h9 (Nat.not_lt_zero _)⟩ ?_
 rintro _ f w1 ⟨k,h,s,hnn,hp0,hp1⟩
 refine al fun K4 hK4=>?_
 refine ae ?_
 refine ac h (bN (h.ev rfl) (h.ev rfl)) rfl ?_;intro f h
 refine ah ?_
 refine hK4 _ _ ?_
 refine al fun K5 hK5=>?_
 refine bM h rfl (fun hc=>?_) (fun hc=>?_)
 ·replace hc:=of_decide_eq_true hc
  refine wpIn_skip ?_
  refine hK5 _ _ ?_
  refine al fun K6 hK6=>?_
  refine wpIn_block ?_
  refine al fun K7 hK7=>?_
  refine ae ?_
  refine ac h (ag (h.ev rfl)) rfl ?_;intro f h
  refine ac h (aj (h.ev rfl)) rfl ?_;intro f h
  refine ah ?_
  refine hK7 _ _ ?_
  refine al fun K8 hK8=>?_
  refine ae ?_
  have hkl:k<l.length:=by omega
  refine ac h (ag (h.ev rfl)) rfl ?_;intro f h
  refine ac h (ag (h.ev rfl)) rfl ?_;intro f h
  refine ac h (ag (h.ev rfl)) rfl ?_;intro f h
  refine ac h (bZ (hR.keep s.ext) (k) Tryz.underlying36 cz (h.ev rfl) (h.ev rfl) (by omega) (by omega)) rfl ?_;intro f h
  refine aB ((hR.keep s.ext).el (k) (by omega) (by decide) (D:=aw l[k]) (th l k hkl)) h aL rfl (ak _) rfl ?_;intro f h
  refine iT [.agg (aw l[k])] (caps:=caps) h s hg rfl (hp _ s.ext _ (List.getElem_mem hkl)) rfl rfl ?_;intro f w1 v9 hT hE h s;obtain rfl:=hT
  refine ah ?_
  refine hK8 _ _ ?_
  refine bM h rfl (fun hc=>?_) (fun hc=>?_)
  ·refine al fun K9 hK9=>?_
   refine ae ?_
   refine ac h (ag (h.ev rfl)) rfl ?_;intro f h
   refine ac h (aj (h.ev rfl)) rfl ?_;intro f h
   refine ah ?_
   refine hK9 _ _ ?_
   refine wpIn_ret ?_
   refine bU ?_
   refine aW ?_
   refine aW ?_
   refine bU ?_
   refine aW ?_
   exact bf rfl h s rfl (⟨_,rfl,.inr ⟨k,hkl,rfl,hc⟩⟩)
  ·refine wpIn_skip ?_
   refine bF ?_
   refine hK6 _ _ ?_
   refine ae ?_
   refine ac h (cf (h.ev rfl) (h.ev rfl) (by omega)) rfl ?_;intro f h
   refine ac h (ag (h.ev rfl)) rfl ?_;intro f h
   refine ah ?_
   refine bQ ?_
   exact ⟨_,by omega,⟨k+1,h.only ⟨rfl,rfl,rfl,rfl,aQ rfl (by omega),trivial⟩,St.as s trivial,rfl,by omega,qP (fun y=>p y=false) hp1 hkl hc⟩⟩
 ·replace hc:=of_decide_eq_false hc
  refine wpIn_exit ?_
  refine bJ ?_
  refine bJ ?_
  refine cC ?_
  refine hK2 _ _ ?_
  refine al fun K10 hK10=>?_
  refine ae ?_
  refine ac h (aj (h.ev rfl)) rfl ?_;intro f h
  refine ah ?_
  refine hK10 _ _ ?_
  refine wpIn_ret ?_
  exact bf rfl h s rfl (⟨_,rfl,.inl ⟨rfl,fun x hx=>(by obtain ⟨i,hi,e⟩:=List.getElem_of_mem hx;rw [← e];exact hp1 i hi (by omega))⟩⟩)
theorem i7 (l:List Mb) (vh:Value) (g9:Nat) (caps:List Value) (p:Mb→Bool) (w:World) (hR:bq w vh 33 l.length (ap l)) (hln:l.length≤1000) (hg:Fnc Tryz.prog g9) (hp:∀ w9,Ext w w9→∀ x∈l,Calls Tryz.prog g9 (.agg (aw x)::caps).toArray w9 (cU w9 (is (.bool (p x))))):Calls Tryz.prog 77 [vh,.func (.func g9) #[] caps.toArray].toArray w (cU w (is (.bool (l.any p)))):=by
 refine bp Tryz.func77 rfl Tryz.ntmps77 rfl [(0,vh),(1,.func (.func g9) #[] caps.toArray)] (by simp) fun f h=>?_
 have s:=St.start w
 refine al fun K1 hK1=>?_
 refine ae ?_
 refine ac h (aj (h.ev rfl)) rfl ?_;intro f h
 refine ah ?_
 refine hK1 _ _ ?_
 refine al fun K2 hK2=>?_
 refine ae ?_
 refine ac h (ag (h.ev rfl)) rfl ?_;intro f h
 refine ac h (ag (h.ev rfl)) rfl ?_;intro f h
 refine aH h s we (rm l vh g9 caps p _ (hR.keep s.ext) hln hg (fun w9 h9=>hp w9 (s.ext.trans h9))) rfl rfl ?_;rintro f w1 v9 ⟨r9,rfl,hr⟩ hE h s
 refine ac h (av (.bool (l.any p)) (dg (h.ev rfl) (h.ev rfl)) (congrArg Value.bool (zp hr))) rfl ?_;intro f h
 refine ac h (aj (h.ev rfl)) rfl ?_;intro f h
 refine ah ?_
 refine hK2 _ _ ?_
 refine wpIn_ret ?_
 exact bf rfl h s rfl (rfl)
theorem dK (m:Mb) (w:World):Calls Tryz.prog 55 [.agg (aw m)].toArray w (cU w (is (.bool (dT m)))):=by
 refine bp Tryz.func55 rfl Tryz.ntmps55 rfl [(0,.agg (aw m))] (by simp) fun f h=>?_
 have s:=St.start w
 refine al fun K1 hK1=>?_
 refine ae ?_
 refine bV ((aw m)) h s rfl rfl rfl ?_;intro f w1 b1 h s
 refine ac h (aj (h.ev rfl)) rfl ?_;intro f h
 refine ah ?_
 refine hK1 _ _ ?_
 refine al fun K2 hK2=>?_
 cases h0:(decide (0≤m.1):Bool)
 ·skip
  refine ae ?_
  refine ac h (ai aJ (h.ev rfl)) rfl ?_;intro f h
  refine au (am (aU.of_own s 0 rfl) 0 (aP _)) h bz rfl rfl ?_;intro f h
  refine ac h (av (.bool false) (dg (h.ev rfl) (h.ev rfl)) (congrArg Value.bool h0)) rfl ?_;intro f h
  refine ac h (ag (h.ev rfl)) rfl ?_;intro f h
  refine aA (b:=true) h rfl rfl rfl rfl ?_;intro f h
  refine aA (b:=true) h rfl rfl rfl rfl ?_;intro f h
  refine aA (b:=true) h rfl rfl rfl rfl ?_;intro f h
  refine ac h (aG (h.ev rfl) (h.ev rfl)) rfl ?_;intro f h
  refine ac h (aj (h.ev rfl)) rfl ?_;intro f h
  refine ah ?_
  refine hK2 _ _ ?_
  refine wpIn_ret ?_
  exact bf rfl h s rfl (by show _=_;rw [AL h0]<;>rfl)
 ·skip
  refine ae ?_
  refine ac h (ai aJ (h.ev rfl)) rfl ?_;intro f h
  refine au (am (aU.of_own s 0 rfl) 0 (aP _)) h bz rfl rfl ?_;intro f h
  refine ac h (av (.bool true) (dg (h.ev rfl) (h.ev rfl)) (congrArg Value.bool h0)) rfl ?_;intro f h
  refine ac h (ag (h.ev rfl)) rfl ?_;intro f h
  refine az h rfl rfl rfl ?_
  refine ac h (ai aJ (h.ev rfl)) rfl ?_;intro f h
  refine az h rfl rfl rfl ?_
  refine au (am (aU.of_own s 0 rfl) 0 (aP _)) h bz rfl rfl ?_;intro f h
  refine az h rfl rfl rfl ?_
  refine ac h (bN (h.ev rfl) (h.ev rfl)) rfl ?_;intro f h
  refine ac h (aI (h.ev rfl) (h.ev rfl)) rfl ?_;intro f h
  refine ac h (aj (h.ev rfl)) rfl ?_;intro f h
  refine ah ?_
  refine hK2 _ _ ?_
  refine wpIn_ret ?_
  exact bf rfl h s rfl (by show _=_;rw [Aa h0]<;>rfl)
theorem dL  (w:World):Calls Tryz.prog 68 [].toArray w (cU w (is (.agg (aw de)))):=by
 refine bp Tryz.func68 rfl Tryz.ntmps68 rfl [] (by simp) fun f h=>?_
 have s:=St.start w
 refine al fun K1 hK1=>?_
 refine ae ?_
 refine bj (aw aT) h s cB rfl rfl ?_;intro f w1 b0 h s
 refine ah ?_
 refine hK1 _ _ ?_
 refine al fun K2 hK2=>?_
 refine ae ?_
 refine ac h (dO mO rfl) rfl ?_;intro f h
 refine ax 0 h s aL rfl rfl rfl (ak _) (ak _) (aS _) ?_;intro w1 s
 refine ah ?_
 refine hK2 _ _ ?_
 refine wpIn_ret ?_
 exact c8 0 rfl h s aL rfl rfl (ak _) (rfl)
theorem o7 (m:Mb) (no:Int) (w:World):Calls Tryz.prog 80 [.agg (aw m),.int .i64 no].toArray w (cU w (is (.bool (jz m no)))):=by
 refine bp Tryz.func80 rfl Tryz.ntmps80 rfl [(0,.agg (aw m)),(1,.int .i64 no)] (by simp) fun f h=>?_
 have s:=St.start w
 refine al fun K1 hK1=>?_
 refine ae ?_
 refine bV ((aw m)) h s rfl rfl rfl ?_;intro f w1 b2 h s
 refine ac h (aj (h.ev rfl)) rfl ?_;intro f h
 refine ah ?_
 refine hK1 _ _ ?_
 refine al fun K2 hK2=>?_
 cases q0:(decide (m=de):Bool)
 ·skip
  cases q1:(dT m:Bool)
  ·skip
   refine bI 14 [[],[],[0,1],[0,1,2],[0,1,2,3],[0,1,2,3,4],[0,1,2,3,4,5],[0,1,2,3,4,5,6],[0,1,2,3,4,5,6,7],[0,1,2,3,4,5,6],[0,1,2,3,4,5,6,7,8,9],[0,1,2,3,4,5,6,7,8,9,10],[0,1,2,3,4,5,6,7,8,9,10,11],[0,1,2,3,4,5,6,7,8,9,10,11,12]] h (by kernel_rfl) (by kernel_rfl) (by kernel_rfl) ?_
   refine bB 0 h s aL rfl rfl (ak _) rfl ?_;intro f h
   refine cm h gb (fun w9 hE9=>dL w9) rfl rfl ?_;intro f h
   refine ao h (av (.bool false) (cV (g4 _ _) (by kernel_rfl) (by decide) (h.ev rfl) (h.ev rfl) (decide (m=de)) (ee _ _)) (congrArg Value.bool q0)) rfl ?_;intro f h
   refine ao h (ag (h.ev rfl)) rfl ?_;intro f h
   refine aV h rfl rfl rfl ?_
   refine bB 0 h s aL rfl rfl (ak _) rfl ?_;intro f h
   refine aV h rfl rfl rfl ?_
   refine cm h gi (fun w9 hE9=>aO (.bool false) (dK m w9) (congrArg Value.bool q1)) rfl rfl ?_;intro f h
   refine aV h rfl rfl rfl ?_
   refine ao h (ag (h.ev rfl)) rfl ?_;intro f h
   refine aY (b:=true) h rfl rfl rfl rfl ?_;intro f h
   refine aY (b:=true) h rfl rfl rfl rfl ?_;intro f h
   refine aY (b:=true) h rfl rfl rfl rfl ?_;intro f h
   refine aY (b:=true) h rfl rfl rfl rfl ?_;intro f h
   refine aV h rfl rfl rfl ?_
   refine ao h (aG (h.ev rfl) (h.ev rfl)) rfl ?_;intro f h
   refine ao h (aG (h.ev rfl) (h.ev rfl)) rfl ?_;intro f h
   refine ao h (aj (h.ev rfl)) rfl ?_;intro f h
   refine cq s fun w1 s=>?_
   refine ah ?_
   refine hK2 _ _ ?_
   refine wpIn_ret ?_
   exact bf rfl h s rfl (by show _=_;rw [Ae q0 q1])
  ·skip
   cases q2:(decide (m.1≠no):Bool)
   ·skip
    refine bI 14 [[],[],[0,1],[0,1,2],[0,1,2,3],[0,1,2,3,4],[0,1,2,3,4,5],[0,1,2,3,4,5,6],[0,1,2,3,4,5,6,7],[0,1,2,3,4,5,6],[0,1,2,3,4,5,6,7,8,9],[0,1,2,3,4,5,6,7,8,9,10],[0,1,2,3,4,5,6,7,8,9,10,11],[0,1,2,3,4,5,6,7,8,9,10,11,12]] h (by kernel_rfl) (by kernel_rfl) (by kernel_rfl) ?_
    refine bB 0 h s aL rfl rfl (ak _) rfl ?_;intro f h
    refine cm h gb (fun w9 hE9=>dL w9) rfl rfl ?_;intro f h
    refine ao h (av (.bool false) (cV (g4 _ _) (by kernel_rfl) (by decide) (h.ev rfl) (h.ev rfl) (decide (m=de)) (ee _ _)) (congrArg Value.bool q0)) rfl ?_;intro f h
    refine ao h (ag (h.ev rfl)) rfl ?_;intro f h
    refine aV h rfl rfl rfl ?_
    refine bB 0 h s aL rfl rfl (ak _) rfl ?_;intro f h
    refine aV h rfl rfl rfl ?_
    refine cm h gi (fun w9 hE9=>aO (.bool true) (dK m w9) (congrArg Value.bool q1)) rfl rfl ?_;intro f h
    refine aV h rfl rfl rfl ?_
    refine ao h (ag (h.ev rfl)) rfl ?_;intro f h
    refine aV h rfl rfl rfl ?_
    refine ao h (ai aJ (h.ev rfl)) rfl ?_;intro f h
    refine aV h rfl rfl rfl ?_
    refine a2 (am (aU.of_own s 0 rfl) 0 (aP _)) h bz rfl rfl ?_;intro f h
    refine aV h rfl rfl rfl ?_
    refine ao h (ag (h.ev rfl)) rfl ?_;intro f h
    refine aV h rfl rfl rfl ?_
    refine ao h (av (.bool false) (c3 (h.ev rfl) (h.ev rfl)) (congrArg Value.bool q2)) rfl ?_;intro f h
    refine aV h rfl rfl rfl ?_
    refine ao h (aI (h.ev rfl) (h.ev rfl)) rfl ?_;intro f h
    refine ao h (aG (h.ev rfl) (h.ev rfl)) rfl ?_;intro f h
    refine ao h (aj (h.ev rfl)) rfl ?_;intro f h
    refine cq s fun w1 s=>?_
    refine ah ?_
    refine hK2 _ _ ?_
    refine wpIn_ret ?_
    exact bf rfl h s rfl (by show _=_;rw [tq q0 q1,q2])
   ·skip
    refine bI 14 [[],[],[0,1],[0,1,2],[0,1,2,3],[0,1,2,3,4],[0,1,2,3,4,5],[0,1,2,3,4,5,6],[0,1,2,3,4,5,6,7],[0,1,2,3,4,5,6],[0,1,2,3,4,5,6,7,8,9],[0,1,2,3,4,5,6,7,8,9,10],[0,1,2,3,4,5,6,7,8,9,10,11],[0,1,2,3,4,5,6,7,8,9,10,11,12]] h (by kernel_rfl) (by kernel_rfl) (by kernel_rfl) ?_
    refine bB 0 h s aL rfl rfl (ak _) rfl ?_;intro f h
    refine cm h gb (fun w9 hE9=>dL w9) rfl rfl ?_;intro f h
    refine ao h (av (.bool false) (cV (g4 _ _) (by kernel_rfl) (by decide) (h.ev rfl) (h.ev rfl) (decide (m=de)) (ee _ _)) (congrArg Value.bool q0)) rfl ?_;intro f h
    refine ao h (ag (h.ev rfl)) rfl ?_;intro f h
    refine aV h rfl rfl rfl ?_
    refine bB 0 h s aL rfl rfl (ak _) rfl ?_;intro f h
    refine aV h rfl rfl rfl ?_
    refine cm h gi (fun w9 hE9=>aO (.bool true) (dK m w9) (congrArg Value.bool q1)) rfl rfl ?_;intro f h
    refine aV h rfl rfl rfl ?_
    refine ao h (ag (h.ev rfl)) rfl ?_;intro f h
    refine aV h rfl rfl rfl ?_
    refine ao h (ai aJ (h.ev rfl)) rfl ?_;intro f h
    refine aV h rfl rfl rfl ?_
    refine a2 (am (aU.of_own s 0 rfl) 0 (aP _)) h bz rfl rfl ?_;intro f h
    refine aV h rfl rfl rfl ?_
    refine ao h (ag (h.ev rfl)) rfl ?_;intro f h
    refine aV h rfl rfl rfl ?_
    refine ao h (av (.bool true) (c3 (h.ev rfl) (h.ev rfl)) (congrArg Value.bool q2)) rfl ?_;intro f h
    refine aV h rfl rfl rfl ?_
    refine ao h (aI (h.ev rfl) (h.ev rfl)) rfl ?_;intro f h
    refine ao h (aG (h.ev rfl) (h.ev rfl)) rfl ?_;intro f h
    refine ao h (aj (h.ev rfl)) rfl ?_;intro f h
    refine cq s fun w1 s=>?_
    refine ah ?_
    refine hK2 _ _ ?_
    refine wpIn_ret ?_
    exact bf rfl h s rfl (by show _=_;rw [tq q0 q1,q2])
 ·skip
  refine bI 14 [[],[],[0,1],[0,1,2],[0,1,2,3],[0,1,2,3,4],[0,1,2,3,4,5],[0,1,2,3,4,5,6],[0,1,2,3,4,5,6,7],[0,1,2,3,4,5,6],[0,1,2,3,4,5,6,7,8,9],[0,1,2,3,4,5,6,7,8,9,10],[0,1,2,3,4,5,6,7,8,9,10,11],[0,1,2,3,4,5,6,7,8,9,10,11,12]] h (by kernel_rfl) (by kernel_rfl) (by kernel_rfl) ?_
  refine bB 0 h s aL rfl rfl (ak _) rfl ?_;intro f h
  refine cm h gb (fun w9 hE9=>dL w9) rfl rfl ?_;intro f h
  refine ao h (av (.bool true) (cV (g4 _ _) (by kernel_rfl) (by decide) (h.ev rfl) (h.ev rfl) (decide (m=de)) (ee _ _)) (congrArg Value.bool q0)) rfl ?_;intro f h
  refine ao h (ag (h.ev rfl)) rfl ?_;intro f h
  refine aY (b:=false) h rfl rfl rfl rfl ?_;intro f h
  refine aY (b:=false) h rfl rfl rfl rfl ?_;intro f h
  refine aY (b:=false) h rfl rfl rfl rfl ?_;intro f h
  refine cO h rfl rfl rfl rfl ?_;intro f h
  refine cO h rfl rfl rfl rfl ?_;intro f h
  refine cO h rfl rfl rfl rfl ?_;intro f h
  refine cO h rfl rfl rfl rfl ?_;intro f h
  refine aY (b:=false) h rfl rfl rfl rfl ?_;intro f h
  refine ao h (aI (h.ev rfl) (h.ev rfl)) rfl ?_;intro f h
  refine ao h (aj (h.ev rfl)) rfl ?_;intro f h
  refine cq s fun w1 s=>?_
  refine ah ?_
  refine hK2 _ _ ?_
  refine wpIn_ret ?_
  exact bf rfl h s rfl (by show _=_;rw [tV q0])
theorem rv (x:Mb) (no:Int) (bx:Nat) (w:World) (hb:g7 w bx #[.int .i64 no]):Calls Tryz.prog 87 [.agg (aw x),.pointer (some ⟨bx,0,none⟩)].toArray w (cU w (is (.bool (decide (x.1=no))))):=by
 refine bp Tryz.func87 rfl Tryz.ntmps87 rfl [(0,.agg (aw x)),(1,.pointer (some ⟨bx,0,none⟩))] (by simp) fun f h=>?_
 have s:=St.start w
 refine al fun K1 hK1=>?_
 refine ae ?_
 refine bV ((aw x)) h s rfl rfl rfl ?_;intro f w1 b2 h s
 refine ac h (aj (h.ev rfl)) rfl ?_;intro f h
 refine ah ?_
 refine hK1 _ _ ?_
 refine al fun K2 hK2=>?_
 refine ae ?_
 refine ac h (ai aJ (h.ev rfl)) rfl ?_;intro f h
 refine au (am (aU.of_own s 0 rfl) 0 (aP _)) h bz rfl rfl ?_;intro f h
 refine au (V:=.int .i64 no) (am (aU.of_tab (hb.keep s.ext)) 0 (rfl)) h bz rfl rfl ?_;intro f h
 refine ac h (bX (h.ev rfl) (h.ev rfl)) rfl ?_;intro f h
 refine ac h (aj (h.ev rfl)) rfl ?_;intro f h
 refine ah ?_
 refine hK2 _ _ ?_
 refine wpIn_ret ?_
 exact bf rfl h s rfl (rfl)
theorem kF (l:List Mb) (vh:Value) (no:Int) (w:World) (hR:bq w vh 33 l.length (ap l)) (hln:l.length≤1000):Calls Tryz.prog 57 [vh,.int .i64 no].toArray w (cU w (is (.bool (ia l no)))):=by
 refine bp Tryz.func57 rfl Tryz.ntmps57 rfl [(0,vh),(1,.int .i64 no)] (by simp) fun f h=>?_
 have s:=St.start w
 refine al fun K1 hK1=>?_
 refine ae ?_
 refine bV (#[.int .i64 no]) h s rfl rfl rfl ?_;intro f w1 b3 h s
 refine ac h (aj (h.ev rfl)) rfl ?_;intro f h
 refine ah ?_
 refine hK1 _ _ ?_
 refine al fun K2 hK2=>?_
 refine ae ?_
 refine ac h (ag (h.ev rfl)) rfl ?_;intro f h
 refine ac h (dY [.pointer (some ⟨b3,0,none⟩)] (lQ h rfl)) rfl ?_;intro f h
 refine aH h s Ag (i7 l vh 87 [.pointer (some ⟨b3,0,none⟩)] (fun x=>decide (x.1=no)) _ (hR.keep s.ext) hln DJ (fun w9 h9 x _=>rv x no b3 w9 ((g7.of_own s 0 rfl).keep h9))) rfl rfl ?_;intro f w1 v9 hT hE h s;obtain rfl:=hT
 refine ac h (aj (h.ev rfl)) rfl ?_;intro f h
 refine ah ?_
 refine hK2 _ _ ?_
 refine wpIn_ret ?_
 exact bf rfl h s rfl (rfl)
theorem jp (l:List Mb) (vh:Value) (no:Int) (w:World) (hR:bq w vh 33 l.length (ap l)) (hln:l.length≤1000):Calls Tryz.prog 114 [vh,.int .i64 no].toArray w (cU w (is (.bool (iA l no)))):=by
 refine bp Tryz.func114 rfl Tryz.ntmps114 rfl [(0,vh),(1,.int .i64 no)] (by simp) fun f h=>?_
 have s:=St.start w
 refine al fun K1 hK1=>?_
 refine ae ?_
 refine ac h (aj (h.ev rfl)) rfl ?_;intro f h
 refine ah ?_
 refine hK1 _ _ ?_
 refine al fun K2 hK2=>?_
 refine al fun K3 hK3=>?_
 refine ae ?_
 refine ac h (ag (h.ev rfl)) rfl ?_;intro f h
 refine ac h (bc (hR.keep s.ext) Tryz.underlying36 (h.ev rfl)) rfl ?_;intro f h
 refine ac h (ag (h.ev rfl)) rfl ?_;intro f h
 refine ah ?_
 refine hK3 _ _ ?_
 refine wpIn_block ?_
 refine wpIn_loop_ghost (fun nn aa ww=>∃ k:Nat,Sl 32 aa [(0,vh),(1,.int .i64 no),(7,vh),(8,.int .i64 (l.length:Int)),(9,.int .i64 (k:Int))]∧St w [] ww∧nn=l.length - k∧k≤l.length∧∀ j,j<k→i0 l no j=false) (l.length - (0)) ⟨0,h.only ⟨rfl,rfl,rfl,rfl,aQ rfl (by omega),trivial⟩,s.as trivial,rfl,Nat.zero_le _,fun j hj=>absurd hj (Nat.not_lt_zero _)⟩ ?_
 rintro _ f w1 ⟨k,h,s,hnn,hp0,hp1⟩
 refine al fun K4 hK4=>?_
 refine ae ?_
 refine ac h (bN (h.ev rfl) (h.ev rfl)) rfl ?_;intro f h
 refine ah ?_
 refine hK4 _ _ ?_
 refine al fun K5 hK5=>?_
 refine bM h rfl (fun hc=>?_) (fun hc=>?_)
 ·replace hc:=of_decide_eq_true hc
  refine wpIn_skip ?_
  refine hK5 _ _ ?_
  refine al fun K6 hK6=>?_
  refine wpIn_block ?_
  refine al fun K7 hK7=>?_
  refine ae ?_
  refine ac h (ag (h.ev rfl)) rfl ?_;intro f h
  have hkl:k<l.length:=by omega
  refine ac h (bZ (hR.keep s.ext) (k) Tryz.underlying36 cz (h.ev rfl) (h.ev rfl) (by omega) (by omega)) rfl ?_;intro f h
  refine aB ((hR.keep s.ext).el (k) (by omega) (by decide) (D:=aw (l.getD k aT)) (cL l k hkl)) h aL rfl (ak _) rfl ?_;intro f h
  refine bj (aw aT) h s cB rfl rfl ?_;intro f w1 b6 h s
  refine ac h (aj (h.ev rfl)) rfl ?_;intro f h
  refine ax 0 h s aL rfl rfl rfl (ak _) (ak _) (aS _) ?_;intro w1 s
  refine ah ?_
  refine hK7 _ _ ?_
  refine al fun K8 hK8=>?_
  cases k0:(dT (l.getD k aT):Bool)
  ·skip
   refine bI 17 [[],[0],[0,1],[0,1,2],[0,1,2,3],[0,1,2,3,4],[0,1,2,3],[0,1,2,3,4,5,6],[0,1,2,3,4,5,6,7],[0,1,2,3,4,5,6,7,8],[0,1,2,3,4,5,6,7,8,9],[0,1,2,3,4,5,6,7,8,9],[0,1,2,3,4,5,6,7,8,9,10,11],[0,1,2,3,4,5,6,7,8,9],[0,1,2,3,4,5,6,7,8,9,13],[0,1,2,3,4,5,6,7,8,9,10,11,12,13,14],[0,1,2,3,4,5,6,7,8,9,10,11,12,13,14,15]] h (by kernel_rfl) (by kernel_rfl) (by kernel_rfl) ?_
   refine bB 0 h s aL rfl rfl (ak _) rfl ?_;intro f h
   refine cm h gi (fun w9 hE9=>aO (.bool false) (dK (l.getD k aT) w9) (congrArg Value.bool k0)) rfl rfl ?_;intro f h
   refine ao h (av (.bool true) (bh (h.ev rfl)) rfl) rfl ?_;intro f h
   refine ao h (ag (h.ev rfl)) rfl ?_;intro f h
   refine aY (b:=false) h rfl rfl rfl rfl ?_;intro f h
   refine aY (b:=false) h rfl rfl rfl rfl ?_;intro f h
   refine aY (b:=false) h rfl rfl rfl rfl ?_;intro f h
   refine aY (b:=false) h rfl rfl rfl rfl ?_;intro f h
   refine ao h (aI (h.ev rfl) (h.ev rfl)) rfl ?_;intro f h
   refine ao h (ag (h.ev rfl)) rfl ?_;intro f h
   refine aY (b:=false) h rfl rfl rfl rfl ?_;intro f h
   refine aY (b:=false) h rfl rfl rfl rfl ?_;intro f h
   refine aY (b:=false) h rfl rfl rfl rfl ?_;intro f h
   refine aY (b:=false) h rfl rfl rfl rfl ?_;intro f h
   refine aY (b:=false) h rfl rfl rfl rfl ?_;intro f h
   refine aY (b:=false) h rfl rfl rfl rfl ?_;intro f h
   refine ao h (aI (h.ev rfl) (h.ev rfl)) rfl ?_;intro f h
   refine cq s fun w1 s=>?_
   refine ah ?_
   refine hK8 _ _ ?_
   refine wpIn_cond_true (h.ev rfl) ?_
   refine al fun K9 hK9=>?_
   refine ae ?_
   refine ac h (aj (h.ev rfl)) rfl ?_;intro f h
   refine ah ?_
   refine hK9 _ _ ?_
   refine wpIn_ret ?_
   refine bU ?_
   refine aW ?_
   refine aW ?_
   refine bU ?_
   refine aW ?_
   exact bf rfl h s rfl (by show _=_;rw [gn hkl (xS k0)])
  ·skip
   cases k1:(decide ((l.getD k aT).1=no):Bool)
   ·skip
    refine bI 17 [[],[0],[0,1],[0,1,2],[0,1,2,3],[0,1,2,3,4],[0,1,2,3],[0,1,2,3,4,5,6],[0,1,2,3,4,5,6,7],[0,1,2,3,4,5,6,7,8],[0,1,2,3,4,5,6,7,8,9],[0,1,2,3,4,5,6,7,8,9],[0,1,2,3,4,5,6,7,8,9,10,11],[0,1,2,3,4,5,6,7,8,9],[0,1,2,3,4,5,6,7,8,9,13],[0,1,2,3,4,5,6,7,8,9,10,11,12,13,14],[0,1,2,3,4,5,6,7,8,9,10,11,12,13,14,15]] h (by kernel_rfl) (by kernel_rfl) (by kernel_rfl) ?_
    refine bB 0 h s aL rfl rfl (ak _) rfl ?_;intro f h
    refine cm h gi (fun w9 hE9=>aO (.bool true) (dK (l.getD k aT) w9) (congrArg Value.bool k0)) rfl rfl ?_;intro f h
    refine ao h (av (.bool false) (bh (h.ev rfl)) rfl) rfl ?_;intro f h
    refine ao h (ag (h.ev rfl)) rfl ?_;intro f h
    refine aV h rfl rfl rfl ?_
    refine ao h (ai aJ (h.ev rfl)) rfl ?_;intro f h
    refine aV h rfl rfl rfl ?_
    refine a2 (am (aU.of_own s 0 rfl) 0 (aP _)) h bz rfl rfl ?_;intro f h
    refine aV h rfl rfl rfl ?_
    refine ao h (ag (h.ev rfl)) rfl ?_;intro f h
    refine aV h rfl rfl rfl ?_
    refine ao h (av (.bool false) (bX (h.ev rfl) (h.ev rfl)) (congrArg Value.bool k1)) rfl ?_;intro f h
    refine ao h (aG (h.ev rfl) (h.ev rfl)) rfl ?_;intro f h
    refine ao h (ag (h.ev rfl)) rfl ?_;intro f h
    refine aV h rfl rfl rfl ?_
    refine ao h (ag (h.ev rfl)) rfl ?_;intro f h
    refine aV h rfl rfl rfl ?_
    refine ao h (ag (h.ev rfl)) rfl ?_;intro f h
    refine aV h rfl rfl rfl ?_
    refine ao h (dP (hR.keep s.ext) (k) Tryz.underlying36 cz (h.ev rfl) (h.ev rfl) (rfl) (by omega)) rfl ?_;intro f h
    refine aV h rfl rfl rfl ?_
    refine ao h (ai aJ (h.ev rfl)) rfl ?_;intro f h
    refine aV h rfl rfl rfl ?_
    refine a2 (am (aU.of_own s 0 rfl) 0 (aP _)) h bz rfl rfl ?_;intro f h
    refine aV h rfl rfl rfl ?_
    refine cm h wa (fun w9 hE9=>kF (l.take k) (gr vh k) (l.getD k aT).1 w9 ((fp hR k (by omega)).keep (s.ext.trans hE9)) (by rw [List.length_take];omega)) rfl rfl ?_;intro f h
    refine ao h (aG (h.ev rfl) (h.ev rfl)) rfl ?_;intro f h
    refine cq s fun w1 s=>?_
    refine ah ?_
    refine hK8 _ _ ?_
    refine bM h rfl (fun hc=>?_) (fun hc=>?_)
    ·refine al fun K10 hK10=>?_
     refine ae ?_
     refine ac h (aj (h.ev rfl)) rfl ?_;intro f h
     refine ah ?_
     refine hK10 _ _ ?_
     refine wpIn_ret ?_
     refine bU ?_
     refine aW ?_
     refine aW ?_
     refine bU ?_
     refine aW ?_
     exact bf rfl h s rfl (by show _=_;rw [gn hkl ((oY k0 k1).trans hc)])
    ·refine wpIn_skip ?_
     refine bF ?_
     refine hK6 _ _ ?_
     refine ae ?_
     refine ac h (cf (h.ev rfl) (h.ev rfl) (by omega)) rfl ?_;intro f h
     refine ac h (ag (h.ev rfl)) rfl ?_;intro f h
     refine ah ?_
     refine bQ ?_
     have hb9:i0 l no k=false:=(oY k0 k1).trans hc
     exact ⟨_,by omega,⟨k+1,h.only ⟨rfl,rfl,rfl,rfl,aQ rfl (by omega),trivial⟩,St.as (s.pick _ (List.sublist_append_right [_] _)) trivial,rfl,by omega,dm hp1 hb9⟩⟩
   ·skip
    refine bI 17 [[],[0],[0,1],[0,1,2],[0,1,2,3],[0,1,2,3,4],[0,1,2,3],[0,1,2,3,4,5,6],[0,1,2,3,4,5,6,7],[0,1,2,3,4,5,6,7,8],[0,1,2,3,4,5,6,7,8,9],[0,1,2,3,4,5,6,7,8,9],[0,1,2,3,4,5,6,7,8,9,10,11],[0,1,2,3,4,5,6,7,8,9],[0,1,2,3,4,5,6,7,8,9,13],[0,1,2,3,4,5,6,7,8,9,10,11,12,13,14],[0,1,2,3,4,5,6,7,8,9,10,11,12,13,14,15]] h (by kernel_rfl) (by kernel_rfl) (by kernel_rfl) ?_
    refine bB 0 h s aL rfl rfl (ak _) rfl ?_;intro f h
    refine cm h gi (fun w9 hE9=>aO (.bool true) (dK (l.getD k aT) w9) (congrArg Value.bool k0)) rfl rfl ?_;intro f h
    refine ao h (av (.bool false) (bh (h.ev rfl)) rfl) rfl ?_;intro f h
    refine ao h (ag (h.ev rfl)) rfl ?_;intro f h
    refine aV h rfl rfl rfl ?_
    refine ao h (ai aJ (h.ev rfl)) rfl ?_;intro f h
    refine aV h rfl rfl rfl ?_
    refine a2 (am (aU.of_own s 0 rfl) 0 (aP _)) h bz rfl rfl ?_;intro f h
    refine aV h rfl rfl rfl ?_
    refine ao h (ag (h.ev rfl)) rfl ?_;intro f h
    refine aV h rfl rfl rfl ?_
    refine ao h (av (.bool true) (bX (h.ev rfl) (h.ev rfl)) (congrArg Value.bool k1)) rfl ?_;intro f h
    refine ao h (aG (h.ev rfl) (h.ev rfl)) rfl ?_;intro f h
    refine ao h (ag (h.ev rfl)) rfl ?_;intro f h
    refine aY (b:=false) h rfl rfl rfl rfl ?_;intro f h
    refine aY (b:=false) h rfl rfl rfl rfl ?_;intro f h
    refine aY (b:=false) h rfl rfl rfl rfl ?_;intro f h
    refine aY (b:=false) h rfl rfl rfl rfl ?_;intro f h
    refine aY (b:=false) h rfl rfl rfl rfl ?_;intro f h
    refine aY (b:=false) h rfl rfl rfl rfl ?_;intro f h
    refine ao h (aI (h.ev rfl) (h.ev rfl)) rfl ?_;intro f h
    refine cq s fun w1 s=>?_
    refine ah ?_
    refine hK8 _ _ ?_
    refine wpIn_cond_true (h.ev rfl) ?_
    refine al fun K11 hK11=>?_
    refine ae ?_
    refine ac h (aj (h.ev rfl)) rfl ?_;intro f h
    refine ah ?_
    refine hK11 _ _ ?_
    refine wpIn_ret ?_
    refine bU ?_
    refine aW ?_
    refine aW ?_
    refine bU ?_
    refine aW ?_
    exact bf rfl h s rfl (by show _=_;rw [gn hkl (xB k1)])
 ·replace hc:=of_decide_eq_false hc
  refine wpIn_exit ?_
  refine bJ ?_
  refine bJ ?_
  refine cC ?_
  refine hK2 _ _ ?_
  refine al fun K12 hK12=>?_
  refine ae ?_
  refine ac h (aj (h.ev rfl)) rfl ?_;intro f h
  refine ah ?_
  refine hK12 _ _ ?_
  refine wpIn_ret ?_
  exact bf rfl h s rfl (by show _=_;rw [pT (by omega) hp1])
theorem sY (l:List Mb) (vh:Value) (m:Mb) (w:World) (hR:bq w vh 33 l.length (ap l)) (hln:l.length≤1000):Calls Tryz.prog 81 [vh,.agg (aw m)].toArray w (cU w (is (.bool (iu l m)))):=by
 refine bp Tryz.func81 rfl Tryz.ntmps81 rfl [(0,vh),(1,.agg (aw m))] (by simp) fun f h=>?_
 have s:=St.start w
 refine al fun K1 hK1=>?_
 refine ae ?_
 refine bV ((aw m)) h s rfl rfl rfl ?_;intro f w1 b3 h s
 refine ac h (aj (h.ev rfl)) rfl ?_;intro f h
 refine ah ?_
 refine hK1 _ _ ?_
 refine al fun K2 hK2=>?_
 refine al fun K3 hK3=>?_
 cases h1:(decide (l.length=1):Bool)
 ·skip
  refine bI 10 [[],[0],[0,1],[0,1,2],[0,1,2,3],[0,1,2,3,4],[0,1,2,3,4,5],[0,1,2,3],[0,1,2,3,4,5,6,7],[0,1,2,3,4,5,6,7,8]] h (by kernel_rfl) (by kernel_rfl) (by kernel_rfl) ?_
  refine ao h (ag (h.ev rfl)) rfl ?_;intro f h
  refine ao h (bc (hR.keep s.ext) Tryz.underlying36 (h.ev rfl)) rfl ?_;intro f h
  refine ao h (av (.bool false) (bX (h.ev rfl) (h.ev rfl)) (congrArg Value.bool (decide_eq_false (by have:=of_decide_eq_false h1;omega)))) rfl ?_;intro f h
  refine ao h (ag (h.ev rfl)) rfl ?_;intro f h
  refine aY (b:=true) h rfl rfl rfl rfl ?_;intro f h
  refine aY (b:=true) h rfl rfl rfl rfl ?_;intro f h
  refine aY (b:=true) h rfl rfl rfl rfl ?_;intro f h
  refine aY (b:=true) h rfl rfl rfl rfl ?_;intro f h
  refine aY (b:=true) h rfl rfl rfl rfl ?_;intro f h
  refine ao h (aG (h.ev rfl) (h.ev rfl)) rfl ?_;intro f h
  refine cq s fun w1 s=>?_
  refine ah ?_
  refine hK3 _ _ ?_
  refine wpIn_cond_false (h.ev rfl) ?_
  refine wpIn_skip ?_
  refine hK2 _ _ ?_
  refine al fun K4 hK4=>?_
  cases g0:(decide (1≤l.length):Bool)
  ·skip
   refine ae ?_
   have hno:¬ (l.length=1∧l.getD 0 aT=m):=(by rintro ⟨h9,h8⟩;exact absurd h9 (of_decide_eq_false h1))
   refine ac h (ag (h.ev rfl)) rfl ?_;intro f h
   refine ac h (bc (hR.keep s.ext) Tryz.underlying36 (h.ev rfl)) rfl ?_;intro f h
   refine ac h (av (.bool false) (dg (h.ev rfl) (h.ev rfl)) (congrArg Value.bool (decide_eq_false (by have:=of_decide_eq_false g0;omega)))) rfl ?_;intro f h
   refine ac h (ag (h.ev rfl)) rfl ?_;intro f h
   refine aA (b:=true) h rfl rfl rfl rfl ?_;intro f h
   refine aA (b:=true) h rfl rfl rfl rfl ?_;intro f h
   refine aA (b:=true) h rfl rfl rfl rfl ?_;intro f h
   refine ac h (aG (h.ev rfl) (h.ev rfl)) rfl ?_;intro f h
   refine ac h (ag (h.ev rfl)) rfl ?_;intro f h
   refine aA (b:=true) h rfl rfl rfl rfl ?_;intro f h
   refine aA (b:=true) h rfl rfl rfl rfl ?_;intro f h
   refine aA (b:=true) h rfl rfl rfl rfl ?_;intro f h
   refine aA (b:=true) h rfl rfl rfl rfl ?_;intro f h
   refine ac h (aG (h.ev rfl) (h.ev rfl)) rfl ?_;intro f h
   refine ac h (aj (h.ev rfl)) rfl ?_;intro f h
   refine ah ?_
   refine hK4 _ _ ?_
   refine wpIn_ret ?_
   exact bf rfl h s rfl (by show _=_;rw [wJ hno g0])
  ·skip
   cases g1:(decide (l.length≤4):Bool)
   ·skip
    refine ae ?_
    have hno:¬ (l.length=1∧l.getD 0 aT=m):=(by rintro ⟨h9,h8⟩;exact absurd h9 (of_decide_eq_false h1))
    refine ac h (ag (h.ev rfl)) rfl ?_;intro f h
    refine ac h (bc (hR.keep s.ext) Tryz.underlying36 (h.ev rfl)) rfl ?_;intro f h
    refine ac h (av (.bool true) (dg (h.ev rfl) (h.ev rfl)) (congrArg Value.bool (decide_eq_true (by have:=of_decide_eq_true g0;omega)))) rfl ?_;intro f h
    refine ac h (ag (h.ev rfl)) rfl ?_;intro f h
    refine az h rfl rfl rfl ?_
    refine ac h (ag (h.ev rfl)) rfl ?_;intro f h
    refine az h rfl rfl rfl ?_
    refine ac h (bc (hR.keep s.ext) Tryz.underlying36 (h.ev rfl)) rfl ?_;intro f h
    refine az h rfl rfl rfl ?_
    refine ac h (av (.bool false) (fU (h.ev rfl) (h.ev rfl)) (congrArg Value.bool (decide_eq_false (by have:=of_decide_eq_false g1;omega)))) rfl ?_;intro f h
    refine ac h (aI (h.ev rfl) (h.ev rfl)) rfl ?_;intro f h
    refine ac h (ag (h.ev rfl)) rfl ?_;intro f h
    refine aA (b:=true) h rfl rfl rfl rfl ?_;intro f h
    refine aA (b:=true) h rfl rfl rfl rfl ?_;intro f h
    refine aA (b:=true) h rfl rfl rfl rfl ?_;intro f h
    refine aA (b:=true) h rfl rfl rfl rfl ?_;intro f h
    refine ac h (aG (h.ev rfl) (h.ev rfl)) rfl ?_;intro f h
    refine ac h (aj (h.ev rfl)) rfl ?_;intro f h
    refine ah ?_
    refine hK4 _ _ ?_
    refine wpIn_ret ?_
    exact bf rfl h s rfl (by show _=_;rw [x1 hno g1])
   ·skip
    refine ae ?_
    have hno:¬ (l.length=1∧l.getD 0 aT=m):=(by rintro ⟨h9,h8⟩;exact absurd h9 (of_decide_eq_false h1))
    refine ac h (ag (h.ev rfl)) rfl ?_;intro f h
    refine ac h (bc (hR.keep s.ext) Tryz.underlying36 (h.ev rfl)) rfl ?_;intro f h
    refine ac h (av (.bool true) (dg (h.ev rfl) (h.ev rfl)) (congrArg Value.bool (decide_eq_true (by have:=of_decide_eq_true g0;omega)))) rfl ?_;intro f h
    refine ac h (ag (h.ev rfl)) rfl ?_;intro f h
    refine az h rfl rfl rfl ?_
    refine ac h (ag (h.ev rfl)) rfl ?_;intro f h
    refine az h rfl rfl rfl ?_
    refine ac h (bc (hR.keep s.ext) Tryz.underlying36 (h.ev rfl)) rfl ?_;intro f h
    refine az h rfl rfl rfl ?_
    refine ac h (av (.bool true) (fU (h.ev rfl) (h.ev rfl)) (congrArg Value.bool (decide_eq_true (by have:=of_decide_eq_true g1;omega)))) rfl ?_;intro f h
    refine ac h (aI (h.ev rfl) (h.ev rfl)) rfl ?_;intro f h
    refine ac h (ag (h.ev rfl)) rfl ?_;intro f h
    refine az h rfl rfl rfl ?_
    refine ac h (ag (h.ev rfl)) rfl ?_;intro f h
    refine az h rfl rfl rfl ?_
    refine ac h (ai aJ (h.ev rfl)) rfl ?_;intro f h
    refine az h rfl rfl rfl ?_
    refine au (am (aU.of_own s 0 rfl) 0 (aP _)) h bz rfl rfl ?_;intro f h
    refine az h rfl rfl rfl ?_
    refine aH h s rI (jp l vh m.1 _ (hR.keep s.ext) hln) rfl rfl ?_;intro f w1 v9 hT hE h s;obtain rfl:=hT
    refine ac h (aI (h.ev rfl) (h.ev rfl)) rfl ?_;intro f h
    refine ac h (aj (h.ev rfl)) rfl ?_;intro f h
    refine ah ?_
    refine hK4 _ _ ?_
    refine wpIn_ret ?_
    exact bf rfl h s rfl (by show _=_;rw [w8 hno g0 g1])
 ·skip
  cases h2:(decide (l.getD 0 aT=m):Bool)
  ·skip
   refine bI 10 [[],[0],[0,1],[0,1,2],[0,1,2,3],[0,1,2,3,4],[0,1,2,3,4,5],[0,1,2,3],[0,1,2,3,4,5,6,7],[0,1,2,3,4,5,6,7,8]] h (by kernel_rfl) (by kernel_rfl) (by kernel_rfl) ?_
   refine ao h (ag (h.ev rfl)) rfl ?_;intro f h
   refine ao h (bc (hR.keep s.ext) Tryz.underlying36 (h.ev rfl)) rfl ?_;intro f h
   refine ao h (av (.bool true) (bX (h.ev rfl) (h.ev rfl)) (congrArg Value.bool (decide_eq_true (by have:=of_decide_eq_true h1;omega)))) rfl ?_;intro f h
   refine ao h (ag (h.ev rfl)) rfl ?_;intro f h
   refine aV h rfl rfl rfl ?_
   refine ao h (ag (h.ev rfl)) rfl ?_;intro f h
   refine aV h rfl rfl rfl ?_
   have h19:=of_decide_eq_true h1
   refine ao h (bZ (hR.keep s.ext) (0) Tryz.underlying36 cz (h.ev rfl) (h.ev rfl) (by omega) (by omega)) rfl ?_;intro f h
   refine aV h rfl rfl rfl ?_
   refine bk ((hR.keep s.ext).el (0) (by omega) (by decide) (D:=aw (l.getD 0 aT)) (cL l 0 (by omega))) h aL rfl (ak _) rfl ?_;intro f h
   refine aV h rfl rfl rfl ?_
   refine bB 0 h s aL rfl rfl (ak _) rfl ?_;intro f h
   refine aV h rfl rfl rfl ?_
   refine ao h (av (.bool false) (cV (g4 _ _) (by kernel_rfl) (by decide) (h.ev rfl) (h.ev rfl) (decide (l.getD 0 aT=m)) (ee _ _)) (congrArg Value.bool h2)) rfl ?_;intro f h
   refine ao h (aI (h.ev rfl) (h.ev rfl)) rfl ?_;intro f h
   refine cq s fun w1 s=>?_
   refine ah ?_
   refine hK3 _ _ ?_
   refine wpIn_cond_false (h.ev rfl) ?_
   refine wpIn_skip ?_
   refine hK2 _ _ ?_
   refine al fun K5 hK5=>?_
   cases g0:(decide (1≤l.length):Bool)
   ·skip
    refine ae ?_
    have hno:¬ (l.length=1∧l.getD 0 aT=m):=(by rintro ⟨h9,h8⟩;exact absurd h8 (of_decide_eq_false h2))
    refine ac h (ag (h.ev rfl)) rfl ?_;intro f h
    refine ac h (bc (hR.keep s.ext) Tryz.underlying36 (h.ev rfl)) rfl ?_;intro f h
    refine ac h (av (.bool false) (dg (h.ev rfl) (h.ev rfl)) (congrArg Value.bool (decide_eq_false (by have:=of_decide_eq_false g0;omega)))) rfl ?_;intro f h
    refine ac h (ag (h.ev rfl)) rfl ?_;intro f h
    refine aA (b:=true) h rfl rfl rfl rfl ?_;intro f h
    refine aA (b:=true) h rfl rfl rfl rfl ?_;intro f h
    refine aA (b:=true) h rfl rfl rfl rfl ?_;intro f h
    refine ac h (aG (h.ev rfl) (h.ev rfl)) rfl ?_;intro f h
    refine ac h (ag (h.ev rfl)) rfl ?_;intro f h
    refine aA (b:=true) h rfl rfl rfl rfl ?_;intro f h
    refine aA (b:=true) h rfl rfl rfl rfl ?_;intro f h
    refine aA (b:=true) h rfl rfl rfl rfl ?_;intro f h
    refine aA (b:=true) h rfl rfl rfl rfl ?_;intro f h
    refine ac h (aG (h.ev rfl) (h.ev rfl)) rfl ?_;intro f h
    refine ac h (aj (h.ev rfl)) rfl ?_;intro f h
    refine ah ?_
    refine hK5 _ _ ?_
    refine wpIn_ret ?_
    exact bf rfl h s rfl (by show _=_;rw [wJ hno g0])
   ·skip
    cases g1:(decide (l.length≤4):Bool)
    ·skip
     refine ae ?_
     have hno:¬ (l.length=1∧l.getD 0 aT=m):=(by rintro ⟨h9,h8⟩;exact absurd h8 (of_decide_eq_false h2))
     refine ac h (ag (h.ev rfl)) rfl ?_;intro f h
     refine ac h (bc (hR.keep s.ext) Tryz.underlying36 (h.ev rfl)) rfl ?_;intro f h
     refine ac h (av (.bool true) (dg (h.ev rfl) (h.ev rfl)) (congrArg Value.bool (decide_eq_true (by have:=of_decide_eq_true g0;omega)))) rfl ?_;intro f h
     refine ac h (ag (h.ev rfl)) rfl ?_;intro f h
     refine az h rfl rfl rfl ?_
     refine ac h (ag (h.ev rfl)) rfl ?_;intro f h
     refine az h rfl rfl rfl ?_
     refine ac h (bc (hR.keep s.ext) Tryz.underlying36 (h.ev rfl)) rfl ?_;intro f h
     refine az h rfl rfl rfl ?_
     refine ac h (av (.bool false) (fU (h.ev rfl) (h.ev rfl)) (congrArg Value.bool (decide_eq_false (by have:=of_decide_eq_false g1;omega)))) rfl ?_;intro f h
     refine ac h (aI (h.ev rfl) (h.ev rfl)) rfl ?_;intro f h
     refine ac h (ag (h.ev rfl)) rfl ?_;intro f h
     refine aA (b:=true) h rfl rfl rfl rfl ?_;intro f h
     refine aA (b:=true) h rfl rfl rfl rfl ?_;intro f h
     refine aA (b:=true) h rfl rfl rfl rfl ?_;intro f h
     refine aA (b:=true) h rfl rfl rfl rfl ?_;intro f h
     refine ac h (aG (h.ev rfl) (h.ev rfl)) rfl ?_;intro f h
     refine ac h (aj (h.ev rfl)) rfl ?_;intro f h
     refine ah ?_
     refine hK5 _ _ ?_
     refine wpIn_ret ?_
     exact bf rfl h s rfl (by show _=_;rw [x1 hno g1])
    ·skip
     refine ae ?_
     have hno:¬ (l.length=1∧l.getD 0 aT=m):=(by rintro ⟨h9,h8⟩;exact absurd h8 (of_decide_eq_false h2))
     refine ac h (ag (h.ev rfl)) rfl ?_;intro f h
     refine ac h (bc (hR.keep s.ext) Tryz.underlying36 (h.ev rfl)) rfl ?_;intro f h
     refine ac h (av (.bool true) (dg (h.ev rfl) (h.ev rfl)) (congrArg Value.bool (decide_eq_true (by have:=of_decide_eq_true g0;omega)))) rfl ?_;intro f h
     refine ac h (ag (h.ev rfl)) rfl ?_;intro f h
     refine az h rfl rfl rfl ?_
     refine ac h (ag (h.ev rfl)) rfl ?_;intro f h
     refine az h rfl rfl rfl ?_
     refine ac h (bc (hR.keep s.ext) Tryz.underlying36 (h.ev rfl)) rfl ?_;intro f h
     refine az h rfl rfl rfl ?_
     refine ac h (av (.bool true) (fU (h.ev rfl) (h.ev rfl)) (congrArg Value.bool (decide_eq_true (by have:=of_decide_eq_true g1;omega)))) rfl ?_;intro f h
     refine ac h (aI (h.ev rfl) (h.ev rfl)) rfl ?_;intro f h
     refine ac h (ag (h.ev rfl)) rfl ?_;intro f h
     refine az h rfl rfl rfl ?_
     refine ac h (ag (h.ev rfl)) rfl ?_;intro f h
     refine az h rfl rfl rfl ?_
     refine ac h (ai aJ (h.ev rfl)) rfl ?_;intro f h
     refine az h rfl rfl rfl ?_
     refine au (am (aU.of_own s 0 rfl) 0 (aP _)) h bz rfl rfl ?_;intro f h
     refine az h rfl rfl rfl ?_
     refine aH h s rI (jp l vh m.1 _ (hR.keep s.ext) hln) rfl rfl ?_;intro f w1 v9 hT hE h s;obtain rfl:=hT
     refine ac h (aI (h.ev rfl) (h.ev rfl)) rfl ?_;intro f h
     refine ac h (aj (h.ev rfl)) rfl ?_;intro f h
     refine ah ?_
     refine hK5 _ _ ?_
     refine wpIn_ret ?_
     exact bf rfl h s rfl (by show _=_;rw [w8 hno g0 g1])
  ·skip
   refine bI 10 [[],[0],[0,1],[0,1,2],[0,1,2,3],[0,1,2,3,4],[0,1,2,3,4,5],[0,1,2,3],[0,1,2,3,4,5,6,7],[0,1,2,3,4,5,6,7,8]] h (by kernel_rfl) (by kernel_rfl) (by kernel_rfl) ?_
   refine ao h (ag (h.ev rfl)) rfl ?_;intro f h
   refine ao h (bc (hR.keep s.ext) Tryz.underlying36 (h.ev rfl)) rfl ?_;intro f h
   refine ao h (av (.bool true) (bX (h.ev rfl) (h.ev rfl)) (congrArg Value.bool (decide_eq_true (by have:=of_decide_eq_true h1;omega)))) rfl ?_;intro f h
   refine ao h (ag (h.ev rfl)) rfl ?_;intro f h
   refine aV h rfl rfl rfl ?_
   refine ao h (ag (h.ev rfl)) rfl ?_;intro f h
   refine aV h rfl rfl rfl ?_
   have h19:=of_decide_eq_true h1
   refine ao h (bZ (hR.keep s.ext) (0) Tryz.underlying36 cz (h.ev rfl) (h.ev rfl) (by omega) (by omega)) rfl ?_;intro f h
   refine aV h rfl rfl rfl ?_
   refine bk ((hR.keep s.ext).el (0) (by omega) (by decide) (D:=aw (l.getD 0 aT)) (cL l 0 (by omega))) h aL rfl (ak _) rfl ?_;intro f h
   refine aV h rfl rfl rfl ?_
   refine bB 0 h s aL rfl rfl (ak _) rfl ?_;intro f h
   refine aV h rfl rfl rfl ?_
   refine ao h (av (.bool true) (cV (g4 _ _) (by kernel_rfl) (by decide) (h.ev rfl) (h.ev rfl) (decide (l.getD 0 aT=m)) (ee _ _)) (congrArg Value.bool h2)) rfl ?_;intro f h
   refine ao h (aI (h.ev rfl) (h.ev rfl)) rfl ?_;intro f h
   refine cq s fun w1 s=>?_
   refine ah ?_
   refine hK3 _ _ ?_
   refine wpIn_cond_true (h.ev rfl) ?_
   refine al fun K6 hK6=>?_
   refine ae ?_
   refine ac h (aj (h.ev rfl)) rfl ?_;intro f h
   refine ah ?_
   refine hK6 _ _ ?_
   refine wpIn_ret ?_
   refine aW ?_
   exact bf rfl h s rfl (by show _=_;rw [vP h1 h2])
theorem wd (l:List Mb) (vh:Value) (no:Int) (w:World) (hR:bq w vh 33 l.length (ap l)) (hln:l.length≤1000):Calls Tryz.prog 82 [vh,.int .i64 no].toArray w (cU w (is (.bool (jP l no)))):=by
 refine bp Tryz.func82 rfl Tryz.ntmps82 rfl [(0,vh),(1,.int .i64 no)] (by simp) fun f h=>?_
 have s:=St.start w
 refine al fun K1 hK1=>?_
 refine ae ?_
 refine ac h (aj (h.ev rfl)) rfl ?_;intro f h
 refine ah ?_
 refine hK1 _ _ ?_
 refine al fun K2 hK2=>?_
 cases g0:(decide (l.length≤16):Bool)
 ·skip
  refine ae ?_
  refine ac h (ag (h.ev rfl)) rfl ?_;intro f h
  refine ac h (bc (hR.keep s.ext) Tryz.underlying36 (h.ev rfl)) rfl ?_;intro f h
  refine ac h (av (.bool false) (fU (h.ev rfl) (h.ev rfl)) (congrArg Value.bool (decide_eq_false (by have:=of_decide_eq_false g0;omega)))) rfl ?_;intro f h
  refine ac h (ag (h.ev rfl)) rfl ?_;intro f h
  refine aA (b:=true) h rfl rfl rfl rfl ?_;intro f h
  refine aA (b:=true) h rfl rfl rfl rfl ?_;intro f h
  refine aA (b:=true) h rfl rfl rfl rfl ?_;intro f h
  refine ac h (aG (h.ev rfl) (h.ev rfl)) rfl ?_;intro f h
  refine ac h (aj (h.ev rfl)) rfl ?_;intro f h
  refine ah ?_
  refine hK2 _ _ ?_
  refine wpIn_ret ?_
  exact bf rfl h s rfl (by show _=_;rw [Ac g0])
 ·skip
  refine ae ?_
  refine ac h (ag (h.ev rfl)) rfl ?_;intro f h
  refine ac h (bc (hR.keep s.ext) Tryz.underlying36 (h.ev rfl)) rfl ?_;intro f h
  refine ac h (av (.bool true) (fU (h.ev rfl) (h.ev rfl)) (congrArg Value.bool (decide_eq_true (by have:=of_decide_eq_true g0;omega)))) rfl ?_;intro f h
  refine ac h (ag (h.ev rfl)) rfl ?_;intro f h
  refine az h rfl rfl rfl ?_
  refine ac h (ag (h.ev rfl)) rfl ?_;intro f h
  refine az h rfl rfl rfl ?_
  refine ac h (ag (h.ev rfl)) rfl ?_;intro f h
  refine az h rfl rfl rfl ?_
  refine aH h s rI (jp l vh no _ (hR.keep s.ext) hln) rfl rfl ?_;intro f w1 v9 hT hE h s;obtain rfl:=hT
  refine ac h (aI (h.ev rfl) (h.ev rfl)) rfl ?_;intro f h
  refine ac h (aj (h.ev rfl)) rfl ?_;intro f h
  refine ah ?_
  refine hK2 _ _ ?_
  refine wpIn_ret ?_
  exact bf rfl h s rfl (by show _=_;rw [An g0])
theorem dd (n:Nd) (vs vf:Value) (w:World) (hRs:bq w vs 33 n.sc.length (ap n.sc)) (hRf:bq w vf 33 n.fg.length (ap n.fg)) (hns:n.sc.length≤1000) (hnf:n.fg.length≤1000):Calls Tryz.prog 48 [.agg (aC n.me n.pr vs vf)].toArray w (cU w (is (.bool (cy n)))):=by
 refine bp Tryz.func48 rfl Tryz.ntmps48 rfl [(0,.agg (aC n.me n.pr vs vf))] (by simp) fun f h=>?_
 have s:=St.start w
 refine al fun K1 hK1=>?_
 refine ae ?_
 refine bV (aC n.me n.pr vs vf) h s rfl rfl rfl ?_;intro f w1 b1 h s
 refine ac h (aj (h.ev rfl)) rfl ?_;intro f h
 refine ah ?_
 refine hK1 _ _ ?_
 refine al fun K2 hK2=>?_
 cases h0:(dT n.me:Bool)
 ·skip
  refine ae ?_
  refine ac h (ai aR (h.ev rfl)) rfl ?_;intro f h
  refine aB (aU.subL (aU.of_own s 0 rfl) 0 33 (D:=aw n.me) (bT _ _ _ _)) h aL rfl (ak _) rfl ?_;intro f h
  refine aH h s gi (aO (.bool false) (dK n.me _) (congrArg Value.bool h0)) rfl rfl ?_;intro f w1 v9 hT hE h s;obtain rfl:=hT
  refine ac h (ag (h.ev rfl)) rfl ?_;intro f h
  refine aA (b:=true) h rfl rfl rfl rfl ?_;intro f h
  refine aA (b:=true) h rfl rfl rfl rfl ?_;intro f h
  refine aA (b:=true) h rfl rfl rfl rfl ?_;intro f h
  refine aA (b:=true) h rfl rfl rfl rfl ?_;intro f h
  refine aA (b:=true) h rfl rfl rfl rfl ?_;intro f h
  refine aA (b:=true) h rfl rfl rfl rfl ?_;intro f h
  refine ac h (aG (h.ev rfl) (h.ev rfl)) rfl ?_;intro f h
  refine ac h (ag (h.ev rfl)) rfl ?_;intro f h
  refine aA (b:=true) h rfl rfl rfl rfl ?_;intro f h
  refine aA (b:=true) h rfl rfl rfl rfl ?_;intro f h
  refine aA (b:=true) h rfl rfl rfl rfl ?_;intro f h
  refine aA (b:=true) h rfl rfl rfl rfl ?_;intro f h
  refine aA (b:=true) h rfl rfl rfl rfl ?_;intro f h
  refine ac h (aG (h.ev rfl) (h.ev rfl)) rfl ?_;intro f h
  refine ac h (ag (h.ev rfl)) rfl ?_;intro f h
  refine aA (b:=true) h rfl rfl rfl rfl ?_;intro f h
  refine aA (b:=true) h rfl rfl rfl rfl ?_;intro f h
  refine aA (b:=true) h rfl rfl rfl rfl ?_;intro f h
  refine aA (b:=true) h rfl rfl rfl rfl ?_;intro f h
  refine aA (b:=true) h rfl rfl rfl rfl ?_;intro f h
  refine aA (b:=true) h rfl rfl rfl rfl ?_;intro f h
  refine ac h (aG (h.ev rfl) (h.ev rfl)) rfl ?_;intro f h
  refine ac h (aj (h.ev rfl)) rfl ?_;intro f h
  refine ah ?_
  refine hK2 _ _ ?_
  refine wpIn_ret ?_
  exact bf rfl h s rfl (by show _=_;rw [sM h0])
 ·skip
  cases h1:(jz n.pr n.me.1:Bool)
  ·skip
   refine ae ?_
   refine ac h (ai aR (h.ev rfl)) rfl ?_;intro f h
   refine aB (aU.subL (aU.of_own s 0 rfl) 0 33 (D:=aw n.me) (bT _ _ _ _)) h aL rfl (ak _) rfl ?_;intro f h
   refine aH h s gi (aO (.bool true) (dK n.me _) (congrArg Value.bool h0)) rfl rfl ?_;intro f w1 v9 hT hE h s;obtain rfl:=hT
   refine ac h (ag (h.ev rfl)) rfl ?_;intro f h
   refine az h rfl rfl rfl ?_
   refine ac h (ai bR (h.ev rfl)) rfl ?_;intro f h
   refine az h rfl rfl rfl ?_
   refine aB (aU.subL (aU.of_own s 0 rfl) 33 33 (D:=aw n.pr) (cb _ _ _ _)) h aL rfl (ak _) rfl ?_;intro f h
   refine az h rfl rfl rfl ?_
   refine ac h (ai aR (h.ev rfl)) rfl ?_;intro f h
   refine az h rfl rfl rfl ?_
   refine ac h (ai aJ (h.ev rfl)) rfl ?_;intro f h
   refine az h rfl rfl rfl ?_
   refine au (am (aU.of_own s 0 rfl) 0 (bO _ _ _ _)) h bz rfl rfl ?_;intro f h
   refine az h rfl rfl rfl ?_
   refine aH h s wB (aO (.bool false) (o7 n.pr n.me.1 _) (congrArg Value.bool h1)) rfl rfl ?_;intro f w1 v9 hT hE h s;obtain rfl:=hT
   refine ac h (aI (h.ev rfl) (h.ev rfl)) rfl ?_;intro f h
   refine ac h (ag (h.ev rfl)) rfl ?_;intro f h
   refine aA (b:=true) h rfl rfl rfl rfl ?_;intro f h
   refine aA (b:=true) h rfl rfl rfl rfl ?_;intro f h
   refine aA (b:=true) h rfl rfl rfl rfl ?_;intro f h
   refine aA (b:=true) h rfl rfl rfl rfl ?_;intro f h
   refine aA (b:=true) h rfl rfl rfl rfl ?_;intro f h
   refine ac h (aG (h.ev rfl) (h.ev rfl)) rfl ?_;intro f h
   refine ac h (ag (h.ev rfl)) rfl ?_;intro f h
   refine aA (b:=true) h rfl rfl rfl rfl ?_;intro f h
   refine aA (b:=true) h rfl rfl rfl rfl ?_;intro f h
   refine aA (b:=true) h rfl rfl rfl rfl ?_;intro f h
   refine aA (b:=true) h rfl rfl rfl rfl ?_;intro f h
   refine aA (b:=true) h rfl rfl rfl rfl ?_;intro f h
   refine aA (b:=true) h rfl rfl rfl rfl ?_;intro f h
   refine ac h (aG (h.ev rfl) (h.ev rfl)) rfl ?_;intro f h
   refine ac h (aj (h.ev rfl)) rfl ?_;intro f h
   refine ah ?_
   refine hK2 _ _ ?_
   refine wpIn_ret ?_
   exact bf rfl h s rfl (by show _=_;rw [oS h1])
  ·skip
   cases h2:(iu n.sc n.me:Bool)
   ·skip
    refine ae ?_
    refine ac h (ai aR (h.ev rfl)) rfl ?_;intro f h
    refine aB (aU.subL (aU.of_own s 0 rfl) 0 33 (D:=aw n.me) (bT _ _ _ _)) h aL rfl (ak _) rfl ?_;intro f h
    refine aH h s gi (aO (.bool true) (dK n.me _) (congrArg Value.bool h0)) rfl rfl ?_;intro f w1 v9 hT hE h s;obtain rfl:=hT
    refine ac h (ag (h.ev rfl)) rfl ?_;intro f h
    refine az h rfl rfl rfl ?_
    refine ac h (ai bR (h.ev rfl)) rfl ?_;intro f h
    refine az h rfl rfl rfl ?_
    refine aB (aU.subL (aU.of_own s 0 rfl) 33 33 (D:=aw n.pr) (cb _ _ _ _)) h aL rfl (ak _) rfl ?_;intro f h
    refine az h rfl rfl rfl ?_
    refine ac h (ai aR (h.ev rfl)) rfl ?_;intro f h
    refine az h rfl rfl rfl ?_
    refine ac h (ai aJ (h.ev rfl)) rfl ?_;intro f h
    refine az h rfl rfl rfl ?_
    refine au (am (aU.of_own s 0 rfl) 0 (bO _ _ _ _)) h bz rfl rfl ?_;intro f h
    refine az h rfl rfl rfl ?_
    refine aH h s wB (aO (.bool true) (o7 n.pr n.me.1 _) (congrArg Value.bool h1)) rfl rfl ?_;intro f w1 v9 hT hE h s;obtain rfl:=hT
    refine ac h (aI (h.ev rfl) (h.ev rfl)) rfl ?_;intro f h
    refine ac h (ag (h.ev rfl)) rfl ?_;intro f h
    refine az h rfl rfl rfl ?_
    refine ac h (ai bD (h.ev rfl)) rfl ?_;intro f h
    refine az h rfl rfl rfl ?_
    refine au (V:=vs) (am (aU.of_own s 0 rfl) 66 (bL _ _ _ _)) h bE rfl rfl ?_;intro f h
    refine az h rfl rfl rfl ?_
    refine ac h (ai aR (h.ev rfl)) rfl ?_;intro f h
    refine az h rfl rfl rfl ?_
    refine aB (aU.subL (aU.of_own s 0 rfl) 0 33 (D:=aw n.me) (bT _ _ _ _)) h aL rfl (ak _) rfl ?_;intro f h
    refine az h rfl rfl rfl ?_
    refine aH h s AQ (aO (.bool false) (sY n.sc vs n.me _ (hRs.keep s.ext) hns) (congrArg Value.bool h2)) rfl rfl ?_;intro f w1 v9 hT hE h s;obtain rfl:=hT
    refine ac h (aI (h.ev rfl) (h.ev rfl)) rfl ?_;intro f h
    refine ac h (ag (h.ev rfl)) rfl ?_;intro f h
    refine aA (b:=true) h rfl rfl rfl rfl ?_;intro f h
    refine aA (b:=true) h rfl rfl rfl rfl ?_;intro f h
    refine aA (b:=true) h rfl rfl rfl rfl ?_;intro f h
    refine aA (b:=true) h rfl rfl rfl rfl ?_;intro f h
    refine aA (b:=true) h rfl rfl rfl rfl ?_;intro f h
    refine aA (b:=true) h rfl rfl rfl rfl ?_;intro f h
    refine ac h (aG (h.ev rfl) (h.ev rfl)) rfl ?_;intro f h
    refine ac h (aj (h.ev rfl)) rfl ?_;intro f h
    refine ah ?_
    refine hK2 _ _ ?_
    refine wpIn_ret ?_
    exact bf rfl h s rfl (by show _=_;rw [j1 h2])
   ·skip
    refine ae ?_
    refine ac h (ai aR (h.ev rfl)) rfl ?_;intro f h
    refine aB (aU.subL (aU.of_own s 0 rfl) 0 33 (D:=aw n.me) (bT _ _ _ _)) h aL rfl (ak _) rfl ?_;intro f h
    refine aH h s gi (aO (.bool true) (dK n.me _) (congrArg Value.bool h0)) rfl rfl ?_;intro f w1 v9 hT hE h s;obtain rfl:=hT
    refine ac h (ag (h.ev rfl)) rfl ?_;intro f h
    refine az h rfl rfl rfl ?_
    refine ac h (ai bR (h.ev rfl)) rfl ?_;intro f h
    refine az h rfl rfl rfl ?_
    refine aB (aU.subL (aU.of_own s 0 rfl) 33 33 (D:=aw n.pr) (cb _ _ _ _)) h aL rfl (ak _) rfl ?_;intro f h
    refine az h rfl rfl rfl ?_
    refine ac h (ai aR (h.ev rfl)) rfl ?_;intro f h
    refine az h rfl rfl rfl ?_
    refine ac h (ai aJ (h.ev rfl)) rfl ?_;intro f h
    refine az h rfl rfl rfl ?_
    refine au (am (aU.of_own s 0 rfl) 0 (bO _ _ _ _)) h bz rfl rfl ?_;intro f h
    refine az h rfl rfl rfl ?_
    refine aH h s wB (aO (.bool true) (o7 n.pr n.me.1 _) (congrArg Value.bool h1)) rfl rfl ?_;intro f w1 v9 hT hE h s;obtain rfl:=hT
    refine ac h (aI (h.ev rfl) (h.ev rfl)) rfl ?_;intro f h
    refine ac h (ag (h.ev rfl)) rfl ?_;intro f h
    refine az h rfl rfl rfl ?_
    refine ac h (ai bD (h.ev rfl)) rfl ?_;intro f h
    refine az h rfl rfl rfl ?_
    refine au (V:=vs) (am (aU.of_own s 0 rfl) 66 (bL _ _ _ _)) h bE rfl rfl ?_;intro f h
    refine az h rfl rfl rfl ?_
    refine ac h (ai aR (h.ev rfl)) rfl ?_;intro f h
    refine az h rfl rfl rfl ?_
    refine aB (aU.subL (aU.of_own s 0 rfl) 0 33 (D:=aw n.me) (bT _ _ _ _)) h aL rfl (ak _) rfl ?_;intro f h
    refine az h rfl rfl rfl ?_
    refine aH h s AQ (aO (.bool true) (sY n.sc vs n.me _ (hRs.keep s.ext) hns) (congrArg Value.bool h2)) rfl rfl ?_;intro f w1 v9 hT hE h s;obtain rfl:=hT
    refine ac h (aI (h.ev rfl) (h.ev rfl)) rfl ?_;intro f h
    refine ac h (ag (h.ev rfl)) rfl ?_;intro f h
    refine az h rfl rfl rfl ?_
    refine ac h (ai cR (h.ev rfl)) rfl ?_;intro f h
    refine az h rfl rfl rfl ?_
    refine au (V:=vf) (am (aU.of_own s 0 rfl) 67 (cT _ _ _ _)) h bE rfl rfl ?_;intro f h
    refine az h rfl rfl rfl ?_
    refine ac h (ai aR (h.ev rfl)) rfl ?_;intro f h
    refine az h rfl rfl rfl ?_
    refine ac h (ai aJ (h.ev rfl)) rfl ?_;intro f h
    refine az h rfl rfl rfl ?_
    refine au (am (aU.of_own s 0 rfl) 0 (bO _ _ _ _)) h bz rfl rfl ?_;intro f h
    refine az h rfl rfl rfl ?_
    refine aH h s CN (wd n.fg vf n.me.1 _ (hRf.keep s.ext) hnf) rfl rfl ?_;intro f w1 v9 hT hE h s;obtain rfl:=hT
    refine ac h (aI (h.ev rfl) (h.ev rfl)) rfl ?_;intro f h
    refine ac h (aj (h.ev rfl)) rfl ?_;intro f h
    refine ah ?_
    refine hK2 _ _ ?_
    refine wpIn_ret ?_
    exact bf rfl h s rfl (by show _=_;rw [y9 h0 h1 h2])
theorem uv (l:List Mb) (hln:l.length≤1000) (a9:Option Addr) (n9 c9:Nat) (w:World) (hR:bq w (.slice a9 n9 c9) 33 l.length (ap l)):Calls Tryz.prog 71 [.slice a9 n9 c9].toArray w (cU w (fun v w'=>cQ w' w.heap.size 28 33 v l.length (ap l))):=by
 refine bp Tryz.func71 rfl Tryz.ntmps71 rfl [(0,.slice a9 n9 c9)] (by simp) fun f h=>?_
 have s:=St.start w
 refine al fun K1 hK1=>?_
 refine ae ?_
 refine ac h (aj (h.ev rfl)) rfl ?_;intro f h
 refine ah ?_
 refine hK1 _ _ ?_
 refine al fun K2 hK2=>?_
 refine al fun K3 hK3=>?_
 cases hn:(a9.isNone:Bool)
 ·skip
  refine ae ?_
  refine ac h (ag (h.ev rfl)) rfl ?_;intro f h
  refine ac h (av (.bool false) (ga Tryz.underlying36 (h.ev rfl) (h.ev rfl)) (congrArg Value.bool hn)) rfl ?_;intro f h
  refine ah ?_
  refine hK3 _ _ ?_
  refine wpIn_cond_false (h.ev rfl) ?_
  refine wpIn_skip ?_
  refine hK2 _ _ ?_
  refine al fun K4 hK4=>?_
  refine ae ?_
  refine oh (base:=w.heap.size) h Tryz.underlying36 cP (Nat.le_refl _) rfl ?_;intro f w2 v5 h hE3 e5
  refine ac h (ag (h.ev rfl)) rfl ?_;intro f h
  refine j5 (base:=w.heap.size) e5 (hR.keep hE3) h Tryz.underlying36 cP rfl rfl hE3.le (eG _) (by unfold maxLen;omega) (by omega) rfl ?_;intro f w3 v7 h hE4 e7
  replace s:=s.sl_new (hE3.trans hE4) e7
  refine ac h (aj (h.ev rfl)) rfl ?_;intro f h
  refine ah ?_
  refine hK4 _ _ ?_
  refine wpIn_ret ?_
  exact bf rfl h s rfl (s.getSl 0 rfl)
 ·skip
  refine ae ?_
  refine ac h (ag (h.ev rfl)) rfl ?_;intro f h
  refine ac h (av (.bool true) (ga Tryz.underlying36 (h.ev rfl) (h.ev rfl)) (congrArg Value.bool hn)) rfl ?_;intro f h
  refine ah ?_
  refine hK3 _ _ ?_
  refine wpIn_cond_true (h.ev rfl) ?_
  refine al fun K5 hK5=>?_
  refine ae ?_
  refine ac h (aj (h.ev rfl)) rfl ?_;intro f h
  refine ah ?_
  refine hK5 _ _ ?_
  refine wpIn_ret ?_
  refine aW ?_
  exact bf rfl h s rfl (by obtain rfl:=rk hn hR;exact gB _ _ _ _)
theorem gX (l:List Mb) (hln:l.length≤1000) (v9:Value) (w:World) (hR:bq w v9 33 l.length (ap l)):Calls Tryz.prog 71 [v9].toArray w (cU w (fun v w'=>cQ w' w.heap.size 28 33 v l.length (ap l))):=by
 obtain ⟨a,c,rfl⟩:=hR.len
 exact uv l hln a _ c w hR
theorem ju (n:Nd) (vs vf:Value) (w:World) (hRs:bq w vs 33 n.sc.length (ap n.sc)) (hRf:bq w vf 33 n.fg.length (ap n.fg)) (hns:n.sc.length≤1000) (hnf:n.fg.length≤1000):Calls Tryz.prog 56 [.agg (aC n.me n.pr vs vf)].toArray w (cU w (C3 w 28 n)):=by
 refine bp Tryz.func56 rfl Tryz.ntmps56 rfl [(0,.agg (aC n.me n.pr vs vf))] (by simp) fun f h=>?_
 have s:=St.start w
 refine al fun K1 hK1=>?_
 refine ae ?_
 refine bV (aC n.me n.pr vs vf) h s rfl rfl rfl ?_;intro f w1 b1 h s
 refine bj (aC aT aT a8 a8) h s ea rfl rfl ?_;intro f w1 b2 h s
 refine ah ?_
 refine hK1 _ _ ?_
 refine al fun K2 hK2=>?_
 refine ae ?_
 refine ac h (ai bD (h.ev rfl)) rfl ?_;intro f h
 refine au (V:=vs) (am (aU.of_own s 1 rfl) 66 (bL _ _ _ _)) h bE rfl rfl ?_;intro f h
 refine aH h s sO (gX n.sc hns vs _ (hRs.keep s.ext)) rfl rfl ?_;intro f w1 v5 hT hE h sq;replace s:=s.sl_new hE hT
 refine ac h (ai bD (h.ev rfl)) rfl ?_;intro f h
 refine bg 2 h s bE rfl rfl rfl (by rw [aq];omega) (aX (s.getSl 0 rfl)) ?_;intro w1 s
 replace s:=s.recell (D:=aC n.me n.pr v5 vf) 2 rfl (ek _ _ _ _ _)
 refine ah ?_
 refine hK2 _ _ ?_
 refine al fun K3 hK3=>?_
 refine ae ?_
 refine ac h (ai cR (h.ev rfl)) rfl ?_;intro f h
 refine au (V:=vf) (am (aU.of_own s 2 rfl) 67 (cT _ _ _ _)) h bE rfl rfl ?_;intro f h
 refine aH h s sO (gX n.fg hnf vf _ (hRf.keep s.ext)) rfl rfl ?_;intro f w1 v9 hT hE h sq;replace s:=s.sl_new hE hT
 refine ac h (ai cR (h.ev rfl)) rfl ?_;intro f h
 refine bg 3 h s bE rfl rfl rfl (by rw [aq];omega) (aX (s.getSl 0 rfl)) ?_;intro w1 s
 replace s:=s.recell (D:=aC n.me n.pr v5 v9) 3 rfl (iz _ _ _ _ _)
 refine ah ?_
 refine hK3 _ _ ?_
 refine al fun K4 hK4=>?_
 refine ae ?_
 refine ar 3 h s aZ rfl rfl (aq _ _ _ _) rfl ?_;intro f h
 refine ax 2 h s aZ rfl rfl rfl (aq _ _ _ _) (aq _ _ _ _) (a7 (aX (s.getSl 1 rfl)) (aX (s.getSl 0 rfl))) ?_;intro w1 s
 refine ah ?_
 refine hK4 _ _ ?_
 refine wpIn_ret ?_
 exact c8 2 rfl h s aZ rfl rfl (aq _ _ _ _) (Bz rfl (s.sel [1,0] rfl (by decide)))
end Go.Proofs.YthggibfkgofncaaGreat
