/- What Right of package node answers, and the functions that it calls, and copies of rows of members: for all nodes with at most 1000 members in each row. -/
import Derived.Test.YthggibfkgofncaaGreatCon
set_option linter.unusedVariables false
set_option linter.unusedSimpArgs false
set_option linter.unusedSectionVars false
namespace Go.Proofs.YthggibfkgofncaaGreat
open Go.RowKit
theorem p9 (l:List Mb) (vh:Value) (g9:Nat) (caps:List Value) (p:Mb→Bool) (w:World) (hR:bO w vh 33 l.length (am l)) (hln:l.length≤1000) (hg:Fnc Tryz.prog g9) (hp:∀ w9,Ext w w9→∀ x∈l,Calls Tryz.prog g9 (.agg (av x)::caps).toArray w9 (cO w9 (is (.bool (p x))))):Calls Tryz.prog 112 [vh,.func (.func g9) #[] caps.toArray].toArray w (cO w (fun v _=>∃ r:Int,v=.int .i64 r∧((r = -1∧∀ x∈l,p x=false)∨∃ k:Nat,∃ hk:k<l.length,r=(k:Int)∧p l[k]=true))):=by
 refine bh Tryz.func112 rfl Tryz.ntmps112 rfl [(0,vh),(1,.func (.func g9) #[] caps.toArray)] (by simp) fun f h=>?_
 have s:=St.start w
 refine ak fun K1 hK1=>?_
 refine ag ?_
 refine ac h (aj (h.ev rfl)) rfl ?_;intro f h
 refine ai ?_
 refine hK1 _ _ ?_
 refine ak fun K2 hK2=>?_
 refine ak fun K3 hK3=>?_
 refine ag ?_
 refine ac h (ah (h.ev rfl)) rfl ?_;intro f h
 refine ac h (bK (hR.keep s.ext) Tryz.underlying36 (h.ev rfl)) rfl ?_;intro f h
 refine ac h (ah (h.ev rfl)) rfl ?_;intro f h
 refine ai ?_
 refine hK3 _ _ ?_
 refine wpIn_block ?_
 refine wpIn_loop_ghost (fun nn aa ww=>∃ k:Nat,Sl 19 aa [(0,vh),(1,.func (.func g9) #[] caps.toArray),(6,vh),(7,.int .i64 (l.length:Int)),(8,.int .i64 (k:Int))]∧St w [] ww∧nn=l.length - k∧k≤l.length∧∀ i (hi:i<l.length),i<k→p l[i]=false) (l.length - (0)) ⟨0,h.only ⟨rfl,rfl,rfl,rfl,aQ rfl (by omega),trivial⟩,s.as trivial,rfl,Nat.zero_le _,fun i hi h9=>absurd h9 (Nat.not_lt_zero _)⟩ ?_
 rintro _ f w1 ⟨k,h,s,hnn,hp0,hp1⟩
 refine ak fun K4 hK4=>?_
 refine ag ?_
 refine ac h (cc (h.ev rfl) (h.ev rfl)) rfl ?_;intro f h
 refine ai ?_
 refine hK4 _ _ ?_
 refine ak fun K5 hK5=>?_
 refine bL h rfl (fun hc=>?_) (fun hc=>?_)
 ·replace hc:=of_decide_eq_true hc
  refine wpIn_skip ?_
  refine hK5 _ _ ?_
  refine ak fun K6 hK6=>?_
  refine wpIn_block ?_
  refine ak fun K7 hK7=>?_
  refine ag ?_
  refine ac h (ah (h.ev rfl)) rfl ?_;intro f h
  refine ac h (aj (h.ev rfl)) rfl ?_;intro f h
  refine ai ?_
  refine hK7 _ _ ?_
  refine ak fun K8 hK8=>?_
  refine ag ?_
  have hkl:k<l.length:=by omega
  refine ac h (ah (h.ev rfl)) rfl ?_;intro f h
  refine ac h (ah (h.ev rfl)) rfl ?_;intro f h
  refine ac h (ah (h.ev rfl)) rfl ?_;intro f h
  refine ac h (bU (hR.keep s.ext) (k) Tryz.underlying36 cA (h.ev rfl) (h.ev rfl) (by omega) (by omega)) rfl ?_;intro f h
  refine aI ((hR.keep s.ext).el (k) (by omega) (by decide) (D:=av l[k]) (rO l k hkl)) h aJ rfl (al _) rfl ?_;intro f h
  refine fk [.agg (av l[k])] (caps:=caps) h s hg rfl (hp _ s.ext _ (List.getElem_mem hkl)) rfl rfl ?_;intro f w1 v9 hT hE h s;obtain rfl:=hT
  refine ai ?_
  refine hK8 _ _ ?_
  refine bL h rfl (fun hc=>?_) (fun hc=>?_)
  ·refine ak fun K9 hK9=>?_
   refine ag ?_
   refine ac h (ah (h.ev rfl)) rfl ?_;intro f h
   refine ac h (aj (h.ev rfl)) rfl ?_;intro f h
   refine ai ?_
   refine hK9 _ _ ?_
   refine wpIn_ret ?_
   refine bT ?_
   refine a8 ?_
   refine a8 ?_
   refine bT ?_
   refine a8 ?_
   exact bu rfl h s rfl (⟨_,rfl,.inr ⟨k,hkl,rfl,hc⟩⟩)
  ·refine wpIn_skip ?_
   refine bH ?_
   refine hK6 _ _ ?_
   refine ag ?_
   refine ac h (cp (h.ev rfl) (h.ev rfl) (by omega)) rfl ?_;intro f h
   refine ac h (ah (h.ev rfl)) rfl ?_;intro f h
   refine ai ?_
   refine ca ?_
   exact ⟨_,by omega,⟨k+1,h.only ⟨rfl,rfl,rfl,rfl,aQ rfl (by omega),trivial⟩,St.as s trivial,rfl,by omega,pX (fun y=>p y=false) hp1 hkl hc⟩⟩
 ·replace hc:=of_decide_eq_false hc
  refine wpIn_exit ?_
  refine bN ?_
  refine bN ?_
  refine cG ?_
  refine hK2 _ _ ?_
  refine ak fun K10 hK10=>?_
  refine ag ?_
  refine ac h (aj (h.ev rfl)) rfl ?_;intro f h
  refine ai ?_
  refine hK10 _ _ ?_
  refine wpIn_ret ?_
  exact bu rfl h s rfl (⟨_,rfl,.inl ⟨rfl,fun x hx=>(by obtain ⟨i,hi,e⟩:=List.getElem_of_mem hx;rw [← e];exact hp1 i hi (by omega))⟩⟩)
theorem iF (l:List Mb) (vh:Value) (g9:Nat) (caps:List Value) (p:Mb→Bool) (w:World) (hR:bO w vh 33 l.length (am l)) (hln:l.length≤1000) (hg:Fnc Tryz.prog g9) (hp:∀ w9,Ext w w9→∀ x∈l,Calls Tryz.prog g9 (.agg (av x)::caps).toArray w9 (cO w9 (is (.bool (p x))))):Calls Tryz.prog 77 [vh,.func (.func g9) #[] caps.toArray].toArray w (cO w (is (.bool (l.any p)))):=by
 refine bh Tryz.func77 rfl Tryz.ntmps77 rfl [(0,vh),(1,.func (.func g9) #[] caps.toArray)] (by simp) fun f h=>?_
 have s:=St.start w
 refine ak fun K1 hK1=>?_
 refine ag ?_
 refine ac h (aj (h.ev rfl)) rfl ?_;intro f h
 refine ai ?_
 refine hK1 _ _ ?_
 refine ak fun K2 hK2=>?_
 refine ag ?_
 refine ac h (ah (h.ev rfl)) rfl ?_;intro f h
 refine ac h (ah (h.ev rfl)) rfl ?_;intro f h
 refine aK h s t2 (p9 l vh g9 caps p _ (hR.keep s.ext) hln hg (fun w9 h9=>hp w9 (s.ext.trans h9))) rfl rfl ?_;rintro f w1 v9 ⟨r9,rfl,hr⟩ hE h s
 refine ac h (aE (.bool (l.any p)) (d7 (h.ev rfl) (h.ev rfl)) (congrArg Value.bool (x0 hr))) rfl ?_;intro f h
 refine ac h (aj (h.ev rfl)) rfl ?_;intro f h
 refine ai ?_
 refine hK2 _ _ ?_
 refine wpIn_ret ?_
 exact bu rfl h s rfl (rfl)
theorem di (m:Mb) (w:World):Calls Tryz.prog 55 [.agg (av m)].toArray w (cO w (is (.bool (dI m)))):=by
 refine bh Tryz.func55 rfl Tryz.ntmps55 rfl [(0,.agg (av m))] (by simp) fun f h=>?_
 have s:=St.start w
 refine ak fun K1 hK1=>?_
 refine ag ?_
 refine bR ((av m)) h s rfl rfl rfl ?_;intro f w1 b1 h s
 refine ac h (aj (h.ev rfl)) rfl ?_;intro f h
 refine ai ?_
 refine hK1 _ _ ?_
 refine ak fun K2 hK2=>?_
 cases h0:(decide (0≤m.1):Bool)
 ·skip
  refine ag ?_
  refine ac h (aq aP (h.ev rfl)) rfl ?_;intro f h
  refine aC (ax (bq.of_own s 0 rfl) 0 (aV _)) h bV rfl rfl ?_;intro f h
  refine ac h (aE (.bool false) (d7 (h.ev rfl) (h.ev rfl)) (congrArg Value.bool h0)) rfl ?_;intro f h
  refine ac h (ah (h.ev rfl)) rfl ?_;intro f h
  refine aY (b:=true) h rfl rfl rfl rfl ?_;intro f h
  refine aY (b:=true) h rfl rfl rfl rfl ?_;intro f h
  refine aY (b:=true) h rfl rfl rfl rfl ?_;intro f h
  refine ac h (aL (h.ev rfl) (h.ev rfl)) rfl ?_;intro f h
  refine ac h (aj (h.ev rfl)) rfl ?_;intro f h
  refine ai ?_
  refine hK2 _ _ ?_
  refine wpIn_ret ?_
  exact bu rfl h s rfl (by show _=_;rw [y1 h0]<;>rfl)
 ·skip
  refine ag ?_
  refine ac h (aq aP (h.ev rfl)) rfl ?_;intro f h
  refine aC (ax (bq.of_own s 0 rfl) 0 (aV _)) h bV rfl rfl ?_;intro f h
  refine ac h (aE (.bool true) (d7 (h.ev rfl) (h.ev rfl)) (congrArg Value.bool h0)) rfl ?_;intro f h
  refine ac h (ah (h.ev rfl)) rfl ?_;intro f h
  refine a2 h rfl rfl rfl ?_
  refine ac h (aq aP (h.ev rfl)) rfl ?_;intro f h
  refine a2 h rfl rfl rfl ?_
  refine aC (ax (bq.of_own s 0 rfl) 0 (aV _)) h bV rfl rfl ?_;intro f h
  refine a2 h rfl rfl rfl ?_
  refine ac h (cc (h.ev rfl) (h.ev rfl)) rfl ?_;intro f h
  refine ac h (aO (h.ev rfl) (h.ev rfl)) rfl ?_;intro f h
  refine ac h (aj (h.ev rfl)) rfl ?_;intro f h
  refine ai ?_
  refine hK2 _ _ ?_
  refine wpIn_ret ?_
  exact bu rfl h s rfl (by show _=_;rw [y6 h0]<;>rfl)
theorem dh  (w:World):Calls Tryz.prog 68 [].toArray w (cO w (is (.agg (av c4)))):=by
 refine bh Tryz.func68 rfl Tryz.ntmps68 rfl [] (by simp) fun f h=>?_
 have s:=St.start w
 refine ak fun K1 hK1=>?_
 refine ag ?_
 refine bi (av ap) h s cF rfl rfl ?_;intro f w1 b0 h s
 refine ai ?_
 refine hK1 _ _ ?_
 refine ak fun K2 hK2=>?_
 refine ag ?_
 refine ac h (eC oL rfl) rfl ?_;intro f h
 refine aA 0 h s aJ rfl rfl rfl (al _) (al _) (aX _) ?_;intro w1 s
 refine ai ?_
 refine hK2 _ _ ?_
 refine wpIn_ret ?_
 exact eP 0 rfl h s aJ rfl rfl (al _) (rfl)
theorem ow (m:Mb) (no:Int) (w:World):Calls Tryz.prog 80 [.agg (av m),.int .i64 no].toArray w (cO w (is (.bool (kP m no)))):=by
 refine bh Tryz.func80 rfl Tryz.ntmps80 rfl [(0,.agg (av m)),(1,.int .i64 no)] (by simp) fun f h=>?_
 have s:=St.start w
 refine ak fun K1 hK1=>?_
 refine ag ?_
 refine bR ((av m)) h s rfl rfl rfl ?_;intro f w1 b2 h s
 refine ac h (aj (h.ev rfl)) rfl ?_;intro f h
 refine ai ?_
 refine hK1 _ _ ?_
 refine ak fun K2 hK2=>?_
 cases q0:(decide (m=c4):Bool)
 ·skip
  cases q1:(dI m:Bool)
  ·skip
   refine bG 14 [[],[],[0,1],[0,1,2],[0,1,2,3],[0,1,2,3,4],[0,1,2,3,4,5],[0,1,2,3,4,5,6],[0,1,2,3,4,5,6,7],[0,1,2,3,4,5,6],[0,1,2,3,4,5,6,7,8,9],[0,1,2,3,4,5,6,7,8,9,10],[0,1,2,3,4,5,6,7,8,9,10,11],[0,1,2,3,4,5,6,7,8,9,10,11,12]] h (by kernel_rfl) (by kernel_rfl) (by kernel_rfl) ?_
   refine bC 0 h s aJ rfl rfl (al _) rfl ?_;intro f h
   refine cm h fA (fun w9 hE9=>dh w9) rfl rfl ?_;intro f h
   refine ao h (aE (.bool false) (cU (i9 _ _) (by kernel_rfl) (by decide) (h.ev rfl) (h.ev rfl) (decide (m=c4)) (er _ _)) (congrArg Value.bool q0)) rfl ?_;intro f h
   refine ao h (ah (h.ev rfl)) rfl ?_;intro f h
   refine bf h rfl rfl rfl ?_
   refine bC 0 h s aJ rfl rfl (al _) rfl ?_;intro f h
   refine bf h rfl rfl rfl ?_
   refine cm h fJ (fun w9 hE9=>aT (.bool false) (di m w9) (congrArg Value.bool q1)) rfl rfl ?_;intro f h
   refine bf h rfl rfl rfl ?_
   refine ao h (ah (h.ev rfl)) rfl ?_;intro f h
   refine ba (b:=true) h rfl rfl rfl rfl ?_;intro f h
   refine ba (b:=true) h rfl rfl rfl rfl ?_;intro f h
   refine ba (b:=true) h rfl rfl rfl rfl ?_;intro f h
   refine ba (b:=true) h rfl rfl rfl rfl ?_;intro f h
   refine bf h rfl rfl rfl ?_
   refine ao h (aL (h.ev rfl) (h.ev rfl)) rfl ?_;intro f h
   refine ao h (aL (h.ev rfl) (h.ev rfl)) rfl ?_;intro f h
   refine ao h (aj (h.ev rfl)) rfl ?_;intro f h
   refine cn s fun w1 s=>?_
   refine ai ?_
   refine hK2 _ _ ?_
   refine wpIn_ret ?_
   exact bu rfl h s rfl (by show _=_;rw [Cl q0 q1])
  ·skip
   cases q2:(decide (m.1≠no):Bool)
   ·skip
    refine bG 14 [[],[],[0,1],[0,1,2],[0,1,2,3],[0,1,2,3,4],[0,1,2,3,4,5],[0,1,2,3,4,5,6],[0,1,2,3,4,5,6,7],[0,1,2,3,4,5,6],[0,1,2,3,4,5,6,7,8,9],[0,1,2,3,4,5,6,7,8,9,10],[0,1,2,3,4,5,6,7,8,9,10,11],[0,1,2,3,4,5,6,7,8,9,10,11,12]] h (by kernel_rfl) (by kernel_rfl) (by kernel_rfl) ?_
    refine bC 0 h s aJ rfl rfl (al _) rfl ?_;intro f h
    refine cm h fA (fun w9 hE9=>dh w9) rfl rfl ?_;intro f h
    refine ao h (aE (.bool false) (cU (i9 _ _) (by kernel_rfl) (by decide) (h.ev rfl) (h.ev rfl) (decide (m=c4)) (er _ _)) (congrArg Value.bool q0)) rfl ?_;intro f h
    refine ao h (ah (h.ev rfl)) rfl ?_;intro f h
    refine bf h rfl rfl rfl ?_
    refine bC 0 h s aJ rfl rfl (al _) rfl ?_;intro f h
    refine bf h rfl rfl rfl ?_
    refine cm h fJ (fun w9 hE9=>aT (.bool true) (di m w9) (congrArg Value.bool q1)) rfl rfl ?_;intro f h
    refine bf h rfl rfl rfl ?_
    refine ao h (ah (h.ev rfl)) rfl ?_;intro f h
    refine bf h rfl rfl rfl ?_
    refine ao h (aq aP (h.ev rfl)) rfl ?_;intro f h
    refine bf h rfl rfl rfl ?_
    refine bz (ax (bq.of_own s 0 rfl) 0 (aV _)) h bV rfl rfl ?_;intro f h
    refine bf h rfl rfl rfl ?_
    refine ao h (ah (h.ev rfl)) rfl ?_;intro f h
    refine bf h rfl rfl rfl ?_
    refine ao h (aE (.bool false) (cJ (h.ev rfl) (h.ev rfl)) (congrArg Value.bool q2)) rfl ?_;intro f h
    refine bf h rfl rfl rfl ?_
    refine ao h (aO (h.ev rfl) (h.ev rfl)) rfl ?_;intro f h
    refine ao h (aL (h.ev rfl) (h.ev rfl)) rfl ?_;intro f h
    refine ao h (aj (h.ev rfl)) rfl ?_;intro f h
    refine cn s fun w1 s=>?_
    refine ai ?_
    refine hK2 _ _ ?_
    refine wpIn_ret ?_
    exact bu rfl h s rfl (by show _=_;rw [zy q0 q1,q2])
   ·skip
    refine bG 14 [[],[],[0,1],[0,1,2],[0,1,2,3],[0,1,2,3,4],[0,1,2,3,4,5],[0,1,2,3,4,5,6],[0,1,2,3,4,5,6,7],[0,1,2,3,4,5,6],[0,1,2,3,4,5,6,7,8,9],[0,1,2,3,4,5,6,7,8,9,10],[0,1,2,3,4,5,6,7,8,9,10,11],[0,1,2,3,4,5,6,7,8,9,10,11,12]] h (by kernel_rfl) (by kernel_rfl) (by kernel_rfl) ?_
    refine bC 0 h s aJ rfl rfl (al _) rfl ?_;intro f h
    refine cm h fA (fun w9 hE9=>dh w9) rfl rfl ?_;intro f h
    refine ao h (aE (.bool false) (cU (i9 _ _) (by kernel_rfl) (by decide) (h.ev rfl) (h.ev rfl) (decide (m=c4)) (er _ _)) (congrArg Value.bool q0)) rfl ?_;intro f h
    refine ao h (ah (h.ev rfl)) rfl ?_;intro f h
    refine bf h rfl rfl rfl ?_
    refine bC 0 h s aJ rfl rfl (al _) rfl ?_;intro f h
    refine bf h rfl rfl rfl ?_
    refine cm h fJ (fun w9 hE9=>aT (.bool true) (di m w9) (congrArg Value.bool q1)) rfl rfl ?_;intro f h
    refine bf h rfl rfl rfl ?_
    refine ao h (ah (h.ev rfl)) rfl ?_;intro f h
    refine bf h rfl rfl rfl ?_
    refine ao h (aq aP (h.ev rfl)) rfl ?_;intro f h
    refine bf h rfl rfl rfl ?_
    refine bz (ax (bq.of_own s 0 rfl) 0 (aV _)) h bV rfl rfl ?_;intro f h
    refine bf h rfl rfl rfl ?_
    refine ao h (ah (h.ev rfl)) rfl ?_;intro f h
    refine bf h rfl rfl rfl ?_
    refine ao h (aE (.bool true) (cJ (h.ev rfl) (h.ev rfl)) (congrArg Value.bool q2)) rfl ?_;intro f h
    refine bf h rfl rfl rfl ?_
    refine ao h (aO (h.ev rfl) (h.ev rfl)) rfl ?_;intro f h
    refine ao h (aL (h.ev rfl) (h.ev rfl)) rfl ?_;intro f h
    refine ao h (aj (h.ev rfl)) rfl ?_;intro f h
    refine cn s fun w1 s=>?_
    refine ai ?_
    refine hK2 _ _ ?_
    refine wpIn_ret ?_
    exact bu rfl h s rfl (by show _=_;rw [zy q0 q1,q2])
 ·skip
  refine bG 14 [[],[],[0,1],[0,1,2],[0,1,2,3],[0,1,2,3,4],[0,1,2,3,4,5],[0,1,2,3,4,5,6],[0,1,2,3,4,5,6,7],[0,1,2,3,4,5,6],[0,1,2,3,4,5,6,7,8,9],[0,1,2,3,4,5,6,7,8,9,10],[0,1,2,3,4,5,6,7,8,9,10,11],[0,1,2,3,4,5,6,7,8,9,10,11,12]] h (by kernel_rfl) (by kernel_rfl) (by kernel_rfl) ?_
  refine bC 0 h s aJ rfl rfl (al _) rfl ?_;intro f h
  refine cm h fA (fun w9 hE9=>dh w9) rfl rfl ?_;intro f h
  refine ao h (aE (.bool true) (cU (i9 _ _) (by kernel_rfl) (by decide) (h.ev rfl) (h.ev rfl) (decide (m=c4)) (er _ _)) (congrArg Value.bool q0)) rfl ?_;intro f h
  refine ao h (ah (h.ev rfl)) rfl ?_;intro f h
  refine ba (b:=false) h rfl rfl rfl rfl ?_;intro f h
  refine ba (b:=false) h rfl rfl rfl rfl ?_;intro f h
  refine ba (b:=false) h rfl rfl rfl rfl ?_;intro f h
  refine dc h rfl rfl rfl rfl ?_;intro f h
  refine dc h rfl rfl rfl rfl ?_;intro f h
  refine dc h rfl rfl rfl rfl ?_;intro f h
  refine dc h rfl rfl rfl rfl ?_;intro f h
  refine ba (b:=false) h rfl rfl rfl rfl ?_;intro f h
  refine ao h (aO (h.ev rfl) (h.ev rfl)) rfl ?_;intro f h
  refine ao h (aj (h.ev rfl)) rfl ?_;intro f h
  refine cn s fun w1 s=>?_
  refine ai ?_
  refine hK2 _ _ ?_
  refine wpIn_ret ?_
  exact bu rfl h s rfl (by show _=_;rw [Cs q0])
theorem qa (x:Mb) (no:Int) (bx:Nat) (w:World) (hb:gy w bx #[.int .i64 no]):Calls Tryz.prog 87 [.agg (av x),.pointer (some ⟨bx,0,none⟩)].toArray w (cO w (is (.bool (decide (x.1=no))))):=by
 refine bh Tryz.func87 rfl Tryz.ntmps87 rfl [(0,.agg (av x)),(1,.pointer (some ⟨bx,0,none⟩))] (by simp) fun f h=>?_
 have s:=St.start w
 refine ak fun K1 hK1=>?_
 refine ag ?_
 refine bR ((av x)) h s rfl rfl rfl ?_;intro f w1 b2 h s
 refine ac h (aj (h.ev rfl)) rfl ?_;intro f h
 refine ai ?_
 refine hK1 _ _ ?_
 refine ak fun K2 hK2=>?_
 refine ag ?_
 refine ac h (aq aP (h.ev rfl)) rfl ?_;intro f h
 refine aC (ax (bq.of_own s 0 rfl) 0 (aV _)) h bV rfl rfl ?_;intro f h
 refine aC (V:=.int .i64 no) (ax (bq.of_tab (hb.keep s.ext)) 0 (rfl)) h bV rfl rfl ?_;intro f h
 refine ac h (cb (h.ev rfl) (h.ev rfl)) rfl ?_;intro f h
 refine ac h (aj (h.ev rfl)) rfl ?_;intro f h
 refine ai ?_
 refine hK2 _ _ ?_
 refine wpIn_ret ?_
 exact bu rfl h s rfl (rfl)
theorem jS (l:List Mb) (vh:Value) (no:Int) (w:World) (hR:bO w vh 33 l.length (am l)) (hln:l.length≤1000):Calls Tryz.prog 57 [vh,.int .i64 no].toArray w (cO w (is (.bool (jK l no)))):=by
 refine bh Tryz.func57 rfl Tryz.ntmps57 rfl [(0,vh),(1,.int .i64 no)] (by simp) fun f h=>?_
 have s:=St.start w
 refine ak fun K1 hK1=>?_
 refine ag ?_
 refine bR (#[.int .i64 no]) h s rfl rfl rfl ?_;intro f w1 b3 h s
 refine ac h (aj (h.ev rfl)) rfl ?_;intro f h
 refine ai ?_
 refine hK1 _ _ ?_
 refine ak fun K2 hK2=>?_
 refine ag ?_
 refine ac h (ah (h.ev rfl)) rfl ?_;intro f h
 refine ac h (dg [.pointer (some ⟨b3,0,none⟩)] (jX h rfl)) rfl ?_;intro f h
 refine aK h s zz (iF l vh 87 [.pointer (some ⟨b3,0,none⟩)] (fun x=>decide (x.1=no)) _ (hR.keep s.ext) hln BG (fun w9 h9 x _=>qa x no b3 w9 ((gy.of_own s 0 rfl).keep h9))) rfl rfl ?_;intro f w1 v9 hT hE h s;obtain rfl:=hT
 refine ac h (aj (h.ev rfl)) rfl ?_;intro f h
 refine ai ?_
 refine hK2 _ _ ?_
 refine wpIn_ret ?_
 exact bu rfl h s rfl (rfl)
theorem iY (l:List Mb) (vh:Value) (no:Int) (w:World) (hR:bO w vh 33 l.length (am l)) (hln:l.length≤1000):Calls Tryz.prog 114 [vh,.int .i64 no].toArray w (cO w (is (.bool (kL l no)))):=by
 refine bh Tryz.func114 rfl Tryz.ntmps114 rfl [(0,vh),(1,.int .i64 no)] (by simp) fun f h=>?_
 have s:=St.start w
 refine ak fun K1 hK1=>?_
 refine ag ?_
 refine ac h (aj (h.ev rfl)) rfl ?_;intro f h
 refine ai ?_
 refine hK1 _ _ ?_
 refine ak fun K2 hK2=>?_
 refine ak fun K3 hK3=>?_
 refine ag ?_
 refine ac h (ah (h.ev rfl)) rfl ?_;intro f h
 refine ac h (bK (hR.keep s.ext) Tryz.underlying36 (h.ev rfl)) rfl ?_;intro f h
 refine ac h (ah (h.ev rfl)) rfl ?_;intro f h
 refine ai ?_
 refine hK3 _ _ ?_
 refine wpIn_block ?_
 refine wpIn_loop_ghost (fun nn aa ww=>∃ k:Nat,Sl 32 aa [(0,vh),(1,.int .i64 no),(7,vh),(8,.int .i64 (l.length:Int)),(9,.int .i64 (k:Int))]∧St w [] ww∧nn=l.length - k∧k≤l.length∧∀ j,j<k→ip l no j=false) (l.length - (0)) ⟨0,h.only ⟨rfl,rfl,rfl,rfl,aQ rfl (by omega),trivial⟩,s.as trivial,rfl,Nat.zero_le _,fun j hj=>absurd hj (Nat.not_lt_zero _)⟩ ?_
 rintro _ f w1 ⟨k,h,s,hnn,hp0,hp1⟩
 refine ak fun K4 hK4=>?_
 refine ag ?_
 refine ac h (cc (h.ev rfl) (h.ev rfl)) rfl ?_;intro f h
 refine ai ?_
 refine hK4 _ _ ?_
 refine ak fun K5 hK5=>?_
 refine bL h rfl (fun hc=>?_) (fun hc=>?_)
 ·replace hc:=of_decide_eq_true hc
  refine wpIn_skip ?_
  refine hK5 _ _ ?_
  refine ak fun K6 hK6=>?_
  refine wpIn_block ?_
  refine ak fun K7 hK7=>?_
  refine ag ?_
  refine ac h (ah (h.ev rfl)) rfl ?_;intro f h
  have hkl:k<l.length:=by omega
  refine ac h (bU (hR.keep s.ext) (k) Tryz.underlying36 cA (h.ev rfl) (h.ev rfl) (by omega) (by omega)) rfl ?_;intro f h
  refine aI ((hR.keep s.ext).el (k) (by omega) (by decide) (D:=av (l.getD k ap)) (cX l k hkl)) h aJ rfl (al _) rfl ?_;intro f h
  refine bi (av ap) h s cF rfl rfl ?_;intro f w1 b6 h s
  refine ac h (aj (h.ev rfl)) rfl ?_;intro f h
  refine aA 0 h s aJ rfl rfl rfl (al _) (al _) (aX _) ?_;intro w1 s
  refine ai ?_
  refine hK7 _ _ ?_
  refine ak fun K8 hK8=>?_
  cases k0:(dI (l.getD k ap):Bool)
  ·skip
   refine bG 17 [[],[0],[0,1],[0,1,2],[0,1,2,3],[0,1,2,3,4],[0,1,2,3],[0,1,2,3,4,5,6],[0,1,2,3,4,5,6,7],[0,1,2,3,4,5,6,7,8],[0,1,2,3,4,5,6,7,8,9],[0,1,2,3,4,5,6,7,8,9],[0,1,2,3,4,5,6,7,8,9,10,11],[0,1,2,3,4,5,6,7,8,9],[0,1,2,3,4,5,6,7,8,9,13],[0,1,2,3,4,5,6,7,8,9,10,11,12,13,14],[0,1,2,3,4,5,6,7,8,9,10,11,12,13,14,15]] h (by kernel_rfl) (by kernel_rfl) (by kernel_rfl) ?_
   refine bC 0 h s aJ rfl rfl (al _) rfl ?_;intro f h
   refine cm h fJ (fun w9 hE9=>aT (.bool false) (di (l.getD k ap) w9) (congrArg Value.bool k0)) rfl rfl ?_;intro f h
   refine ao h (aE (.bool true) (bI (h.ev rfl)) rfl) rfl ?_;intro f h
   refine ao h (ah (h.ev rfl)) rfl ?_;intro f h
   refine ba (b:=false) h rfl rfl rfl rfl ?_;intro f h
   refine ba (b:=false) h rfl rfl rfl rfl ?_;intro f h
   refine ba (b:=false) h rfl rfl rfl rfl ?_;intro f h
   refine ba (b:=false) h rfl rfl rfl rfl ?_;intro f h
   refine ao h (aO (h.ev rfl) (h.ev rfl)) rfl ?_;intro f h
   refine ao h (ah (h.ev rfl)) rfl ?_;intro f h
   refine ba (b:=false) h rfl rfl rfl rfl ?_;intro f h
   refine ba (b:=false) h rfl rfl rfl rfl ?_;intro f h
   refine ba (b:=false) h rfl rfl rfl rfl ?_;intro f h
   refine ba (b:=false) h rfl rfl rfl rfl ?_;intro f h
   refine ba (b:=false) h rfl rfl rfl rfl ?_;intro f h
   refine ba (b:=false) h rfl rfl rfl rfl ?_;intro f h
   refine ao h (aO (h.ev rfl) (h.ev rfl)) rfl ?_;intro f h
   refine cn s fun w1 s=>?_
   refine ai ?_
   refine hK8 _ _ ?_
   refine wpIn_cond_true (h.ev rfl) ?_
   refine ak fun K9 hK9=>?_
   refine ag ?_
   refine ac h (aj (h.ev rfl)) rfl ?_;intro f h
   refine ai ?_
   refine hK9 _ _ ?_
   refine wpIn_ret ?_
   refine bT ?_
   refine a8 ?_
   refine a8 ?_
   refine bT ?_
   refine a8 ?_
   exact bu rfl h s rfl (by show _=_;rw [fP hkl (uX k0)])
  ·skip
   cases k1:(decide ((l.getD k ap).1=no):Bool)
   ·skip
    refine bG 17 [[],[0],[0,1],[0,1,2],[0,1,2,3],[0,1,2,3,4],[0,1,2,3],[0,1,2,3,4,5,6],[0,1,2,3,4,5,6,7],[0,1,2,3,4,5,6,7,8],[0,1,2,3,4,5,6,7,8,9],[0,1,2,3,4,5,6,7,8,9],[0,1,2,3,4,5,6,7,8,9,10,11],[0,1,2,3,4,5,6,7,8,9],[0,1,2,3,4,5,6,7,8,9,13],[0,1,2,3,4,5,6,7,8,9,10,11,12,13,14],[0,1,2,3,4,5,6,7,8,9,10,11,12,13,14,15]] h (by kernel_rfl) (by kernel_rfl) (by kernel_rfl) ?_
    refine bC 0 h s aJ rfl rfl (al _) rfl ?_;intro f h
    refine cm h fJ (fun w9 hE9=>aT (.bool true) (di (l.getD k ap) w9) (congrArg Value.bool k0)) rfl rfl ?_;intro f h
    refine ao h (aE (.bool false) (bI (h.ev rfl)) rfl) rfl ?_;intro f h
    refine ao h (ah (h.ev rfl)) rfl ?_;intro f h
    refine bf h rfl rfl rfl ?_
    refine ao h (aq aP (h.ev rfl)) rfl ?_;intro f h
    refine bf h rfl rfl rfl ?_
    refine bz (ax (bq.of_own s 0 rfl) 0 (aV _)) h bV rfl rfl ?_;intro f h
    refine bf h rfl rfl rfl ?_
    refine ao h (ah (h.ev rfl)) rfl ?_;intro f h
    refine bf h rfl rfl rfl ?_
    refine ao h (aE (.bool false) (cb (h.ev rfl) (h.ev rfl)) (congrArg Value.bool k1)) rfl ?_;intro f h
    refine ao h (aL (h.ev rfl) (h.ev rfl)) rfl ?_;intro f h
    refine ao h (ah (h.ev rfl)) rfl ?_;intro f h
    refine bf h rfl rfl rfl ?_
    refine ao h (ah (h.ev rfl)) rfl ?_;intro f h
    refine bf h rfl rfl rfl ?_
    refine ao h (ah (h.ev rfl)) rfl ?_;intro f h
    refine bf h rfl rfl rfl ?_
    refine ao h (dF (hR.keep s.ext) (k) Tryz.underlying36 cA (h.ev rfl) (h.ev rfl) (rfl) (by omega)) rfl ?_;intro f h
    refine bf h rfl rfl rfl ?_
    refine ao h (aq aP (h.ev rfl)) rfl ?_;intro f h
    refine bf h rfl rfl rfl ?_
    refine bz (ax (bq.of_own s 0 rfl) 0 (aV _)) h bV rfl rfl ?_;intro f h
    refine bf h rfl rfl rfl ?_
    refine cm h vC (fun w9 hE9=>jS (l.take k) (f8 vh k) (l.getD k ap).1 w9 ((gk hR k (by omega)).keep (s.ext.trans hE9)) (by rw [List.length_take];omega)) rfl rfl ?_;intro f h
    refine ao h (aL (h.ev rfl) (h.ev rfl)) rfl ?_;intro f h
    refine cn s fun w1 s=>?_
    refine ai ?_
    refine hK8 _ _ ?_
    refine bL h rfl (fun hc=>?_) (fun hc=>?_)
    ·refine ak fun K10 hK10=>?_
     refine ag ?_
     refine ac h (aj (h.ev rfl)) rfl ?_;intro f h
     refine ai ?_
     refine hK10 _ _ ?_
     refine wpIn_ret ?_
     refine bT ?_
     refine a8 ?_
     refine a8 ?_
     refine bT ?_
     refine a8 ?_
     exact bu rfl h s rfl (by show _=_;rw [fP hkl ((n7 k0 k1).trans hc)])
    ·refine wpIn_skip ?_
     refine bH ?_
     refine hK6 _ _ ?_
     refine ag ?_
     refine ac h (cp (h.ev rfl) (h.ev rfl) (by omega)) rfl ?_;intro f h
     refine ac h (ah (h.ev rfl)) rfl ?_;intro f h
     refine ai ?_
     refine ca ?_
     have hb9:ip l no k=false:=(n7 k0 k1).trans hc
     exact ⟨_,by omega,⟨k+1,h.only ⟨rfl,rfl,rfl,rfl,aQ rfl (by omega),trivial⟩,St.as (s.pick _ (List.sublist_append_right [_] _)) trivial,rfl,by omega,d1 hp1 hb9⟩⟩
   ·skip
    refine bG 17 [[],[0],[0,1],[0,1,2],[0,1,2,3],[0,1,2,3,4],[0,1,2,3],[0,1,2,3,4,5,6],[0,1,2,3,4,5,6,7],[0,1,2,3,4,5,6,7,8],[0,1,2,3,4,5,6,7,8,9],[0,1,2,3,4,5,6,7,8,9],[0,1,2,3,4,5,6,7,8,9,10,11],[0,1,2,3,4,5,6,7,8,9],[0,1,2,3,4,5,6,7,8,9,13],[0,1,2,3,4,5,6,7,8,9,10,11,12,13,14],[0,1,2,3,4,5,6,7,8,9,10,11,12,13,14,15]] h (by kernel_rfl) (by kernel_rfl) (by kernel_rfl) ?_
    refine bC 0 h s aJ rfl rfl (al _) rfl ?_;intro f h
    refine cm h fJ (fun w9 hE9=>aT (.bool true) (di (l.getD k ap) w9) (congrArg Value.bool k0)) rfl rfl ?_;intro f h
    refine ao h (aE (.bool false) (bI (h.ev rfl)) rfl) rfl ?_;intro f h
    refine ao h (ah (h.ev rfl)) rfl ?_;intro f h
    refine bf h rfl rfl rfl ?_
    refine ao h (aq aP (h.ev rfl)) rfl ?_;intro f h
    refine bf h rfl rfl rfl ?_
    refine bz (ax (bq.of_own s 0 rfl) 0 (aV _)) h bV rfl rfl ?_;intro f h
    refine bf h rfl rfl rfl ?_
    refine ao h (ah (h.ev rfl)) rfl ?_;intro f h
    refine bf h rfl rfl rfl ?_
    refine ao h (aE (.bool true) (cb (h.ev rfl) (h.ev rfl)) (congrArg Value.bool k1)) rfl ?_;intro f h
    refine ao h (aL (h.ev rfl) (h.ev rfl)) rfl ?_;intro f h
    refine ao h (ah (h.ev rfl)) rfl ?_;intro f h
    refine ba (b:=false) h rfl rfl rfl rfl ?_;intro f h
    refine ba (b:=false) h rfl rfl rfl rfl ?_;intro f h
    refine ba (b:=false) h rfl rfl rfl rfl ?_;intro f h
    refine ba (b:=false) h rfl rfl rfl rfl ?_;intro f h
    refine ba (b:=false) h rfl rfl rfl rfl ?_;intro f h
    refine ba (b:=false) h rfl rfl rfl rfl ?_;intro f h
    refine ao h (aO (h.ev rfl) (h.ev rfl)) rfl ?_;intro f h
    refine cn s fun w1 s=>?_
    refine ai ?_
    refine hK8 _ _ ?_
    refine wpIn_cond_true (h.ev rfl) ?_
    refine ak fun K11 hK11=>?_
    refine ag ?_
    refine ac h (aj (h.ev rfl)) rfl ?_;intro f h
    refine ai ?_
    refine hK11 _ _ ?_
    refine wpIn_ret ?_
    refine bT ?_
    refine a8 ?_
    refine a8 ?_
    refine bT ?_
    refine a8 ?_
    exact bu rfl h s rfl (by show _=_;rw [fP hkl (wt k1)])
 ·replace hc:=of_decide_eq_false hc
  refine wpIn_exit ?_
  refine bN ?_
  refine bN ?_
  refine cG ?_
  refine hK2 _ _ ?_
  refine ak fun K12 hK12=>?_
  refine ag ?_
  refine ac h (aj (h.ev rfl)) rfl ?_;intro f h
  refine ai ?_
  refine hK12 _ _ ?_
  refine wpIn_ret ?_
  exact bu rfl h s rfl (by show _=_;rw [pS (by omega) hp1])
theorem rt (l:List Mb) (vh:Value) (m:Mb) (w:World) (hR:bO w vh 33 l.length (am l)) (hln:l.length≤1000):Calls Tryz.prog 81 [vh,.agg (av m)].toArray w (cO w (is (.bool (jM l m)))):=by
 refine bh Tryz.func81 rfl Tryz.ntmps81 rfl [(0,vh),(1,.agg (av m))] (by simp) fun f h=>?_
 have s:=St.start w
 refine ak fun K1 hK1=>?_
 refine ag ?_
 refine bR ((av m)) h s rfl rfl rfl ?_;intro f w1 b3 h s
 refine ac h (aj (h.ev rfl)) rfl ?_;intro f h
 refine ai ?_
 refine hK1 _ _ ?_
 refine ak fun K2 hK2=>?_
 refine ak fun K3 hK3=>?_
 cases h1:(decide (l.length=1):Bool)
 ·skip
  refine bG 10 [[],[0],[0,1],[0,1,2],[0,1,2,3],[0,1,2,3,4],[0,1,2,3,4,5],[0,1,2,3],[0,1,2,3,4,5,6,7],[0,1,2,3,4,5,6,7,8]] h (by kernel_rfl) (by kernel_rfl) (by kernel_rfl) ?_
  refine ao h (ah (h.ev rfl)) rfl ?_;intro f h
  refine ao h (bK (hR.keep s.ext) Tryz.underlying36 (h.ev rfl)) rfl ?_;intro f h
  refine ao h (aE (.bool false) (cb (h.ev rfl) (h.ev rfl)) (congrArg Value.bool (decide_eq_false (by have:=of_decide_eq_false h1;omega)))) rfl ?_;intro f h
  refine ao h (ah (h.ev rfl)) rfl ?_;intro f h
  refine ba (b:=true) h rfl rfl rfl rfl ?_;intro f h
  refine ba (b:=true) h rfl rfl rfl rfl ?_;intro f h
  refine ba (b:=true) h rfl rfl rfl rfl ?_;intro f h
  refine ba (b:=true) h rfl rfl rfl rfl ?_;intro f h
  refine ba (b:=true) h rfl rfl rfl rfl ?_;intro f h
  refine ao h (aL (h.ev rfl) (h.ev rfl)) rfl ?_;intro f h
  refine cn s fun w1 s=>?_
  refine ai ?_
  refine hK3 _ _ ?_
  refine wpIn_cond_false (h.ev rfl) ?_
  refine wpIn_skip ?_
  refine hK2 _ _ ?_
  refine ak fun K4 hK4=>?_
  cases g0:(decide (1≤l.length):Bool)
  ·skip
   refine ag ?_
   have hno:¬ (l.length=1∧l.getD 0 ap=m):=(by rintro ⟨h9,h8⟩;exact absurd h9 (of_decide_eq_false h1))
   refine ac h (ah (h.ev rfl)) rfl ?_;intro f h
   refine ac h (bK (hR.keep s.ext) Tryz.underlying36 (h.ev rfl)) rfl ?_;intro f h
   refine ac h (aE (.bool false) (d7 (h.ev rfl) (h.ev rfl)) (congrArg Value.bool (decide_eq_false (by have:=of_decide_eq_false g0;omega)))) rfl ?_;intro f h
   refine ac h (ah (h.ev rfl)) rfl ?_;intro f h
   refine aY (b:=true) h rfl rfl rfl rfl ?_;intro f h
   refine aY (b:=true) h rfl rfl rfl rfl ?_;intro f h
   refine aY (b:=true) h rfl rfl rfl rfl ?_;intro f h
   refine ac h (aL (h.ev rfl) (h.ev rfl)) rfl ?_;intro f h
   refine ac h (ah (h.ev rfl)) rfl ?_;intro f h
   refine aY (b:=true) h rfl rfl rfl rfl ?_;intro f h
   refine aY (b:=true) h rfl rfl rfl rfl ?_;intro f h
   refine aY (b:=true) h rfl rfl rfl rfl ?_;intro f h
   refine aY (b:=true) h rfl rfl rfl rfl ?_;intro f h
   refine ac h (aL (h.ev rfl) (h.ev rfl)) rfl ?_;intro f h
   refine ac h (aj (h.ev rfl)) rfl ?_;intro f h
   refine ai ?_
   refine hK4 _ _ ?_
   refine wpIn_ret ?_
   exact bu rfl h s rfl (by show _=_;rw [za hno g0])
  ·skip
   cases g1:(decide (l.length≤4):Bool)
   ·skip
    refine ag ?_
    have hno:¬ (l.length=1∧l.getD 0 ap=m):=(by rintro ⟨h9,h8⟩;exact absurd h9 (of_decide_eq_false h1))
    refine ac h (ah (h.ev rfl)) rfl ?_;intro f h
    refine ac h (bK (hR.keep s.ext) Tryz.underlying36 (h.ev rfl)) rfl ?_;intro f h
    refine ac h (aE (.bool true) (d7 (h.ev rfl) (h.ev rfl)) (congrArg Value.bool (decide_eq_true (by have:=of_decide_eq_true g0;omega)))) rfl ?_;intro f h
    refine ac h (ah (h.ev rfl)) rfl ?_;intro f h
    refine a2 h rfl rfl rfl ?_
    refine ac h (ah (h.ev rfl)) rfl ?_;intro f h
    refine a2 h rfl rfl rfl ?_
    refine ac h (bK (hR.keep s.ext) Tryz.underlying36 (h.ev rfl)) rfl ?_;intro f h
    refine a2 h rfl rfl rfl ?_
    refine ac h (aE (.bool false) (gT (h.ev rfl) (h.ev rfl)) (congrArg Value.bool (decide_eq_false (by have:=of_decide_eq_false g1;omega)))) rfl ?_;intro f h
    refine ac h (aO (h.ev rfl) (h.ev rfl)) rfl ?_;intro f h
    refine ac h (ah (h.ev rfl)) rfl ?_;intro f h
    refine aY (b:=true) h rfl rfl rfl rfl ?_;intro f h
    refine aY (b:=true) h rfl rfl rfl rfl ?_;intro f h
    refine aY (b:=true) h rfl rfl rfl rfl ?_;intro f h
    refine aY (b:=true) h rfl rfl rfl rfl ?_;intro f h
    refine ac h (aL (h.ev rfl) (h.ev rfl)) rfl ?_;intro f h
    refine ac h (aj (h.ev rfl)) rfl ?_;intro f h
    refine ai ?_
    refine hK4 _ _ ?_
    refine wpIn_ret ?_
    exact bu rfl h s rfl (by show _=_;rw [y7 hno g1])
   ·skip
    refine ag ?_
    have hno:¬ (l.length=1∧l.getD 0 ap=m):=(by rintro ⟨h9,h8⟩;exact absurd h9 (of_decide_eq_false h1))
    refine ac h (ah (h.ev rfl)) rfl ?_;intro f h
    refine ac h (bK (hR.keep s.ext) Tryz.underlying36 (h.ev rfl)) rfl ?_;intro f h
    refine ac h (aE (.bool true) (d7 (h.ev rfl) (h.ev rfl)) (congrArg Value.bool (decide_eq_true (by have:=of_decide_eq_true g0;omega)))) rfl ?_;intro f h
    refine ac h (ah (h.ev rfl)) rfl ?_;intro f h
    refine a2 h rfl rfl rfl ?_
    refine ac h (ah (h.ev rfl)) rfl ?_;intro f h
    refine a2 h rfl rfl rfl ?_
    refine ac h (bK (hR.keep s.ext) Tryz.underlying36 (h.ev rfl)) rfl ?_;intro f h
    refine a2 h rfl rfl rfl ?_
    refine ac h (aE (.bool true) (gT (h.ev rfl) (h.ev rfl)) (congrArg Value.bool (decide_eq_true (by have:=of_decide_eq_true g1;omega)))) rfl ?_;intro f h
    refine ac h (aO (h.ev rfl) (h.ev rfl)) rfl ?_;intro f h
    refine ac h (ah (h.ev rfl)) rfl ?_;intro f h
    refine a2 h rfl rfl rfl ?_
    refine ac h (ah (h.ev rfl)) rfl ?_;intro f h
    refine a2 h rfl rfl rfl ?_
    refine ac h (aq aP (h.ev rfl)) rfl ?_;intro f h
    refine a2 h rfl rfl rfl ?_
    refine aC (ax (bq.of_own s 0 rfl) 0 (aV _)) h bV rfl rfl ?_;intro f h
    refine a2 h rfl rfl rfl ?_
    refine aK h s qf (iY l vh m.1 _ (hR.keep s.ext) hln) rfl rfl ?_;intro f w1 v9 hT hE h s;obtain rfl:=hT
    refine ac h (aO (h.ev rfl) (h.ev rfl)) rfl ?_;intro f h
    refine ac h (aj (h.ev rfl)) rfl ?_;intro f h
    refine ai ?_
    refine hK4 _ _ ?_
    refine wpIn_ret ?_
    exact bu rfl h s rfl (by show _=_;rw [ze hno g0 g1])
 ·skip
  cases h2:(decide (l.getD 0 ap=m):Bool)
  ·skip
   refine bG 10 [[],[0],[0,1],[0,1,2],[0,1,2,3],[0,1,2,3,4],[0,1,2,3,4,5],[0,1,2,3],[0,1,2,3,4,5,6,7],[0,1,2,3,4,5,6,7,8]] h (by kernel_rfl) (by kernel_rfl) (by kernel_rfl) ?_
   refine ao h (ah (h.ev rfl)) rfl ?_;intro f h
   refine ao h (bK (hR.keep s.ext) Tryz.underlying36 (h.ev rfl)) rfl ?_;intro f h
   refine ao h (aE (.bool true) (cb (h.ev rfl) (h.ev rfl)) (congrArg Value.bool (decide_eq_true (by have:=of_decide_eq_true h1;omega)))) rfl ?_;intro f h
   refine ao h (ah (h.ev rfl)) rfl ?_;intro f h
   refine bf h rfl rfl rfl ?_
   refine ao h (ah (h.ev rfl)) rfl ?_;intro f h
   refine bf h rfl rfl rfl ?_
   have h19:=of_decide_eq_true h1
   refine ao h (bU (hR.keep s.ext) (0) Tryz.underlying36 cA (h.ev rfl) (h.ev rfl) (by omega) (by omega)) rfl ?_;intro f h
   refine bf h rfl rfl rfl ?_
   refine bg ((hR.keep s.ext).el (0) (by omega) (by decide) (D:=av (l.getD 0 ap)) (cX l 0 (by omega))) h aJ rfl (al _) rfl ?_;intro f h
   refine bf h rfl rfl rfl ?_
   refine bC 0 h s aJ rfl rfl (al _) rfl ?_;intro f h
   refine bf h rfl rfl rfl ?_
   refine ao h (aE (.bool false) (cU (i9 _ _) (by kernel_rfl) (by decide) (h.ev rfl) (h.ev rfl) (decide (l.getD 0 ap=m)) (er _ _)) (congrArg Value.bool h2)) rfl ?_;intro f h
   refine ao h (aO (h.ev rfl) (h.ev rfl)) rfl ?_;intro f h
   refine cn s fun w1 s=>?_
   refine ai ?_
   refine hK3 _ _ ?_
   refine wpIn_cond_false (h.ev rfl) ?_
   refine wpIn_skip ?_
   refine hK2 _ _ ?_
   refine ak fun K5 hK5=>?_
   cases g0:(decide (1≤l.length):Bool)
   ·skip
    refine ag ?_
    have hno:¬ (l.length=1∧l.getD 0 ap=m):=(by rintro ⟨h9,h8⟩;exact absurd h8 (of_decide_eq_false h2))
    refine ac h (ah (h.ev rfl)) rfl ?_;intro f h
    refine ac h (bK (hR.keep s.ext) Tryz.underlying36 (h.ev rfl)) rfl ?_;intro f h
    refine ac h (aE (.bool false) (d7 (h.ev rfl) (h.ev rfl)) (congrArg Value.bool (decide_eq_false (by have:=of_decide_eq_false g0;omega)))) rfl ?_;intro f h
    refine ac h (ah (h.ev rfl)) rfl ?_;intro f h
    refine aY (b:=true) h rfl rfl rfl rfl ?_;intro f h
    refine aY (b:=true) h rfl rfl rfl rfl ?_;intro f h
    refine aY (b:=true) h rfl rfl rfl rfl ?_;intro f h
    refine ac h (aL (h.ev rfl) (h.ev rfl)) rfl ?_;intro f h
    refine ac h (ah (h.ev rfl)) rfl ?_;intro f h
    refine aY (b:=true) h rfl rfl rfl rfl ?_;intro f h
    refine aY (b:=true) h rfl rfl rfl rfl ?_;intro f h
    refine aY (b:=true) h rfl rfl rfl rfl ?_;intro f h
    refine aY (b:=true) h rfl rfl rfl rfl ?_;intro f h
    refine ac h (aL (h.ev rfl) (h.ev rfl)) rfl ?_;intro f h
    refine ac h (aj (h.ev rfl)) rfl ?_;intro f h
    refine ai ?_
    refine hK5 _ _ ?_
    refine wpIn_ret ?_
    exact bu rfl h s rfl (by show _=_;rw [za hno g0])
   ·skip
    cases g1:(decide (l.length≤4):Bool)
    ·skip
     refine ag ?_
     have hno:¬ (l.length=1∧l.getD 0 ap=m):=(by rintro ⟨h9,h8⟩;exact absurd h8 (of_decide_eq_false h2))
     refine ac h (ah (h.ev rfl)) rfl ?_;intro f h
     refine ac h (bK (hR.keep s.ext) Tryz.underlying36 (h.ev rfl)) rfl ?_;intro f h
     refine ac h (aE (.bool true) (d7 (h.ev rfl) (h.ev rfl)) (congrArg Value.bool (decide_eq_true (by have:=of_decide_eq_true g0;omega)))) rfl ?_;intro f h
     refine ac h (ah (h.ev rfl)) rfl ?_;intro f h
     refine a2 h rfl rfl rfl ?_
     refine ac h (ah (h.ev rfl)) rfl ?_;intro f h
     refine a2 h rfl rfl rfl ?_
     refine ac h (bK (hR.keep s.ext) Tryz.underlying36 (h.ev rfl)) rfl ?_;intro f h
     refine a2 h rfl rfl rfl ?_
     refine ac h (aE (.bool false) (gT (h.ev rfl) (h.ev rfl)) (congrArg Value.bool (decide_eq_false (by have:=of_decide_eq_false g1;omega)))) rfl ?_;intro f h
     refine ac h (aO (h.ev rfl) (h.ev rfl)) rfl ?_;intro f h
     refine ac h (ah (h.ev rfl)) rfl ?_;intro f h
     refine aY (b:=true) h rfl rfl rfl rfl ?_;intro f h
     refine aY (b:=true) h rfl rfl rfl rfl ?_;intro f h
     refine aY (b:=true) h rfl rfl rfl rfl ?_;intro f h
     refine aY (b:=true) h rfl rfl rfl rfl ?_;intro f h
     refine ac h (aL (h.ev rfl) (h.ev rfl)) rfl ?_;intro f h
     refine ac h (aj (h.ev rfl)) rfl ?_;intro f h
     refine ai ?_
     refine hK5 _ _ ?_
     refine wpIn_ret ?_
     exact bu rfl h s rfl (by show _=_;rw [y7 hno g1])
    ·skip
     refine ag ?_
     have hno:¬ (l.length=1∧l.getD 0 ap=m):=(by rintro ⟨h9,h8⟩;exact absurd h8 (of_decide_eq_false h2))
     refine ac h (ah (h.ev rfl)) rfl ?_;intro f h
     refine ac h (bK (hR.keep s.ext) Tryz.underlying36 (h.ev rfl)) rfl ?_;intro f h
     refine ac h (aE (.bool true) (d7 (h.ev rfl) (h.ev rfl)) (congrArg Value.bool (decide_eq_true (by have:=of_decide_eq_true g0;omega)))) rfl ?_;intro f h
     refine ac h (ah (h.ev rfl)) rfl ?_;intro f h
     refine a2 h rfl rfl rfl ?_
     refine ac h (ah (h.ev rfl)) rfl ?_;intro f h
     refine a2 h rfl rfl rfl ?_
     refine ac h (bK (hR.keep s.ext) Tryz.underlying36 (h.ev rfl)) rfl ?_;intro f h
     refine a2 h rfl rfl rfl ?_
     refine ac h (aE (.bool true) (gT (h.ev rfl) (h.ev rfl)) (congrArg Value.bool (decide_eq_true (by have:=of_decide_eq_true g1;omega)))) rfl ?_;intro f h
     refine ac h (aO (h.ev rfl) (h.ev rfl)) rfl ?_;intro f h
     refine ac h (ah (h.ev rfl)) rfl ?_;intro f h
     refine a2 h rfl rfl rfl ?_
     refine ac h (ah (h.ev rfl)) rfl ?_;intro f h
     refine a2 h rfl rfl rfl ?_
     refine ac h (aq aP (h.ev rfl)) rfl ?_;intro f h
     refine a2 h rfl rfl rfl ?_
     refine aC (ax (bq.of_own s 0 rfl) 0 (aV _)) h bV rfl rfl ?_;intro f h
     refine a2 h rfl rfl rfl ?_
     refine aK h s qf (iY l vh m.1 _ (hR.keep s.ext) hln) rfl rfl ?_;intro f w1 v9 hT hE h s;obtain rfl:=hT
     refine ac h (aO (h.ev rfl) (h.ev rfl)) rfl ?_;intro f h
     refine ac h (aj (h.ev rfl)) rfl ?_;intro f h
     refine ai ?_
     refine hK5 _ _ ?_
     refine wpIn_ret ?_
     exact bu rfl h s rfl (by show _=_;rw [ze hno g0 g1])
  ·skip
   refine bG 10 [[],[0],[0,1],[0,1,2],[0,1,2,3],[0,1,2,3,4],[0,1,2,3,4,5],[0,1,2,3],[0,1,2,3,4,5,6,7],[0,1,2,3,4,5,6,7,8]] h (by kernel_rfl) (by kernel_rfl) (by kernel_rfl) ?_
   refine ao h (ah (h.ev rfl)) rfl ?_;intro f h
   refine ao h (bK (hR.keep s.ext) Tryz.underlying36 (h.ev rfl)) rfl ?_;intro f h
   refine ao h (aE (.bool true) (cb (h.ev rfl) (h.ev rfl)) (congrArg Value.bool (decide_eq_true (by have:=of_decide_eq_true h1;omega)))) rfl ?_;intro f h
   refine ao h (ah (h.ev rfl)) rfl ?_;intro f h
   refine bf h rfl rfl rfl ?_
   refine ao h (ah (h.ev rfl)) rfl ?_;intro f h
   refine bf h rfl rfl rfl ?_
   have h19:=of_decide_eq_true h1
   refine ao h (bU (hR.keep s.ext) (0) Tryz.underlying36 cA (h.ev rfl) (h.ev rfl) (by omega) (by omega)) rfl ?_;intro f h
   refine bf h rfl rfl rfl ?_
   refine bg ((hR.keep s.ext).el (0) (by omega) (by decide) (D:=av (l.getD 0 ap)) (cX l 0 (by omega))) h aJ rfl (al _) rfl ?_;intro f h
   refine bf h rfl rfl rfl ?_
   refine bC 0 h s aJ rfl rfl (al _) rfl ?_;intro f h
   refine bf h rfl rfl rfl ?_
   refine ao h (aE (.bool true) (cU (i9 _ _) (by kernel_rfl) (by decide) (h.ev rfl) (h.ev rfl) (decide (l.getD 0 ap=m)) (er _ _)) (congrArg Value.bool h2)) rfl ?_;intro f h
   refine ao h (aO (h.ev rfl) (h.ev rfl)) rfl ?_;intro f h
   refine cn s fun w1 s=>?_
   refine ai ?_
   refine hK3 _ _ ?_
   refine wpIn_cond_true (h.ev rfl) ?_
   refine ak fun K6 hK6=>?_
   refine ag ?_
   refine ac h (aj (h.ev rfl)) rfl ?_;intro f h
   refine ai ?_
   refine hK6 _ _ ?_
   refine wpIn_ret ?_
   refine a8 ?_
   exact bu rfl h s rfl (by show _=_;rw [CI h1 h2])
theorem uU (l:List Mb) (vh:Value) (no:Int) (w:World) (hR:bO w vh 33 l.length (am l)) (hln:l.length≤1000):Calls Tryz.prog 82 [vh,.int .i64 no].toArray w (cO w (is (.bool (pA l no)))):=by
 refine bh Tryz.func82 rfl Tryz.ntmps82 rfl [(0,vh),(1,.int .i64 no)] (by simp) fun f h=>?_
 have s:=St.start w
 refine ak fun K1 hK1=>?_
 refine ag ?_
 refine ac h (aj (h.ev rfl)) rfl ?_;intro f h
 refine ai ?_
 refine hK1 _ _ ?_
 refine ak fun K2 hK2=>?_
 cases g0:(decide (l.length≤16):Bool)
 ·skip
  refine ag ?_
  refine ac h (ah (h.ev rfl)) rfl ?_;intro f h
  refine ac h (bK (hR.keep s.ext) Tryz.underlying36 (h.ev rfl)) rfl ?_;intro f h
  refine ac h (aE (.bool false) (gT (h.ev rfl) (h.ev rfl)) (congrArg Value.bool (decide_eq_false (by have:=of_decide_eq_false g0;omega)))) rfl ?_;intro f h
  refine ac h (ah (h.ev rfl)) rfl ?_;intro f h
  refine aY (b:=true) h rfl rfl rfl rfl ?_;intro f h
  refine aY (b:=true) h rfl rfl rfl rfl ?_;intro f h
  refine aY (b:=true) h rfl rfl rfl rfl ?_;intro f h
  refine ac h (aL (h.ev rfl) (h.ev rfl)) rfl ?_;intro f h
  refine ac h (aj (h.ev rfl)) rfl ?_;intro f h
  refine ai ?_
  refine hK2 _ _ ?_
  refine wpIn_ret ?_
  exact bu rfl h s rfl (by show _=_;rw [Cg g0])
 ·skip
  refine ag ?_
  refine ac h (ah (h.ev rfl)) rfl ?_;intro f h
  refine ac h (bK (hR.keep s.ext) Tryz.underlying36 (h.ev rfl)) rfl ?_;intro f h
  refine ac h (aE (.bool true) (gT (h.ev rfl) (h.ev rfl)) (congrArg Value.bool (decide_eq_true (by have:=of_decide_eq_true g0;omega)))) rfl ?_;intro f h
  refine ac h (ah (h.ev rfl)) rfl ?_;intro f h
  refine a2 h rfl rfl rfl ?_
  refine ac h (ah (h.ev rfl)) rfl ?_;intro f h
  refine a2 h rfl rfl rfl ?_
  refine ac h (ah (h.ev rfl)) rfl ?_;intro f h
  refine a2 h rfl rfl rfl ?_
  refine aK h s qf (iY l vh no _ (hR.keep s.ext) hln) rfl rfl ?_;intro f w1 v9 hT hE h s;obtain rfl:=hT
  refine ac h (aO (h.ev rfl) (h.ev rfl)) rfl ?_;intro f h
  refine ac h (aj (h.ev rfl)) rfl ?_;intro f h
  refine ai ?_
  refine hK2 _ _ ?_
  refine wpIn_ret ?_
  exact bu rfl h s rfl (by show _=_;rw [BJ g0])
theorem cS (n:Nd) (vs vf:Value) (w:World) (hRs:bO w vs 33 n.sc.length (am n.sc)) (hRf:bO w vf 33 n.fg.length (am n.fg)) (hns:n.sc.length≤1000) (hnf:n.fg.length≤1000):Calls Tryz.prog 48 [.agg (au n.me n.pr vs vf)].toArray w (cO w (is (.bool (cr n)))):=by
 refine bh Tryz.func48 rfl Tryz.ntmps48 rfl [(0,.agg (au n.me n.pr vs vf))] (by simp) fun f h=>?_
 have s:=St.start w
 refine ak fun K1 hK1=>?_
 refine ag ?_
 refine bR (au n.me n.pr vs vf) h s rfl rfl rfl ?_;intro f w1 b1 h s
 refine ac h (aj (h.ev rfl)) rfl ?_;intro f h
 refine ai ?_
 refine hK1 _ _ ?_
 refine ak fun K2 hK2=>?_
 cases h0:(dI n.me:Bool)
 ·skip
  refine ag ?_
  refine ac h (aq bA (h.ev rfl)) rfl ?_;intro f h
  refine aI (bq.subL (bq.of_own s 0 rfl) 0 33 (D:=av n.me) (bZ _ _ _ _)) h aJ rfl (al _) rfl ?_;intro f h
  refine aK h s fJ (aT (.bool false) (di n.me _) (congrArg Value.bool h0)) rfl rfl ?_;intro f w1 v9 hT hE h s;obtain rfl:=hT
  refine ac h (ah (h.ev rfl)) rfl ?_;intro f h
  refine aY (b:=true) h rfl rfl rfl rfl ?_;intro f h
  refine aY (b:=true) h rfl rfl rfl rfl ?_;intro f h
  refine aY (b:=true) h rfl rfl rfl rfl ?_;intro f h
  refine aY (b:=true) h rfl rfl rfl rfl ?_;intro f h
  refine aY (b:=true) h rfl rfl rfl rfl ?_;intro f h
  refine aY (b:=true) h rfl rfl rfl rfl ?_;intro f h
  refine ac h (aL (h.ev rfl) (h.ev rfl)) rfl ?_;intro f h
  refine ac h (ah (h.ev rfl)) rfl ?_;intro f h
  refine aY (b:=true) h rfl rfl rfl rfl ?_;intro f h
  refine aY (b:=true) h rfl rfl rfl rfl ?_;intro f h
  refine aY (b:=true) h rfl rfl rfl rfl ?_;intro f h
  refine aY (b:=true) h rfl rfl rfl rfl ?_;intro f h
  refine aY (b:=true) h rfl rfl rfl rfl ?_;intro f h
  refine ac h (aL (h.ev rfl) (h.ev rfl)) rfl ?_;intro f h
  refine ac h (ah (h.ev rfl)) rfl ?_;intro f h
  refine aY (b:=true) h rfl rfl rfl rfl ?_;intro f h
  refine aY (b:=true) h rfl rfl rfl rfl ?_;intro f h
  refine aY (b:=true) h rfl rfl rfl rfl ?_;intro f h
  refine aY (b:=true) h rfl rfl rfl rfl ?_;intro f h
  refine aY (b:=true) h rfl rfl rfl rfl ?_;intro f h
  refine aY (b:=true) h rfl rfl rfl rfl ?_;intro f h
  refine ac h (aL (h.ev rfl) (h.ev rfl)) rfl ?_;intro f h
  refine ac h (aj (h.ev rfl)) rfl ?_;intro f h
  refine ai ?_
  refine hK2 _ _ ?_
  refine wpIn_ret ?_
  exact bu rfl h s rfl (by show _=_;rw [wU h0])
 ·skip
  cases h1:(kP n.pr n.me.1:Bool)
  ·skip
   refine ag ?_
   refine ac h (aq bA (h.ev rfl)) rfl ?_;intro f h
   refine aI (bq.subL (bq.of_own s 0 rfl) 0 33 (D:=av n.me) (bZ _ _ _ _)) h aJ rfl (al _) rfl ?_;intro f h
   refine aK h s fJ (aT (.bool true) (di n.me _) (congrArg Value.bool h0)) rfl rfl ?_;intro f w1 v9 hT hE h s;obtain rfl:=hT
   refine ac h (ah (h.ev rfl)) rfl ?_;intro f h
   refine a2 h rfl rfl rfl ?_
   refine ac h (aq cx (h.ev rfl)) rfl ?_;intro f h
   refine a2 h rfl rfl rfl ?_
   refine aI (bq.subL (bq.of_own s 0 rfl) 33 33 (D:=av n.pr) (cN _ _ _ _)) h aJ rfl (al _) rfl ?_;intro f h
   refine a2 h rfl rfl rfl ?_
   refine ac h (aq bA (h.ev rfl)) rfl ?_;intro f h
   refine a2 h rfl rfl rfl ?_
   refine ac h (aq aP (h.ev rfl)) rfl ?_;intro f h
   refine a2 h rfl rfl rfl ?_
   refine aC (ax (bq.of_own s 0 rfl) 0 (dz _ _ _ _)) h bV rfl rfl ?_;intro f h
   refine a2 h rfl rfl rfl ?_
   refine aK h s wC (aT (.bool false) (ow n.pr n.me.1 _) (congrArg Value.bool h1)) rfl rfl ?_;intro f w1 v9 hT hE h s;obtain rfl:=hT
   refine ac h (aO (h.ev rfl) (h.ev rfl)) rfl ?_;intro f h
   refine ac h (ah (h.ev rfl)) rfl ?_;intro f h
   refine aY (b:=true) h rfl rfl rfl rfl ?_;intro f h
   refine aY (b:=true) h rfl rfl rfl rfl ?_;intro f h
   refine aY (b:=true) h rfl rfl rfl rfl ?_;intro f h
   refine aY (b:=true) h rfl rfl rfl rfl ?_;intro f h
   refine aY (b:=true) h rfl rfl rfl rfl ?_;intro f h
   refine ac h (aL (h.ev rfl) (h.ev rfl)) rfl ?_;intro f h
   refine ac h (ah (h.ev rfl)) rfl ?_;intro f h
   refine aY (b:=true) h rfl rfl rfl rfl ?_;intro f h
   refine aY (b:=true) h rfl rfl rfl rfl ?_;intro f h
   refine aY (b:=true) h rfl rfl rfl rfl ?_;intro f h
   refine aY (b:=true) h rfl rfl rfl rfl ?_;intro f h
   refine aY (b:=true) h rfl rfl rfl rfl ?_;intro f h
   refine aY (b:=true) h rfl rfl rfl rfl ?_;intro f h
   refine ac h (aL (h.ev rfl) (h.ev rfl)) rfl ?_;intro f h
   refine ac h (aj (h.ev rfl)) rfl ?_;intro f h
   refine ai ?_
   refine hK2 _ _ ?_
   refine wpIn_ret ?_
   exact bu rfl h s rfl (by show _=_;rw [wR h1])
  ·skip
   cases h2:(jM n.sc n.me:Bool)
   ·skip
    refine ag ?_
    refine ac h (aq bA (h.ev rfl)) rfl ?_;intro f h
    refine aI (bq.subL (bq.of_own s 0 rfl) 0 33 (D:=av n.me) (bZ _ _ _ _)) h aJ rfl (al _) rfl ?_;intro f h
    refine aK h s fJ (aT (.bool true) (di n.me _) (congrArg Value.bool h0)) rfl rfl ?_;intro f w1 v9 hT hE h s;obtain rfl:=hT
    refine ac h (ah (h.ev rfl)) rfl ?_;intro f h
    refine a2 h rfl rfl rfl ?_
    refine ac h (aq cx (h.ev rfl)) rfl ?_;intro f h
    refine a2 h rfl rfl rfl ?_
    refine aI (bq.subL (bq.of_own s 0 rfl) 33 33 (D:=av n.pr) (cN _ _ _ _)) h aJ rfl (al _) rfl ?_;intro f h
    refine a2 h rfl rfl rfl ?_
    refine ac h (aq bA (h.ev rfl)) rfl ?_;intro f h
    refine a2 h rfl rfl rfl ?_
    refine ac h (aq aP (h.ev rfl)) rfl ?_;intro f h
    refine a2 h rfl rfl rfl ?_
    refine aC (ax (bq.of_own s 0 rfl) 0 (dz _ _ _ _)) h bV rfl rfl ?_;intro f h
    refine a2 h rfl rfl rfl ?_
    refine aK h s wC (aT (.bool true) (ow n.pr n.me.1 _) (congrArg Value.bool h1)) rfl rfl ?_;intro f w1 v9 hT hE h s;obtain rfl:=hT
    refine ac h (aO (h.ev rfl) (h.ev rfl)) rfl ?_;intro f h
    refine ac h (ah (h.ev rfl)) rfl ?_;intro f h
    refine a2 h rfl rfl rfl ?_
    refine ac h (aq cC (h.ev rfl)) rfl ?_;intro f h
    refine a2 h rfl rfl rfl ?_
    refine aC (V:=vs) (ax (bq.of_own s 0 rfl) 66 (c7 _ _ _ _)) h cf rfl rfl ?_;intro f h
    refine a2 h rfl rfl rfl ?_
    refine ac h (aq bA (h.ev rfl)) rfl ?_;intro f h
    refine a2 h rfl rfl rfl ?_
    refine aI (bq.subL (bq.of_own s 0 rfl) 0 33 (D:=av n.me) (bZ _ _ _ _)) h aJ rfl (al _) rfl ?_;intro f h
    refine a2 h rfl rfl rfl ?_
    refine aK h s y5 (aT (.bool false) (rt n.sc vs n.me _ (hRs.keep s.ext) hns) (congrArg Value.bool h2)) rfl rfl ?_;intro f w1 v9 hT hE h s;obtain rfl:=hT
    refine ac h (aO (h.ev rfl) (h.ev rfl)) rfl ?_;intro f h
    refine ac h (ah (h.ev rfl)) rfl ?_;intro f h
    refine aY (b:=true) h rfl rfl rfl rfl ?_;intro f h
    refine aY (b:=true) h rfl rfl rfl rfl ?_;intro f h
    refine aY (b:=true) h rfl rfl rfl rfl ?_;intro f h
    refine aY (b:=true) h rfl rfl rfl rfl ?_;intro f h
    refine aY (b:=true) h rfl rfl rfl rfl ?_;intro f h
    refine aY (b:=true) h rfl rfl rfl rfl ?_;intro f h
    refine ac h (aL (h.ev rfl) (h.ev rfl)) rfl ?_;intro f h
    refine ac h (aj (h.ev rfl)) rfl ?_;intro f h
    refine ai ?_
    refine hK2 _ _ ?_
    refine wpIn_ret ?_
    exact bu rfl h s rfl (by show _=_;rw [wZ h2])
   ·skip
    refine ag ?_
    refine ac h (aq bA (h.ev rfl)) rfl ?_;intro f h
    refine aI (bq.subL (bq.of_own s 0 rfl) 0 33 (D:=av n.me) (bZ _ _ _ _)) h aJ rfl (al _) rfl ?_;intro f h
    refine aK h s fJ (aT (.bool true) (di n.me _) (congrArg Value.bool h0)) rfl rfl ?_;intro f w1 v9 hT hE h s;obtain rfl:=hT
    refine ac h (ah (h.ev rfl)) rfl ?_;intro f h
    refine a2 h rfl rfl rfl ?_
    refine ac h (aq cx (h.ev rfl)) rfl ?_;intro f h
    refine a2 h rfl rfl rfl ?_
    refine aI (bq.subL (bq.of_own s 0 rfl) 33 33 (D:=av n.pr) (cN _ _ _ _)) h aJ rfl (al _) rfl ?_;intro f h
    refine a2 h rfl rfl rfl ?_
    refine ac h (aq bA (h.ev rfl)) rfl ?_;intro f h
    refine a2 h rfl rfl rfl ?_
    refine ac h (aq aP (h.ev rfl)) rfl ?_;intro f h
    refine a2 h rfl rfl rfl ?_
    refine aC (ax (bq.of_own s 0 rfl) 0 (dz _ _ _ _)) h bV rfl rfl ?_;intro f h
    refine a2 h rfl rfl rfl ?_
    refine aK h s wC (aT (.bool true) (ow n.pr n.me.1 _) (congrArg Value.bool h1)) rfl rfl ?_;intro f w1 v9 hT hE h s;obtain rfl:=hT
    refine ac h (aO (h.ev rfl) (h.ev rfl)) rfl ?_;intro f h
    refine ac h (ah (h.ev rfl)) rfl ?_;intro f h
    refine a2 h rfl rfl rfl ?_
    refine ac h (aq cC (h.ev rfl)) rfl ?_;intro f h
    refine a2 h rfl rfl rfl ?_
    refine aC (V:=vs) (ax (bq.of_own s 0 rfl) 66 (c7 _ _ _ _)) h cf rfl rfl ?_;intro f h
    refine a2 h rfl rfl rfl ?_
    refine ac h (aq bA (h.ev rfl)) rfl ?_;intro f h
    refine a2 h rfl rfl rfl ?_
    refine aI (bq.subL (bq.of_own s 0 rfl) 0 33 (D:=av n.me) (bZ _ _ _ _)) h aJ rfl (al _) rfl ?_;intro f h
    refine a2 h rfl rfl rfl ?_
    refine aK h s y5 (aT (.bool true) (rt n.sc vs n.me _ (hRs.keep s.ext) hns) (congrArg Value.bool h2)) rfl rfl ?_;intro f w1 v9 hT hE h s;obtain rfl:=hT
    refine ac h (aO (h.ev rfl) (h.ev rfl)) rfl ?_;intro f h
    refine ac h (ah (h.ev rfl)) rfl ?_;intro f h
    refine a2 h rfl rfl rfl ?_
    refine ac h (aq dP (h.ev rfl)) rfl ?_;intro f h
    refine a2 h rfl rfl rfl ?_
    refine aC (V:=vf) (ax (bq.of_own s 0 rfl) 67 (ed _ _ _ _)) h cf rfl rfl ?_;intro f h
    refine a2 h rfl rfl rfl ?_
    refine ac h (aq bA (h.ev rfl)) rfl ?_;intro f h
    refine a2 h rfl rfl rfl ?_
    refine ac h (aq aP (h.ev rfl)) rfl ?_;intro f h
    refine a2 h rfl rfl rfl ?_
    refine aC (ax (bq.of_own s 0 rfl) 0 (dz _ _ _ _)) h bV rfl rfl ?_;intro f h
    refine a2 h rfl rfl rfl ?_
    refine aK h s Ck (uU n.fg vf n.me.1 _ (hRf.keep s.ext) hnf) rfl rfl ?_;intro f w1 v9 hT hE h s;obtain rfl:=hT
    refine ac h (aO (h.ev rfl) (h.ev rfl)) rfl ?_;intro f h
    refine ac h (aj (h.ev rfl)) rfl ?_;intro f h
    refine ai ?_
    refine hK2 _ _ ?_
    refine wpIn_ret ?_
    exact bu rfl h s rfl (by show _=_;rw [ym h0 h1 h2])
theorem sv (l:List Mb) (hln:l.length≤1000) (a9:Option Addr) (n9 c9:Nat) (w:World) (hR:bO w (.slice a9 n9 c9) 33 l.length (am l)):Calls Tryz.prog 71 [.slice a9 n9 c9].toArray w (cO w (fun v w'=>cH w' w.heap.size 28 33 v l.length (am l))):=by
 refine bh Tryz.func71 rfl Tryz.ntmps71 rfl [(0,.slice a9 n9 c9)] (by simp) fun f h=>?_
 have s:=St.start w
 refine ak fun K1 hK1=>?_
 refine ag ?_
 refine ac h (aj (h.ev rfl)) rfl ?_;intro f h
 refine ai ?_
 refine hK1 _ _ ?_
 refine ak fun K2 hK2=>?_
 refine ak fun K3 hK3=>?_
 cases hn:(a9.isNone:Bool)
 ·skip
  refine ag ?_
  refine ac h (ah (h.ev rfl)) rfl ?_;intro f h
  refine ac h (aE (.bool false) (fx Tryz.underlying36 (h.ev rfl) (h.ev rfl)) (congrArg Value.bool hn)) rfl ?_;intro f h
  refine ai ?_
  refine hK3 _ _ ?_
  refine wpIn_cond_false (h.ev rfl) ?_
  refine wpIn_skip ?_
  refine hK2 _ _ ?_
  refine ak fun K4 hK4=>?_
  refine ag ?_
  refine mL (base:=w.heap.size) h Tryz.underlying36 dY (Nat.le_refl _) rfl ?_;intro f w2 v5 h hE3 e5
  refine ac h (ah (h.ev rfl)) rfl ?_;intro f h
  refine jd (base:=w.heap.size) e5 (hR.keep hE3) h Tryz.underlying36 dY rfl rfl hE3.le (ez _) (by unfold maxLen;omega) (by omega) rfl ?_;intro f w3 v7 h hE4 e7
  replace s:=s.sl_new (hE3.trans hE4) e7
  refine ac h (aj (h.ev rfl)) rfl ?_;intro f h
  refine ai ?_
  refine hK4 _ _ ?_
  refine wpIn_ret ?_
  exact bu rfl h s rfl (s.getSl 0 rfl)
 ·skip
  refine ag ?_
  refine ac h (ah (h.ev rfl)) rfl ?_;intro f h
  refine ac h (aE (.bool true) (fx Tryz.underlying36 (h.ev rfl) (h.ev rfl)) (congrArg Value.bool hn)) rfl ?_;intro f h
  refine ai ?_
  refine hK3 _ _ ?_
  refine wpIn_cond_true (h.ev rfl) ?_
  refine ak fun K5 hK5=>?_
  refine ag ?_
  refine ac h (aj (h.ev rfl)) rfl ?_;intro f h
  refine ai ?_
  refine hK5 _ _ ?_
  refine wpIn_ret ?_
  refine a8 ?_
  exact bu rfl h s rfl (by obtain rfl:=qP hn hR;exact fZ _ _ _ _)
theorem gj (l:List Mb) (hln:l.length≤1000) (v9:Value) (w:World) (hR:bO w v9 33 l.length (am l)):Calls Tryz.prog 71 [v9].toArray w (cO w (fun v w'=>cH w' w.heap.size 28 33 v l.length (am l))):=by
 obtain ⟨a,c,rfl⟩:=hR.len
 exact sv l hln a _ c w hR
theorem iS (n:Nd) (vs vf:Value) (w:World) (hRs:bO w vs 33 n.sc.length (am n.sc)) (hRf:bO w vf 33 n.fg.length (am n.fg)) (hns:n.sc.length≤1000) (hnf:n.fg.length≤1000):Calls Tryz.prog 56 [.agg (au n.me n.pr vs vf)].toArray w (cO w (BZ w 28 n)):=by
 refine bh Tryz.func56 rfl Tryz.ntmps56 rfl [(0,.agg (au n.me n.pr vs vf))] (by simp) fun f h=>?_
 have s:=St.start w
 refine ak fun K1 hK1=>?_
 refine ag ?_
 refine bR (au n.me n.pr vs vf) h s rfl rfl rfl ?_;intro f w1 b1 h s
 refine bi (au ap ap aU aU) h s ei rfl rfl ?_;intro f w1 b2 h s
 refine ai ?_
 refine hK1 _ _ ?_
 refine ak fun K2 hK2=>?_
 refine ag ?_
 refine ac h (aq cC (h.ev rfl)) rfl ?_;intro f h
 refine aC (V:=vs) (ax (bq.of_own s 1 rfl) 66 (c7 _ _ _ _)) h cf rfl rfl ?_;intro f h
 refine aK h s sd (gj n.sc hns vs _ (hRs.keep s.ext)) rfl rfl ?_;intro f w1 v5 hT hE h sq;replace s:=s.sl_new hE hT
 refine ac h (aq cC (h.ev rfl)) rfl ?_;intro f h
 refine bk 2 h s cf rfl rfl rfl (by rw [aw];omega) (bo (s.getSl 0 rfl)) ?_;intro w1 s
 replace s:=s.recell (D:=au n.me n.pr v5 vf) 2 rfl (gR _ _ _ _ _)
 refine ai ?_
 refine hK2 _ _ ?_
 refine ak fun K3 hK3=>?_
 refine ag ?_
 refine ac h (aq dP (h.ev rfl)) rfl ?_;intro f h
 refine aC (V:=vf) (ax (bq.of_own s 2 rfl) 67 (ed _ _ _ _)) h cf rfl rfl ?_;intro f h
 refine aK h s sd (gj n.fg hnf vf _ (hRf.keep s.ext)) rfl rfl ?_;intro f w1 v9 hT hE h sq;replace s:=s.sl_new hE hT
 refine ac h (aq dP (h.ev rfl)) rfl ?_;intro f h
 refine bk 3 h s cf rfl rfl rfl (by rw [aw];omega) (bo (s.getSl 0 rfl)) ?_;intro w1 s
 replace s:=s.recell (D:=au n.me n.pr v5 v9) 3 rfl (jv _ _ _ _ _)
 refine ai ?_
 refine hK3 _ _ ?_
 refine ak fun K4 hK4=>?_
 refine ag ?_
 refine ay 3 h s bw rfl rfl (aw _ _ _ _) rfl ?_;intro f h
 refine aA 2 h s bw rfl rfl rfl (aw _ _ _ _) (aw _ _ _ _) (br (bo (s.getSl 1 rfl)) (bo (s.getSl 0 rfl))) ?_;intro w1 s
 refine ai ?_
 refine hK4 _ _ ?_
 refine wpIn_ret ?_
 exact eP 2 rfl h s bw rfl rfl (aw _ _ _ _) (AM rfl (s.sel [1,0] rfl (by decide)))
end Go.Proofs.YthggibfkgofncaaGreat
