/- What Right of package node answers, and the functions that it calls, and copies of rows of members: for all nodes with at most 1000 members in each row. -/
import Derived.Test.YthggibfkgofncaaGreatCon
set_option linter.unusedVariables false
set_option linter.unusedSimpArgs false
set_option linter.unusedSectionVars false
namespace Go.Proofs.YthggibfkgofncaaGreat
open Go.RowKit
theorem pS (l:List Mb) (vh:Value) (g9:Nat) (caps:List Value) (p:Mb→Bool) (w:World) (hR:bK w vh 33 l.length (av l)) (hln:l.length≤1000) (hg:Fnc Tryz.prog g9) (hp:∀ w9,Ext w w9→∀ x∈l,Calls Tryz.prog g9 (.agg (au x)::caps).toArray w9 (cT w9 (is (.bool (p x))))):Calls Tryz.prog 112 [vh,.func (.func g9) #[] caps.toArray].toArray w (cT w (fun v _=>∃ r:Int,v=.int .i64 r∧((r = -1∧∀ x∈l,p x=false)∨∃ k:Nat,∃ hk:k<l.length,r=(k:Int)∧p l[k]=true))):=by
 refine bj Tryz.func112 rfl Tryz.ntmps112 rfl [(0,vh),(1,.func (.func g9) #[] caps.toArray)] (by simp) fun f h=>?_
 have s:=St.start w
 refine aj fun K1 hK1=>?_
 refine ae ?_
 refine ac h (ai (h.ev rfl)) rfl ?_;intro f h
 refine ah ?_
 refine hK1 _ _ ?_
 refine aj fun K2 hK2=>?_
 refine aj fun K3 hK3=>?_
 refine ae ?_
 refine ac h (ag (h.ev rfl)) rfl ?_;intro f h
 refine ac h (aY (hR.keep s.ext) Tryz.underlying36 (h.ev rfl)) rfl ?_;intro f h
 refine ac h (ag (h.ev rfl)) rfl ?_;intro f h
 refine ah ?_
 refine hK3 _ _ ?_
 refine wpIn_block ?_
 refine wpIn_loop_ghost (fun nn aa ww=>∃ k:Nat,Sl 19 aa [(0,vh),(1,.func (.func g9) #[] caps.toArray),(6,vh),(7,.int .i64 (l.length:Int)),(8,.int .i64 (k:Int))]∧St w [] ww∧nn=l.length - k∧k≤l.length∧∀ i (hi:i<l.length),i<k→p l[i]=false) (l.length - (0)) ⟨0,h.only ⟨rfl,rfl,rfl,rfl,aR rfl (by omega),trivial⟩,s.as trivial,rfl,Nat.zero_le _,fun i hi h9=>absurd h9 (Nat.not_lt_zero _)⟩ ?_
 rintro _ f w1 ⟨k,h,s,hnn,hp0,hp1⟩
 refine aj fun K4 hK4=>?_
 refine ae ?_
 refine ac h (bD (h.ev rfl) (h.ev rfl)) rfl ?_;intro f h
 refine ah ?_
 refine hK4 _ _ ?_
 refine aj fun K5 hK5=>?_
 refine bA h rfl (fun hc=>?_) (fun hc=>?_)
 ·replace hc:=of_decide_eq_true hc
  refine wpIn_skip ?_
  refine hK5 _ _ ?_
  refine aj fun K6 hK6=>?_
  refine wpIn_block ?_
  refine aj fun K7 hK7=>?_
  refine ae ?_
  refine ac h (ag (h.ev rfl)) rfl ?_;intro f h
  refine ac h (ai (h.ev rfl)) rfl ?_;intro f h
  refine ah ?_
  refine hK7 _ _ ?_
  refine aj fun K8 hK8=>?_
  refine ae ?_
  have hkl:k<l.length:=by omega
  refine ac h (ag (h.ev rfl)) rfl ?_;intro f h
  refine ac h (ag (h.ev rfl)) rfl ?_;intro f h
  refine ac h (ag (h.ev rfl)) rfl ?_;intro f h
  refine ac h (ce (hR.keep s.ext) (k) Tryz.underlying36 cG (h.ev rfl) (h.ev rfl) (by omega) (by omega)) rfl ?_;intro f h
  refine aM ((hR.keep s.ext).el (k) (by omega) (by decide) (D:=au l[k]) (vB l k hkl)) h aL rfl (ak _) rfl ?_;intro f h
  refine wh [.agg (au l[k])] (caps:=caps) h s hg rfl (hp _ s.ext _ (List.getElem_mem hkl)) rfl rfl ?_;intro f w1 v9 hT hE h s;obtain rfl:=hT
  refine ah ?_
  refine hK8 _ _ ?_
  refine bA h rfl (fun hc=>?_) (fun hc=>?_)
  ·refine aj fun K9 hK9=>?_
   refine ae ?_
   refine ac h (ag (h.ev rfl)) rfl ?_;intro f h
   refine ac h (ai (h.ev rfl)) rfl ?_;intro f h
   refine ah ?_
   refine hK9 _ _ ?_
   refine wpIn_ret ?_
   refine bu ?_
   refine aQ ?_
   refine aQ ?_
   refine bu ?_
   refine aQ ?_
   exact aX rfl h s rfl (⟨_,rfl,.inr ⟨k,hkl,rfl,hc⟩⟩)
  ·refine wpIn_skip ?_
   refine bF ?_
   refine hK6 _ _ ?_
   refine ae ?_
   refine ac h (cg (h.ev rfl) (h.ev rfl) (by omega)) rfl ?_;intro f h
   refine ac h (ag (h.ev rfl)) rfl ?_;intro f h
   refine ah ?_
   refine bQ ?_
   exact ⟨_,by omega,⟨k+1,h.only ⟨rfl,rfl,rfl,rfl,aR rfl (by omega),trivial⟩,St.as s trivial,rfl,by omega,tL (fun y=>p y=false) hp1 hkl hc⟩⟩
 ·replace hc:=of_decide_eq_false hc
  refine wpIn_exit ?_
  refine bw ?_
  refine bw ?_
  refine cq ?_
  refine hK2 _ _ ?_
  refine aj fun K10 hK10=>?_
  refine ae ?_
  refine ac h (ai (h.ev rfl)) rfl ?_;intro f h
  refine ah ?_
  refine hK10 _ _ ?_
  refine wpIn_ret ?_
  exact aX rfl h s rfl (⟨_,rfl,.inl ⟨rfl,fun x hx=>(by obtain ⟨i,hi,e⟩:=List.getElem_of_mem hx;rw [← e];exact hp1 i hi (by omega))⟩⟩)
theorem iS (l:List Mb) (vh:Value) (g9:Nat) (caps:List Value) (p:Mb→Bool) (w:World) (hR:bK w vh 33 l.length (av l)) (hln:l.length≤1000) (hg:Fnc Tryz.prog g9) (hp:∀ w9,Ext w w9→∀ x∈l,Calls Tryz.prog g9 (.agg (au x)::caps).toArray w9 (cT w9 (is (.bool (p x))))):Calls Tryz.prog 77 [vh,.func (.func g9) #[] caps.toArray].toArray w (cT w (is (.bool (l.any p)))):=by
 refine bj Tryz.func77 rfl Tryz.ntmps77 rfl [(0,vh),(1,.func (.func g9) #[] caps.toArray)] (by simp) fun f h=>?_
 have s:=St.start w
 refine aj fun K1 hK1=>?_
 refine ae ?_
 refine ac h (ai (h.ev rfl)) rfl ?_;intro f h
 refine ah ?_
 refine hK1 _ _ ?_
 refine aj fun K2 hK2=>?_
 refine ae ?_
 refine ac h (ag (h.ev rfl)) rfl ?_;intro f h
 refine ac h (ag (h.ev rfl)) rfl ?_;intro f h
 refine aF h s yL (pS l vh g9 caps p _ (hR.keep s.ext) hln hg (fun w9 h9=>hp w9 (s.ext.trans h9))) rfl rfl ?_;rintro f w1 v9 ⟨r9,rfl,hr⟩ hE h s
 refine ac h (aw (.bool (l.any p)) (c0 (h.ev rfl) (h.ev rfl)) (congrArg Value.bool (wu hr))) rfl ?_;intro f h
 refine ac h (ai (h.ev rfl)) rfl ?_;intro f h
 refine ah ?_
 refine hK2 _ _ ?_
 refine wpIn_ret ?_
 exact aX rfl h s rfl (rfl)
theorem da (m:Mb) (w:World):Calls Tryz.prog 55 [.agg (au m)].toArray w (cT w (is (.bool (dd m)))):=by
 refine bj Tryz.func55 rfl Tryz.ntmps55 rfl [(0,.agg (au m))] (by simp) fun f h=>?_
 have s:=St.start w
 refine aj fun K1 hK1=>?_
 refine ae ?_
 refine bT ((au m)) h s rfl rfl rfl ?_;intro f w1 b1 h s
 refine ac h (ai (h.ev rfl)) rfl ?_;intro f h
 refine ah ?_
 refine hK1 _ _ ?_
 refine aj fun K2 hK2=>?_
 cases h0:(decide (0≤m.1):Bool)
 ·skip
  refine ae ?_
  refine ac h (al aP (h.ev rfl)) rfl ?_;intro f h
  refine ar (am (bc.of_own s 0 rfl) 0 (aV _)) h bO rfl rfl ?_;intro f h
  refine ac h (aw (.bool false) (c0 (h.ev rfl) (h.ev rfl)) (congrArg Value.bool h0)) rfl ?_;intro f h
  refine ac h (ag (h.ev rfl)) rfl ?_;intro f h
  refine aC (b:=true) h rfl rfl rfl rfl ?_;intro f h
  refine aC (b:=true) h rfl rfl rfl rfl ?_;intro f h
  refine aC (b:=true) h rfl rfl rfl rfl ?_;intro f h
  refine ac h (aE (h.ev rfl) (h.ev rfl)) rfl ?_;intro f h
  refine ac h (ai (h.ev rfl)) rfl ?_;intro f h
  refine ah ?_
  refine hK2 _ _ ?_
  refine wpIn_ret ?_
  exact aX rfl h s rfl (by show _=_;rw [tG h0]<;>rfl)
 ·skip
  refine ae ?_
  refine ac h (al aP (h.ev rfl)) rfl ?_;intro f h
  refine ar (am (bc.of_own s 0 rfl) 0 (aV _)) h bO rfl rfl ?_;intro f h
  refine ac h (aw (.bool true) (c0 (h.ev rfl) (h.ev rfl)) (congrArg Value.bool h0)) rfl ?_;intro f h
  refine ac h (ag (h.ev rfl)) rfl ?_;intro f h
  refine aB h rfl rfl rfl ?_
  refine ac h (al aP (h.ev rfl)) rfl ?_;intro f h
  refine aB h rfl rfl rfl ?_
  refine ar (am (bc.of_own s 0 rfl) 0 (aV _)) h bO rfl rfl ?_;intro f h
  refine aB h rfl rfl rfl ?_
  refine ac h (bD (h.ev rfl) (h.ev rfl)) rfl ?_;intro f h
  refine ac h (aJ (h.ev rfl) (h.ev rfl)) rfl ?_;intro f h
  refine ac h (ai (h.ev rfl)) rfl ?_;intro f h
  refine ah ?_
  refine hK2 _ _ ?_
  refine wpIn_ret ?_
  exact aX rfl h s rfl (by show _=_;rw [x8 h0]<;>rfl)
theorem g5  (w:World):Calls Tryz.prog 68 [].toArray w (cT w (is (.agg (au d5)))):=by
 refine bj Tryz.func68 rfl Tryz.ntmps68 rfl [] (by simp) fun f h=>?_
 have s:=St.start w
 refine aj fun K1 hK1=>?_
 refine ae ?_
 refine ba (au a8) h s cz rfl rfl ?_;intro f w1 b0 h s
 refine ah ?_
 refine hK1 _ _ ?_
 refine aj fun K2 hK2=>?_
 refine ae ?_
 refine ac h (dz my rfl) rfl ?_;intro f h
 refine ay 0 h s aL rfl rfl rfl (ak _) (ak _) (bf _) ?_;intro w1 s
 refine ah ?_
 refine hK2 _ _ ?_
 refine wpIn_ret ?_
 exact d7 0 rfl h s aL rfl rfl (ak _) (rfl)
theorem nI (m:Mb) (no:Int) (w:World):Calls Tryz.prog 80 [.agg (au m),.int .i64 no].toArray w (cT w (is (.bool (i8 m no)))):=by
 refine bj Tryz.func80 rfl Tryz.ntmps80 rfl [(0,.agg (au m)),(1,.int .i64 no)] (by simp) fun f h=>?_
 have s:=St.start w
 refine aj fun K1 hK1=>?_
 refine ae ?_
 refine bT ((au m)) h s rfl rfl rfl ?_;intro f w1 b2 h s
 refine ac h (ai (h.ev rfl)) rfl ?_;intro f h
 refine ah ?_
 refine hK1 _ _ ?_
 refine aj fun K2 hK2=>?_
 cases q0:(decide (m=d5):Bool)
 ·skip
  cases q1:(dd m:Bool)
  ·skip
   refine bJ 14 [[],[],[0,1],[0,1,2],[0,1,2,3],[0,1,2,3,4],[0,1,2,3,4,5],[0,1,2,3,4,5,6],[0,1,2,3,4,5,6,7],[0,1,2,3,4,5,6],[0,1,2,3,4,5,6,7,8,9],[0,1,2,3,4,5,6,7,8,9,10],[0,1,2,3,4,5,6,7,8,9,10,11],[0,1,2,3,4,5,6,7,8,9,10,11,12]] h (by kernel_rfl) (by kernel_rfl) (by kernel_rfl) ?_
   refine br 0 h s aL rfl rfl (ak _) rfl ?_;intro f h
   refine cm h oK (fun w9 hE9=>g5 w9) rfl rfl ?_;intro f h
   refine ap h (aw (.bool false) (c4 (gM _ _) (by kernel_rfl) (by decide) (h.ev rfl) (h.ev rfl) (decide (m=d5)) (dE _ _)) (congrArg Value.bool q0)) rfl ?_;intro f h
   refine ap h (ag (h.ev rfl)) rfl ?_;intro f h
   refine bi h rfl rfl rfl ?_
   refine br 0 h s aL rfl rfl (ak _) rfl ?_;intro f h
   refine bi h rfl rfl rfl ?_
   refine cm h fu (fun w9 hE9=>aO (.bool false) (da m w9) (congrArg Value.bool q1)) rfl rfl ?_;intro f h
   refine bi h rfl rfl rfl ?_
   refine ap h (ag (h.ev rfl)) rfl ?_;intro f h
   refine bm (b:=true) h rfl rfl rfl rfl ?_;intro f h
   refine bm (b:=true) h rfl rfl rfl rfl ?_;intro f h
   refine bm (b:=true) h rfl rfl rfl rfl ?_;intro f h
   refine bm (b:=true) h rfl rfl rfl rfl ?_;intro f h
   refine bi h rfl rfl rfl ?_
   refine ap h (aE (h.ev rfl) (h.ev rfl)) rfl ?_;intro f h
   refine ap h (aE (h.ev rfl) (h.ev rfl)) rfl ?_;intro f h
   refine ap h (ai (h.ev rfl)) rfl ?_;intro f h
   refine cn s fun w1 s=>?_
   refine ah ?_
   refine hK2 _ _ ?_
   refine wpIn_ret ?_
   exact aX rfl h s rfl (by show _=_;rw [x1 q0 q1])
  ·skip
   cases q2:(decide (m.1≠no):Bool)
   ·skip
    refine bJ 14 [[],[],[0,1],[0,1,2],[0,1,2,3],[0,1,2,3,4],[0,1,2,3,4,5],[0,1,2,3,4,5,6],[0,1,2,3,4,5,6,7],[0,1,2,3,4,5,6],[0,1,2,3,4,5,6,7,8,9],[0,1,2,3,4,5,6,7,8,9,10],[0,1,2,3,4,5,6,7,8,9,10,11],[0,1,2,3,4,5,6,7,8,9,10,11,12]] h (by kernel_rfl) (by kernel_rfl) (by kernel_rfl) ?_
    refine br 0 h s aL rfl rfl (ak _) rfl ?_;intro f h
    refine cm h oK (fun w9 hE9=>g5 w9) rfl rfl ?_;intro f h
    refine ap h (aw (.bool false) (c4 (gM _ _) (by kernel_rfl) (by decide) (h.ev rfl) (h.ev rfl) (decide (m=d5)) (dE _ _)) (congrArg Value.bool q0)) rfl ?_;intro f h
    refine ap h (ag (h.ev rfl)) rfl ?_;intro f h
    refine bi h rfl rfl rfl ?_
    refine br 0 h s aL rfl rfl (ak _) rfl ?_;intro f h
    refine bi h rfl rfl rfl ?_
    refine cm h fu (fun w9 hE9=>aO (.bool true) (da m w9) (congrArg Value.bool q1)) rfl rfl ?_;intro f h
    refine bi h rfl rfl rfl ?_
    refine ap h (ag (h.ev rfl)) rfl ?_;intro f h
    refine bi h rfl rfl rfl ?_
    refine ap h (al aP (h.ev rfl)) rfl ?_;intro f h
    refine bi h rfl rfl rfl ?_
    refine bk (am (bc.of_own s 0 rfl) 0 (aV _)) h bO rfl rfl ?_;intro f h
    refine bi h rfl rfl rfl ?_
    refine ap h (ag (h.ev rfl)) rfl ?_;intro f h
    refine bi h rfl rfl rfl ?_
    refine ap h (aw (.bool false) (cO (h.ev rfl) (h.ev rfl)) (congrArg Value.bool q2)) rfl ?_;intro f h
    refine bi h rfl rfl rfl ?_
    refine ap h (aJ (h.ev rfl) (h.ev rfl)) rfl ?_;intro f h
    refine ap h (aE (h.ev rfl) (h.ev rfl)) rfl ?_;intro f h
    refine ap h (ai (h.ev rfl)) rfl ?_;intro f h
    refine cn s fun w1 s=>?_
    refine ah ?_
    refine hK2 _ _ ?_
    refine wpIn_ret ?_
    exact aX rfl h s rfl (by show _=_;rw [rB q0 q1,q2])
   ·skip
    refine bJ 14 [[],[],[0,1],[0,1,2],[0,1,2,3],[0,1,2,3,4],[0,1,2,3,4,5],[0,1,2,3,4,5,6],[0,1,2,3,4,5,6,7],[0,1,2,3,4,5,6],[0,1,2,3,4,5,6,7,8,9],[0,1,2,3,4,5,6,7,8,9,10],[0,1,2,3,4,5,6,7,8,9,10,11],[0,1,2,3,4,5,6,7,8,9,10,11,12]] h (by kernel_rfl) (by kernel_rfl) (by kernel_rfl) ?_
    refine br 0 h s aL rfl rfl (ak _) rfl ?_;intro f h
    refine cm h oK (fun w9 hE9=>g5 w9) rfl rfl ?_;intro f h
    refine ap h (aw (.bool false) (c4 (gM _ _) (by kernel_rfl) (by decide) (h.ev rfl) (h.ev rfl) (decide (m=d5)) (dE _ _)) (congrArg Value.bool q0)) rfl ?_;intro f h
    refine ap h (ag (h.ev rfl)) rfl ?_;intro f h
    refine bi h rfl rfl rfl ?_
    refine br 0 h s aL rfl rfl (ak _) rfl ?_;intro f h
    refine bi h rfl rfl rfl ?_
    refine cm h fu (fun w9 hE9=>aO (.bool true) (da m w9) (congrArg Value.bool q1)) rfl rfl ?_;intro f h
    refine bi h rfl rfl rfl ?_
    refine ap h (ag (h.ev rfl)) rfl ?_;intro f h
    refine bi h rfl rfl rfl ?_
    refine ap h (al aP (h.ev rfl)) rfl ?_;intro f h
    refine bi h rfl rfl rfl ?_
    refine bk (am (bc.of_own s 0 rfl) 0 (aV _)) h bO rfl rfl ?_;intro f h
    refine bi h rfl rfl rfl ?_
    refine ap h (ag (h.ev rfl)) rfl ?_;intro f h
    refine bi h rfl rfl rfl ?_
    refine ap h (aw (.bool true) (cO (h.ev rfl) (h.ev rfl)) (congrArg Value.bool q2)) rfl ?_;intro f h
    refine bi h rfl rfl rfl ?_
    refine ap h (aJ (h.ev rfl) (h.ev rfl)) rfl ?_;intro f h
    refine ap h (aE (h.ev rfl) (h.ev rfl)) rfl ?_;intro f h
    refine ap h (ai (h.ev rfl)) rfl ?_;intro f h
    refine cn s fun w1 s=>?_
    refine ah ?_
    refine hK2 _ _ ?_
    refine wpIn_ret ?_
    exact aX rfl h s rfl (by show _=_;rw [rB q0 q1,q2])
 ·skip
  refine bJ 14 [[],[],[0,1],[0,1,2],[0,1,2,3],[0,1,2,3,4],[0,1,2,3,4,5],[0,1,2,3,4,5,6],[0,1,2,3,4,5,6,7],[0,1,2,3,4,5,6],[0,1,2,3,4,5,6,7,8,9],[0,1,2,3,4,5,6,7,8,9,10],[0,1,2,3,4,5,6,7,8,9,10,11],[0,1,2,3,4,5,6,7,8,9,10,11,12]] h (by kernel_rfl) (by kernel_rfl) (by kernel_rfl) ?_
  refine br 0 h s aL rfl rfl (ak _) rfl ?_;intro f h
  refine cm h oK (fun w9 hE9=>g5 w9) rfl rfl ?_;intro f h
  refine ap h (aw (.bool true) (c4 (gM _ _) (by kernel_rfl) (by decide) (h.ev rfl) (h.ev rfl) (decide (m=d5)) (dE _ _)) (congrArg Value.bool q0)) rfl ?_;intro f h
  refine ap h (ag (h.ev rfl)) rfl ?_;intro f h
  refine bm (b:=false) h rfl rfl rfl rfl ?_;intro f h
  refine bm (b:=false) h rfl rfl rfl rfl ?_;intro f h
  refine bm (b:=false) h rfl rfl rfl rfl ?_;intro f h
  refine dZ h rfl rfl rfl rfl ?_;intro f h
  refine dZ h rfl rfl rfl rfl ?_;intro f h
  refine dZ h rfl rfl rfl rfl ?_;intro f h
  refine dZ h rfl rfl rfl rfl ?_;intro f h
  refine bm (b:=false) h rfl rfl rfl rfl ?_;intro f h
  refine ap h (aJ (h.ev rfl) (h.ev rfl)) rfl ?_;intro f h
  refine ap h (ai (h.ev rfl)) rfl ?_;intro f h
  refine cn s fun w1 s=>?_
  refine ah ?_
  refine hK2 _ _ ?_
  refine wpIn_ret ?_
  exact aX rfl h s rfl (by show _=_;rw [q5 q0])
theorem qc (x:Mb) (no:Int) (bx:Nat) (w:World) (hb:jd w bx #[.int .i64 no]):Calls Tryz.prog 87 [.agg (au x),.pointer (some ⟨bx,0,none⟩)].toArray w (cT w (is (.bool (decide (x.1=no))))):=by
 refine bj Tryz.func87 rfl Tryz.ntmps87 rfl [(0,.agg (au x)),(1,.pointer (some ⟨bx,0,none⟩))] (by simp) fun f h=>?_
 have s:=St.start w
 refine aj fun K1 hK1=>?_
 refine ae ?_
 refine bT ((au x)) h s rfl rfl rfl ?_;intro f w1 b2 h s
 refine ac h (ai (h.ev rfl)) rfl ?_;intro f h
 refine ah ?_
 refine hK1 _ _ ?_
 refine aj fun K2 hK2=>?_
 refine ae ?_
 refine ac h (al aP (h.ev rfl)) rfl ?_;intro f h
 refine ar (am (bc.of_own s 0 rfl) 0 (aV _)) h bO rfl rfl ?_;intro f h
 refine ar (V:=.int .i64 no) (am (bc.of_tab (hb.keep s.ext)) 0 (rfl)) h bO rfl rfl ?_;intro f h
 refine ac h (cc (h.ev rfl) (h.ev rfl)) rfl ?_;intro f h
 refine ac h (ai (h.ev rfl)) rfl ?_;intro f h
 refine ah ?_
 refine hK2 _ _ ?_
 refine wpIn_ret ?_
 exact aX rfl h s rfl (rfl)
theorem kl (l:List Mb) (vh:Value) (no:Int) (w:World) (hR:bK w vh 33 l.length (av l)) (hln:l.length≤1000):Calls Tryz.prog 57 [vh,.int .i64 no].toArray w (cT w (is (.bool (jJ l no)))):=by
 refine bj Tryz.func57 rfl Tryz.ntmps57 rfl [(0,vh),(1,.int .i64 no)] (by simp) fun f h=>?_
 have s:=St.start w
 refine aj fun K1 hK1=>?_
 refine ae ?_
 refine bT (#[.int .i64 no]) h s rfl rfl rfl ?_;intro f w1 b3 h s
 refine ac h (ai (h.ev rfl)) rfl ?_;intro f h
 refine ah ?_
 refine hK1 _ _ ?_
 refine aj fun K2 hK2=>?_
 refine ae ?_
 refine ac h (ag (h.ev rfl)) rfl ?_;intro f h
 refine ac h (ek [.pointer (some ⟨b3,0,none⟩)] (mx h rfl)) rfl ?_;intro f h
 refine aF h s yj (iS l vh 87 [.pointer (some ⟨b3,0,none⟩)] (fun x=>decide (x.1=no)) _ (hR.keep s.ext) hln A4 (fun w9 h9 x _=>qc x no b3 w9 ((jd.of_own s 0 rfl).keep h9))) rfl rfl ?_;intro f w1 v9 hT hE h s;obtain rfl:=hT
 refine ac h (ai (h.ev rfl)) rfl ?_;intro f h
 refine ah ?_
 refine hK2 _ _ ?_
 refine wpIn_ret ?_
 exact aX rfl h s rfl (rfl)
theorem js (l:List Mb) (vh:Value) (no:Int) (w:World) (hR:bK w vh 33 l.length (av l)) (hln:l.length≤1000):Calls Tryz.prog 114 [vh,.int .i64 no].toArray w (cT w (is (.bool (gP l no)))):=by
 refine bj Tryz.func114 rfl Tryz.ntmps114 rfl [(0,vh),(1,.int .i64 no)] (by simp) fun f h=>?_
 have s:=St.start w
 refine aj fun K1 hK1=>?_
 refine ae ?_
 refine ac h (ai (h.ev rfl)) rfl ?_;intro f h
 refine ah ?_
 refine hK1 _ _ ?_
 refine aj fun K2 hK2=>?_
 refine aj fun K3 hK3=>?_
 refine ae ?_
 refine ac h (ag (h.ev rfl)) rfl ?_;intro f h
 refine ac h (aY (hR.keep s.ext) Tryz.underlying36 (h.ev rfl)) rfl ?_;intro f h
 refine ac h (ag (h.ev rfl)) rfl ?_;intro f h
 refine ah ?_
 refine hK3 _ _ ?_
 refine wpIn_block ?_
 refine wpIn_loop_ghost (fun nn aa ww=>∃ k:Nat,Sl 32 aa [(0,vh),(1,.int .i64 no),(7,vh),(8,.int .i64 (l.length:Int)),(9,.int .i64 (k:Int))]∧St w [] ww∧nn=l.length - k∧k≤l.length∧∀ j,j<k→iJ l no j=false) (l.length - (0)) ⟨0,h.only ⟨rfl,rfl,rfl,rfl,aR rfl (by omega),trivial⟩,s.as trivial,rfl,Nat.zero_le _,fun j hj=>absurd hj (Nat.not_lt_zero _)⟩ ?_
 rintro _ f w1 ⟨k,h,s,hnn,hp0,hp1⟩
 refine aj fun K4 hK4=>?_
 refine ae ?_
 refine ac h (bD (h.ev rfl) (h.ev rfl)) rfl ?_;intro f h
 refine ah ?_
 refine hK4 _ _ ?_
 refine aj fun K5 hK5=>?_
 refine bA h rfl (fun hc=>?_) (fun hc=>?_)
 ·replace hc:=of_decide_eq_true hc
  refine wpIn_skip ?_
  refine hK5 _ _ ?_
  refine aj fun K6 hK6=>?_
  refine wpIn_block ?_
  refine aj fun K7 hK7=>?_
  refine ae ?_
  refine ac h (ag (h.ev rfl)) rfl ?_;intro f h
  have hkl:k<l.length:=by omega
  refine ac h (ce (hR.keep s.ext) (k) Tryz.underlying36 cG (h.ev rfl) (h.ev rfl) (by omega) (by omega)) rfl ?_;intro f h
  refine aM ((hR.keep s.ext).el (k) (by omega) (by decide) (D:=au (l.getD k a8)) (cK l k hkl)) h aL rfl (ak _) rfl ?_;intro f h
  refine ba (au a8) h s cz rfl rfl ?_;intro f w1 b6 h s
  refine ac h (ai (h.ev rfl)) rfl ?_;intro f h
  refine ay 0 h s aL rfl rfl rfl (ak _) (ak _) (bf _) ?_;intro w1 s
  refine ah ?_
  refine hK7 _ _ ?_
  refine aj fun K8 hK8=>?_
  cases k0:(dd (l.getD k a8):Bool)
  ·skip
   refine bJ 17 [[],[0],[0,1],[0,1,2],[0,1,2,3],[0,1,2,3,4],[0,1,2,3],[0,1,2,3,4,5,6],[0,1,2,3,4,5,6,7],[0,1,2,3,4,5,6,7,8],[0,1,2,3,4,5,6,7,8,9],[0,1,2,3,4,5,6,7,8,9],[0,1,2,3,4,5,6,7,8,9,10,11],[0,1,2,3,4,5,6,7,8,9],[0,1,2,3,4,5,6,7,8,9,13],[0,1,2,3,4,5,6,7,8,9,10,11,12,13,14],[0,1,2,3,4,5,6,7,8,9,10,11,12,13,14,15]] h (by kernel_rfl) (by kernel_rfl) (by kernel_rfl) ?_
   refine br 0 h s aL rfl rfl (ak _) rfl ?_;intro f h
   refine cm h fu (fun w9 hE9=>aO (.bool false) (da (l.getD k a8) w9) (congrArg Value.bool k0)) rfl rfl ?_;intro f h
   refine ap h (aw (.bool true) (bg (h.ev rfl)) rfl) rfl ?_;intro f h
   refine ap h (ag (h.ev rfl)) rfl ?_;intro f h
   refine bm (b:=false) h rfl rfl rfl rfl ?_;intro f h
   refine bm (b:=false) h rfl rfl rfl rfl ?_;intro f h
   refine bm (b:=false) h rfl rfl rfl rfl ?_;intro f h
   refine bm (b:=false) h rfl rfl rfl rfl ?_;intro f h
   refine ap h (aJ (h.ev rfl) (h.ev rfl)) rfl ?_;intro f h
   refine ap h (ag (h.ev rfl)) rfl ?_;intro f h
   refine bm (b:=false) h rfl rfl rfl rfl ?_;intro f h
   refine bm (b:=false) h rfl rfl rfl rfl ?_;intro f h
   refine bm (b:=false) h rfl rfl rfl rfl ?_;intro f h
   refine bm (b:=false) h rfl rfl rfl rfl ?_;intro f h
   refine bm (b:=false) h rfl rfl rfl rfl ?_;intro f h
   refine bm (b:=false) h rfl rfl rfl rfl ?_;intro f h
   refine ap h (aJ (h.ev rfl) (h.ev rfl)) rfl ?_;intro f h
   refine cn s fun w1 s=>?_
   refine ah ?_
   refine hK8 _ _ ?_
   refine wpIn_cond_true (h.ev rfl) ?_
   refine aj fun K9 hK9=>?_
   refine ae ?_
   refine ac h (ai (h.ev rfl)) rfl ?_;intro f h
   refine ah ?_
   refine hK9 _ _ ?_
   refine wpIn_ret ?_
   refine bu ?_
   refine aQ ?_
   refine aQ ?_
   refine bu ?_
   refine aQ ?_
   exact aX rfl h s rfl (by show _=_;rw [gm hkl (vi k0)])
  ·skip
   cases k1:(decide ((l.getD k a8).1=no):Bool)
   ·skip
    refine bJ 17 [[],[0],[0,1],[0,1,2],[0,1,2,3],[0,1,2,3,4],[0,1,2,3],[0,1,2,3,4,5,6],[0,1,2,3,4,5,6,7],[0,1,2,3,4,5,6,7,8],[0,1,2,3,4,5,6,7,8,9],[0,1,2,3,4,5,6,7,8,9],[0,1,2,3,4,5,6,7,8,9,10,11],[0,1,2,3,4,5,6,7,8,9],[0,1,2,3,4,5,6,7,8,9,13],[0,1,2,3,4,5,6,7,8,9,10,11,12,13,14],[0,1,2,3,4,5,6,7,8,9,10,11,12,13,14,15]] h (by kernel_rfl) (by kernel_rfl) (by kernel_rfl) ?_
    refine br 0 h s aL rfl rfl (ak _) rfl ?_;intro f h
    refine cm h fu (fun w9 hE9=>aO (.bool true) (da (l.getD k a8) w9) (congrArg Value.bool k0)) rfl rfl ?_;intro f h
    refine ap h (aw (.bool false) (bg (h.ev rfl)) rfl) rfl ?_;intro f h
    refine ap h (ag (h.ev rfl)) rfl ?_;intro f h
    refine bi h rfl rfl rfl ?_
    refine ap h (al aP (h.ev rfl)) rfl ?_;intro f h
    refine bi h rfl rfl rfl ?_
    refine bk (am (bc.of_own s 0 rfl) 0 (aV _)) h bO rfl rfl ?_;intro f h
    refine bi h rfl rfl rfl ?_
    refine ap h (ag (h.ev rfl)) rfl ?_;intro f h
    refine bi h rfl rfl rfl ?_
    refine ap h (aw (.bool false) (cc (h.ev rfl) (h.ev rfl)) (congrArg Value.bool k1)) rfl ?_;intro f h
    refine ap h (aE (h.ev rfl) (h.ev rfl)) rfl ?_;intro f h
    refine ap h (ag (h.ev rfl)) rfl ?_;intro f h
    refine bi h rfl rfl rfl ?_
    refine ap h (ag (h.ev rfl)) rfl ?_;intro f h
    refine bi h rfl rfl rfl ?_
    refine ap h (ag (h.ev rfl)) rfl ?_;intro f h
    refine bi h rfl rfl rfl ?_
    refine ap h (dl (hR.keep s.ext) (k) Tryz.underlying36 cG (h.ev rfl) (h.ev rfl) (rfl) (by omega)) rfl ?_;intro f h
    refine bi h rfl rfl rfl ?_
    refine ap h (al aP (h.ev rfl)) rfl ?_;intro f h
    refine bi h rfl rfl rfl ?_
    refine bk (am (bc.of_own s 0 rfl) 0 (aV _)) h bO rfl rfl ?_;intro f h
    refine bi h rfl rfl rfl ?_
    refine cm h tk (fun w9 hE9=>kl (l.take k) (gb vh k) (l.getD k a8).1 w9 ((eO hR k (by omega)).keep (s.ext.trans hE9)) (by rw [List.length_take];omega)) rfl rfl ?_;intro f h
    refine ap h (aE (h.ev rfl) (h.ev rfl)) rfl ?_;intro f h
    refine cn s fun w1 s=>?_
    refine ah ?_
    refine hK8 _ _ ?_
    refine bA h rfl (fun hc=>?_) (fun hc=>?_)
    ·refine aj fun K10 hK10=>?_
     refine ae ?_
     refine ac h (ai (h.ev rfl)) rfl ?_;intro f h
     refine ah ?_
     refine hK10 _ _ ?_
     refine wpIn_ret ?_
     refine bu ?_
     refine aQ ?_
     refine aQ ?_
     refine bu ?_
     refine aQ ?_
     exact aX rfl h s rfl (by show _=_;rw [gm hkl ((nw k0 k1).trans hc)])
    ·refine wpIn_skip ?_
     refine bF ?_
     refine hK6 _ _ ?_
     refine ae ?_
     refine ac h (cg (h.ev rfl) (h.ev rfl) (by omega)) rfl ?_;intro f h
     refine ac h (ag (h.ev rfl)) rfl ?_;intro f h
     refine ah ?_
     refine bQ ?_
     have hb9:iJ l no k=false:=(nw k0 k1).trans hc
     exact ⟨_,by omega,⟨k+1,h.only ⟨rfl,rfl,rfl,rfl,aR rfl (by omega),trivial⟩,St.as (s.pick _ (List.sublist_append_right [_] _)) trivial,rfl,by omega,cV hp1 hb9⟩⟩
   ·skip
    refine bJ 17 [[],[0],[0,1],[0,1,2],[0,1,2,3],[0,1,2,3,4],[0,1,2,3],[0,1,2,3,4,5,6],[0,1,2,3,4,5,6,7],[0,1,2,3,4,5,6,7,8],[0,1,2,3,4,5,6,7,8,9],[0,1,2,3,4,5,6,7,8,9],[0,1,2,3,4,5,6,7,8,9,10,11],[0,1,2,3,4,5,6,7,8,9],[0,1,2,3,4,5,6,7,8,9,13],[0,1,2,3,4,5,6,7,8,9,10,11,12,13,14],[0,1,2,3,4,5,6,7,8,9,10,11,12,13,14,15]] h (by kernel_rfl) (by kernel_rfl) (by kernel_rfl) ?_
    refine br 0 h s aL rfl rfl (ak _) rfl ?_;intro f h
    refine cm h fu (fun w9 hE9=>aO (.bool true) (da (l.getD k a8) w9) (congrArg Value.bool k0)) rfl rfl ?_;intro f h
    refine ap h (aw (.bool false) (bg (h.ev rfl)) rfl) rfl ?_;intro f h
    refine ap h (ag (h.ev rfl)) rfl ?_;intro f h
    refine bi h rfl rfl rfl ?_
    refine ap h (al aP (h.ev rfl)) rfl ?_;intro f h
    refine bi h rfl rfl rfl ?_
    refine bk (am (bc.of_own s 0 rfl) 0 (aV _)) h bO rfl rfl ?_;intro f h
    refine bi h rfl rfl rfl ?_
    refine ap h (ag (h.ev rfl)) rfl ?_;intro f h
    refine bi h rfl rfl rfl ?_
    refine ap h (aw (.bool true) (cc (h.ev rfl) (h.ev rfl)) (congrArg Value.bool k1)) rfl ?_;intro f h
    refine ap h (aE (h.ev rfl) (h.ev rfl)) rfl ?_;intro f h
    refine ap h (ag (h.ev rfl)) rfl ?_;intro f h
    refine bm (b:=false) h rfl rfl rfl rfl ?_;intro f h
    refine bm (b:=false) h rfl rfl rfl rfl ?_;intro f h
    refine bm (b:=false) h rfl rfl rfl rfl ?_;intro f h
    refine bm (b:=false) h rfl rfl rfl rfl ?_;intro f h
    refine bm (b:=false) h rfl rfl rfl rfl ?_;intro f h
    refine bm (b:=false) h rfl rfl rfl rfl ?_;intro f h
    refine ap h (aJ (h.ev rfl) (h.ev rfl)) rfl ?_;intro f h
    refine cn s fun w1 s=>?_
    refine ah ?_
    refine hK8 _ _ ?_
    refine wpIn_cond_true (h.ev rfl) ?_
    refine aj fun K11 hK11=>?_
    refine ae ?_
    refine ac h (ai (h.ev rfl)) rfl ?_;intro f h
    refine ah ?_
    refine hK11 _ _ ?_
    refine wpIn_ret ?_
    refine bu ?_
    refine aQ ?_
    refine aQ ?_
    refine bu ?_
    refine aQ ?_
    exact aX rfl h s rfl (by show _=_;rw [gm hkl (uG k1)])
 ·replace hc:=of_decide_eq_false hc
  refine wpIn_exit ?_
  refine bw ?_
  refine bw ?_
  refine cq ?_
  refine hK2 _ _ ?_
  refine aj fun K12 hK12=>?_
  refine ae ?_
  refine ac h (ai (h.ev rfl)) rfl ?_;intro f h
  refine ah ?_
  refine hK12 _ _ ?_
  refine wpIn_ret ?_
  exact aX rfl h s rfl (by show _=_;rw [px (by omega) hp1])
theorem qQ (l:List Mb) (vh:Value) (m:Mb) (w:World) (hR:bK w vh 33 l.length (av l)) (hln:l.length≤1000):Calls Tryz.prog 81 [vh,.agg (au m)].toArray w (cT w (is (.bool (gY l m)))):=by
 refine bj Tryz.func81 rfl Tryz.ntmps81 rfl [(0,vh),(1,.agg (au m))] (by simp) fun f h=>?_
 have s:=St.start w
 refine aj fun K1 hK1=>?_
 refine ae ?_
 refine bT ((au m)) h s rfl rfl rfl ?_;intro f w1 b3 h s
 refine ac h (ai (h.ev rfl)) rfl ?_;intro f h
 refine ah ?_
 refine hK1 _ _ ?_
 refine aj fun K2 hK2=>?_
 refine aj fun K3 hK3=>?_
 cases h1:(decide (l.length=1):Bool)
 ·skip
  refine bJ 10 [[],[0],[0,1],[0,1,2],[0,1,2,3],[0,1,2,3,4],[0,1,2,3,4,5],[0,1,2,3],[0,1,2,3,4,5,6,7],[0,1,2,3,4,5,6,7,8]] h (by kernel_rfl) (by kernel_rfl) (by kernel_rfl) ?_
  refine ap h (ag (h.ev rfl)) rfl ?_;intro f h
  refine ap h (aY (hR.keep s.ext) Tryz.underlying36 (h.ev rfl)) rfl ?_;intro f h
  refine ap h (aw (.bool false) (cc (h.ev rfl) (h.ev rfl)) (congrArg Value.bool (decide_eq_false (by have:=of_decide_eq_false h1;omega)))) rfl ?_;intro f h
  refine ap h (ag (h.ev rfl)) rfl ?_;intro f h
  refine bm (b:=true) h rfl rfl rfl rfl ?_;intro f h
  refine bm (b:=true) h rfl rfl rfl rfl ?_;intro f h
  refine bm (b:=true) h rfl rfl rfl rfl ?_;intro f h
  refine bm (b:=true) h rfl rfl rfl rfl ?_;intro f h
  refine bm (b:=true) h rfl rfl rfl rfl ?_;intro f h
  refine ap h (aE (h.ev rfl) (h.ev rfl)) rfl ?_;intro f h
  refine cn s fun w1 s=>?_
  refine ah ?_
  refine hK3 _ _ ?_
  refine wpIn_cond_false (h.ev rfl) ?_
  refine wpIn_skip ?_
  refine hK2 _ _ ?_
  refine aj fun K4 hK4=>?_
  cases g0:(decide (1≤l.length):Bool)
  ·skip
   refine ae ?_
   have hno:¬ (l.length=1∧l.getD 0 a8=m):=(by rintro ⟨h9,h8⟩;exact absurd h9 (of_decide_eq_false h1))
   refine ac h (ag (h.ev rfl)) rfl ?_;intro f h
   refine ac h (aY (hR.keep s.ext) Tryz.underlying36 (h.ev rfl)) rfl ?_;intro f h
   refine ac h (aw (.bool false) (c0 (h.ev rfl) (h.ev rfl)) (congrArg Value.bool (decide_eq_false (by have:=of_decide_eq_false g0;omega)))) rfl ?_;intro f h
   refine ac h (ag (h.ev rfl)) rfl ?_;intro f h
   refine aC (b:=true) h rfl rfl rfl rfl ?_;intro f h
   refine aC (b:=true) h rfl rfl rfl rfl ?_;intro f h
   refine aC (b:=true) h rfl rfl rfl rfl ?_;intro f h
   refine ac h (aE (h.ev rfl) (h.ev rfl)) rfl ?_;intro f h
   refine ac h (ag (h.ev rfl)) rfl ?_;intro f h
   refine aC (b:=true) h rfl rfl rfl rfl ?_;intro f h
   refine aC (b:=true) h rfl rfl rfl rfl ?_;intro f h
   refine aC (b:=true) h rfl rfl rfl rfl ?_;intro f h
   refine aC (b:=true) h rfl rfl rfl rfl ?_;intro f h
   refine ac h (aE (h.ev rfl) (h.ev rfl)) rfl ?_;intro f h
   refine ac h (ai (h.ev rfl)) rfl ?_;intro f h
   refine ah ?_
   refine hK4 _ _ ?_
   refine wpIn_ret ?_
   exact aX rfl h s rfl (by show _=_;rw [tM hno g0])
  ·skip
   cases g1:(decide (l.length≤4):Bool)
   ·skip
    refine ae ?_
    have hno:¬ (l.length=1∧l.getD 0 a8=m):=(by rintro ⟨h9,h8⟩;exact absurd h9 (of_decide_eq_false h1))
    refine ac h (ag (h.ev rfl)) rfl ?_;intro f h
    refine ac h (aY (hR.keep s.ext) Tryz.underlying36 (h.ev rfl)) rfl ?_;intro f h
    refine ac h (aw (.bool true) (c0 (h.ev rfl) (h.ev rfl)) (congrArg Value.bool (decide_eq_true (by have:=of_decide_eq_true g0;omega)))) rfl ?_;intro f h
    refine ac h (ag (h.ev rfl)) rfl ?_;intro f h
    refine aB h rfl rfl rfl ?_
    refine ac h (ag (h.ev rfl)) rfl ?_;intro f h
    refine aB h rfl rfl rfl ?_
    refine ac h (aY (hR.keep s.ext) Tryz.underlying36 (h.ev rfl)) rfl ?_;intro f h
    refine aB h rfl rfl rfl ?_
    refine ac h (aw (.bool false) (fH (h.ev rfl) (h.ev rfl)) (congrArg Value.bool (decide_eq_false (by have:=of_decide_eq_false g1;omega)))) rfl ?_;intro f h
    refine ac h (aJ (h.ev rfl) (h.ev rfl)) rfl ?_;intro f h
    refine ac h (ag (h.ev rfl)) rfl ?_;intro f h
    refine aC (b:=true) h rfl rfl rfl rfl ?_;intro f h
    refine aC (b:=true) h rfl rfl rfl rfl ?_;intro f h
    refine aC (b:=true) h rfl rfl rfl rfl ?_;intro f h
    refine aC (b:=true) h rfl rfl rfl rfl ?_;intro f h
    refine ac h (aE (h.ev rfl) (h.ev rfl)) rfl ?_;intro f h
    refine ac h (ai (h.ev rfl)) rfl ?_;intro f h
    refine ah ?_
    refine hK4 _ _ ?_
    refine wpIn_ret ?_
    exact aX rfl h s rfl (by show _=_;rw [tT hno g1])
   ·skip
    refine ae ?_
    have hno:¬ (l.length=1∧l.getD 0 a8=m):=(by rintro ⟨h9,h8⟩;exact absurd h9 (of_decide_eq_false h1))
    refine ac h (ag (h.ev rfl)) rfl ?_;intro f h
    refine ac h (aY (hR.keep s.ext) Tryz.underlying36 (h.ev rfl)) rfl ?_;intro f h
    refine ac h (aw (.bool true) (c0 (h.ev rfl) (h.ev rfl)) (congrArg Value.bool (decide_eq_true (by have:=of_decide_eq_true g0;omega)))) rfl ?_;intro f h
    refine ac h (ag (h.ev rfl)) rfl ?_;intro f h
    refine aB h rfl rfl rfl ?_
    refine ac h (ag (h.ev rfl)) rfl ?_;intro f h
    refine aB h rfl rfl rfl ?_
    refine ac h (aY (hR.keep s.ext) Tryz.underlying36 (h.ev rfl)) rfl ?_;intro f h
    refine aB h rfl rfl rfl ?_
    refine ac h (aw (.bool true) (fH (h.ev rfl) (h.ev rfl)) (congrArg Value.bool (decide_eq_true (by have:=of_decide_eq_true g1;omega)))) rfl ?_;intro f h
    refine ac h (aJ (h.ev rfl) (h.ev rfl)) rfl ?_;intro f h
    refine ac h (ag (h.ev rfl)) rfl ?_;intro f h
    refine aB h rfl rfl rfl ?_
    refine ac h (ag (h.ev rfl)) rfl ?_;intro f h
    refine aB h rfl rfl rfl ?_
    refine ac h (al aP (h.ev rfl)) rfl ?_;intro f h
    refine aB h rfl rfl rfl ?_
    refine ar (am (bc.of_own s 0 rfl) 0 (aV _)) h bO rfl rfl ?_;intro f h
    refine aB h rfl rfl rfl ?_
    refine aF h s qd (js l vh m.1 _ (hR.keep s.ext) hln) rfl rfl ?_;intro f w1 v9 hT hE h s;obtain rfl:=hT
    refine ac h (aJ (h.ev rfl) (h.ev rfl)) rfl ?_;intro f h
    refine ac h (ai (h.ev rfl)) rfl ?_;intro f h
    refine ah ?_
    refine hK4 _ _ ?_
    refine wpIn_ret ?_
    exact aX rfl h s rfl (by show _=_;rw [uO hno g0 g1])
 ·skip
  cases h2:(decide (l.getD 0 a8=m):Bool)
  ·skip
   refine bJ 10 [[],[0],[0,1],[0,1,2],[0,1,2,3],[0,1,2,3,4],[0,1,2,3,4,5],[0,1,2,3],[0,1,2,3,4,5,6,7],[0,1,2,3,4,5,6,7,8]] h (by kernel_rfl) (by kernel_rfl) (by kernel_rfl) ?_
   refine ap h (ag (h.ev rfl)) rfl ?_;intro f h
   refine ap h (aY (hR.keep s.ext) Tryz.underlying36 (h.ev rfl)) rfl ?_;intro f h
   refine ap h (aw (.bool true) (cc (h.ev rfl) (h.ev rfl)) (congrArg Value.bool (decide_eq_true (by have:=of_decide_eq_true h1;omega)))) rfl ?_;intro f h
   refine ap h (ag (h.ev rfl)) rfl ?_;intro f h
   refine bi h rfl rfl rfl ?_
   refine ap h (ag (h.ev rfl)) rfl ?_;intro f h
   refine bi h rfl rfl rfl ?_
   have h19:=of_decide_eq_true h1
   refine ap h (ce (hR.keep s.ext) (0) Tryz.underlying36 cG (h.ev rfl) (h.ev rfl) (by omega) (by omega)) rfl ?_;intro f h
   refine bi h rfl rfl rfl ?_
   refine bz ((hR.keep s.ext).el (0) (by omega) (by decide) (D:=au (l.getD 0 a8)) (cK l 0 (by omega))) h aL rfl (ak _) rfl ?_;intro f h
   refine bi h rfl rfl rfl ?_
   refine br 0 h s aL rfl rfl (ak _) rfl ?_;intro f h
   refine bi h rfl rfl rfl ?_
   refine ap h (aw (.bool false) (c4 (gM _ _) (by kernel_rfl) (by decide) (h.ev rfl) (h.ev rfl) (decide (l.getD 0 a8=m)) (dE _ _)) (congrArg Value.bool h2)) rfl ?_;intro f h
   refine ap h (aJ (h.ev rfl) (h.ev rfl)) rfl ?_;intro f h
   refine cn s fun w1 s=>?_
   refine ah ?_
   refine hK3 _ _ ?_
   refine wpIn_cond_false (h.ev rfl) ?_
   refine wpIn_skip ?_
   refine hK2 _ _ ?_
   refine aj fun K5 hK5=>?_
   cases g0:(decide (1≤l.length):Bool)
   ·skip
    refine ae ?_
    have hno:¬ (l.length=1∧l.getD 0 a8=m):=(by rintro ⟨h9,h8⟩;exact absurd h8 (of_decide_eq_false h2))
    refine ac h (ag (h.ev rfl)) rfl ?_;intro f h
    refine ac h (aY (hR.keep s.ext) Tryz.underlying36 (h.ev rfl)) rfl ?_;intro f h
    refine ac h (aw (.bool false) (c0 (h.ev rfl) (h.ev rfl)) (congrArg Value.bool (decide_eq_false (by have:=of_decide_eq_false g0;omega)))) rfl ?_;intro f h
    refine ac h (ag (h.ev rfl)) rfl ?_;intro f h
    refine aC (b:=true) h rfl rfl rfl rfl ?_;intro f h
    refine aC (b:=true) h rfl rfl rfl rfl ?_;intro f h
    refine aC (b:=true) h rfl rfl rfl rfl ?_;intro f h
    refine ac h (aE (h.ev rfl) (h.ev rfl)) rfl ?_;intro f h
    refine ac h (ag (h.ev rfl)) rfl ?_;intro f h
    refine aC (b:=true) h rfl rfl rfl rfl ?_;intro f h
    refine aC (b:=true) h rfl rfl rfl rfl ?_;intro f h
    refine aC (b:=true) h rfl rfl rfl rfl ?_;intro f h
    refine aC (b:=true) h rfl rfl rfl rfl ?_;intro f h
    refine ac h (aE (h.ev rfl) (h.ev rfl)) rfl ?_;intro f h
    refine ac h (ai (h.ev rfl)) rfl ?_;intro f h
    refine ah ?_
    refine hK5 _ _ ?_
    refine wpIn_ret ?_
    exact aX rfl h s rfl (by show _=_;rw [tM hno g0])
   ·skip
    cases g1:(decide (l.length≤4):Bool)
    ·skip
     refine ae ?_
     have hno:¬ (l.length=1∧l.getD 0 a8=m):=(by rintro ⟨h9,h8⟩;exact absurd h8 (of_decide_eq_false h2))
     refine ac h (ag (h.ev rfl)) rfl ?_;intro f h
     refine ac h (aY (hR.keep s.ext) Tryz.underlying36 (h.ev rfl)) rfl ?_;intro f h
     refine ac h (aw (.bool true) (c0 (h.ev rfl) (h.ev rfl)) (congrArg Value.bool (decide_eq_true (by have:=of_decide_eq_true g0;omega)))) rfl ?_;intro f h
     refine ac h (ag (h.ev rfl)) rfl ?_;intro f h
     refine aB h rfl rfl rfl ?_
     refine ac h (ag (h.ev rfl)) rfl ?_;intro f h
     refine aB h rfl rfl rfl ?_
     refine ac h (aY (hR.keep s.ext) Tryz.underlying36 (h.ev rfl)) rfl ?_;intro f h
     refine aB h rfl rfl rfl ?_
     refine ac h (aw (.bool false) (fH (h.ev rfl) (h.ev rfl)) (congrArg Value.bool (decide_eq_false (by have:=of_decide_eq_false g1;omega)))) rfl ?_;intro f h
     refine ac h (aJ (h.ev rfl) (h.ev rfl)) rfl ?_;intro f h
     refine ac h (ag (h.ev rfl)) rfl ?_;intro f h
     refine aC (b:=true) h rfl rfl rfl rfl ?_;intro f h
     refine aC (b:=true) h rfl rfl rfl rfl ?_;intro f h
     refine aC (b:=true) h rfl rfl rfl rfl ?_;intro f h
     refine aC (b:=true) h rfl rfl rfl rfl ?_;intro f h
     refine ac h (aE (h.ev rfl) (h.ev rfl)) rfl ?_;intro f h
     refine ac h (ai (h.ev rfl)) rfl ?_;intro f h
     refine ah ?_
     refine hK5 _ _ ?_
     refine wpIn_ret ?_
     exact aX rfl h s rfl (by show _=_;rw [tT hno g1])
    ·skip
     refine ae ?_
     have hno:¬ (l.length=1∧l.getD 0 a8=m):=(by rintro ⟨h9,h8⟩;exact absurd h8 (of_decide_eq_false h2))
     refine ac h (ag (h.ev rfl)) rfl ?_;intro f h
     refine ac h (aY (hR.keep s.ext) Tryz.underlying36 (h.ev rfl)) rfl ?_;intro f h
     refine ac h (aw (.bool true) (c0 (h.ev rfl) (h.ev rfl)) (congrArg Value.bool (decide_eq_true (by have:=of_decide_eq_true g0;omega)))) rfl ?_;intro f h
     refine ac h (ag (h.ev rfl)) rfl ?_;intro f h
     refine aB h rfl rfl rfl ?_
     refine ac h (ag (h.ev rfl)) rfl ?_;intro f h
     refine aB h rfl rfl rfl ?_
     refine ac h (aY (hR.keep s.ext) Tryz.underlying36 (h.ev rfl)) rfl ?_;intro f h
     refine aB h rfl rfl rfl ?_
     refine ac h (aw (.bool true) (fH (h.ev rfl) (h.ev rfl)) (congrArg Value.bool (decide_eq_true (by have:=of_decide_eq_true g1;omega)))) rfl ?_;intro f h
     refine ac h (aJ (h.ev rfl) (h.ev rfl)) rfl ?_;intro f h
     refine ac h (ag (h.ev rfl)) rfl ?_;intro f h
     refine aB h rfl rfl rfl ?_
     refine ac h (ag (h.ev rfl)) rfl ?_;intro f h
     refine aB h rfl rfl rfl ?_
     refine ac h (al aP (h.ev rfl)) rfl ?_;intro f h
     refine aB h rfl rfl rfl ?_
     refine ar (am (bc.of_own s 0 rfl) 0 (aV _)) h bO rfl rfl ?_;intro f h
     refine aB h rfl rfl rfl ?_
     refine aF h s qd (js l vh m.1 _ (hR.keep s.ext) hln) rfl rfl ?_;intro f w1 v9 hT hE h s;obtain rfl:=hT
     refine ac h (aJ (h.ev rfl) (h.ev rfl)) rfl ?_;intro f h
     refine ac h (ai (h.ev rfl)) rfl ?_;intro f h
     refine ah ?_
     refine hK5 _ _ ?_
     refine wpIn_ret ?_
     exact aX rfl h s rfl (by show _=_;rw [uO hno g0 g1])
  ·skip
   refine bJ 10 [[],[0],[0,1],[0,1,2],[0,1,2,3],[0,1,2,3,4],[0,1,2,3,4,5],[0,1,2,3],[0,1,2,3,4,5,6,7],[0,1,2,3,4,5,6,7,8]] h (by kernel_rfl) (by kernel_rfl) (by kernel_rfl) ?_
   refine ap h (ag (h.ev rfl)) rfl ?_;intro f h
   refine ap h (aY (hR.keep s.ext) Tryz.underlying36 (h.ev rfl)) rfl ?_;intro f h
   refine ap h (aw (.bool true) (cc (h.ev rfl) (h.ev rfl)) (congrArg Value.bool (decide_eq_true (by have:=of_decide_eq_true h1;omega)))) rfl ?_;intro f h
   refine ap h (ag (h.ev rfl)) rfl ?_;intro f h
   refine bi h rfl rfl rfl ?_
   refine ap h (ag (h.ev rfl)) rfl ?_;intro f h
   refine bi h rfl rfl rfl ?_
   have h19:=of_decide_eq_true h1
   refine ap h (ce (hR.keep s.ext) (0) Tryz.underlying36 cG (h.ev rfl) (h.ev rfl) (by omega) (by omega)) rfl ?_;intro f h
   refine bi h rfl rfl rfl ?_
   refine bz ((hR.keep s.ext).el (0) (by omega) (by decide) (D:=au (l.getD 0 a8)) (cK l 0 (by omega))) h aL rfl (ak _) rfl ?_;intro f h
   refine bi h rfl rfl rfl ?_
   refine br 0 h s aL rfl rfl (ak _) rfl ?_;intro f h
   refine bi h rfl rfl rfl ?_
   refine ap h (aw (.bool true) (c4 (gM _ _) (by kernel_rfl) (by decide) (h.ev rfl) (h.ev rfl) (decide (l.getD 0 a8=m)) (dE _ _)) (congrArg Value.bool h2)) rfl ?_;intro f h
   refine ap h (aJ (h.ev rfl) (h.ev rfl)) rfl ?_;intro f h
   refine cn s fun w1 s=>?_
   refine ah ?_
   refine hK3 _ _ ?_
   refine wpIn_cond_true (h.ev rfl) ?_
   refine aj fun K6 hK6=>?_
   refine ae ?_
   refine ac h (ai (h.ev rfl)) rfl ?_;intro f h
   refine ah ?_
   refine hK6 _ _ ?_
   refine wpIn_ret ?_
   refine aQ ?_
   exact aX rfl h s rfl (by show _=_;rw [tD h1 h2])
theorem tK (l:List Mb) (vh:Value) (no:Int) (w:World) (hR:bK w vh 33 l.length (av l)) (hln:l.length≤1000):Calls Tryz.prog 82 [vh,.int .i64 no].toArray w (cT w (is (.bool (jw l no)))):=by
 refine bj Tryz.func82 rfl Tryz.ntmps82 rfl [(0,vh),(1,.int .i64 no)] (by simp) fun f h=>?_
 have s:=St.start w
 refine aj fun K1 hK1=>?_
 refine ae ?_
 refine ac h (ai (h.ev rfl)) rfl ?_;intro f h
 refine ah ?_
 refine hK1 _ _ ?_
 refine aj fun K2 hK2=>?_
 cases g0:(decide (l.length≤16):Bool)
 ·skip
  refine ae ?_
  refine ac h (ag (h.ev rfl)) rfl ?_;intro f h
  refine ac h (aY (hR.keep s.ext) Tryz.underlying36 (h.ev rfl)) rfl ?_;intro f h
  refine ac h (aw (.bool false) (fH (h.ev rfl) (h.ev rfl)) (congrArg Value.bool (decide_eq_false (by have:=of_decide_eq_false g0;omega)))) rfl ?_;intro f h
  refine ac h (ag (h.ev rfl)) rfl ?_;intro f h
  refine aC (b:=true) h rfl rfl rfl rfl ?_;intro f h
  refine aC (b:=true) h rfl rfl rfl rfl ?_;intro f h
  refine aC (b:=true) h rfl rfl rfl rfl ?_;intro f h
  refine ac h (aE (h.ev rfl) (h.ev rfl)) rfl ?_;intro f h
  refine ac h (ai (h.ev rfl)) rfl ?_;intro f h
  refine ah ?_
  refine hK2 _ _ ?_
  refine wpIn_ret ?_
  exact aX rfl h s rfl (by show _=_;rw [ye g0])
 ·skip
  refine ae ?_
  refine ac h (ag (h.ev rfl)) rfl ?_;intro f h
  refine ac h (aY (hR.keep s.ext) Tryz.underlying36 (h.ev rfl)) rfl ?_;intro f h
  refine ac h (aw (.bool true) (fH (h.ev rfl) (h.ev rfl)) (congrArg Value.bool (decide_eq_true (by have:=of_decide_eq_true g0;omega)))) rfl ?_;intro f h
  refine ac h (ag (h.ev rfl)) rfl ?_;intro f h
  refine aB h rfl rfl rfl ?_
  refine ac h (ag (h.ev rfl)) rfl ?_;intro f h
  refine aB h rfl rfl rfl ?_
  refine ac h (ag (h.ev rfl)) rfl ?_;intro f h
  refine aB h rfl rfl rfl ?_
  refine aF h s qd (js l vh no _ (hR.keep s.ext) hln) rfl rfl ?_;intro f w1 v9 hT hE h s;obtain rfl:=hT
  refine ac h (aJ (h.ev rfl) (h.ev rfl)) rfl ?_;intro f h
  refine ac h (ai (h.ev rfl)) rfl ?_;intro f h
  refine ah ?_
  refine hK2 _ _ ?_
  refine wpIn_ret ?_
  exact aX rfl h s rfl (by show _=_;rw [xL g0])
theorem ef (n:Nd) (vs vf:Value) (w:World) (hRs:bK w vs 33 n.sc.length (av n.sc)) (hRf:bK w vf 33 n.fg.length (av n.fg)) (hns:n.sc.length≤1000) (hnf:n.fg.length≤1000):Calls Tryz.prog 48 [.agg (aD n.me n.pr vs vf)].toArray w (cT w (is (.bool (cM n)))):=by
 refine bj Tryz.func48 rfl Tryz.ntmps48 rfl [(0,.agg (aD n.me n.pr vs vf))] (by simp) fun f h=>?_
 have s:=St.start w
 refine aj fun K1 hK1=>?_
 refine ae ?_
 refine bT (aD n.me n.pr vs vf) h s rfl rfl rfl ?_;intro f w1 b1 h s
 refine ac h (ai (h.ev rfl)) rfl ?_;intro f h
 refine ah ?_
 refine hK1 _ _ ?_
 refine aj fun K2 hK2=>?_
 cases h0:(dd n.me:Bool)
 ·skip
  refine ae ?_
  refine ac h (al a6 (h.ev rfl)) rfl ?_;intro f h
  refine aM (bc.subL (bc.of_own s 0 rfl) 0 33 (D:=au n.me) (bU _ _ _ _)) h aL rfl (ak _) rfl ?_;intro f h
  refine aF h s fu (aO (.bool false) (da n.me _) (congrArg Value.bool h0)) rfl rfl ?_;intro f w1 v9 hT hE h s;obtain rfl:=hT
  refine ac h (ag (h.ev rfl)) rfl ?_;intro f h
  refine aC (b:=true) h rfl rfl rfl rfl ?_;intro f h
  refine aC (b:=true) h rfl rfl rfl rfl ?_;intro f h
  refine aC (b:=true) h rfl rfl rfl rfl ?_;intro f h
  refine aC (b:=true) h rfl rfl rfl rfl ?_;intro f h
  refine aC (b:=true) h rfl rfl rfl rfl ?_;intro f h
  refine aC (b:=true) h rfl rfl rfl rfl ?_;intro f h
  refine ac h (aE (h.ev rfl) (h.ev rfl)) rfl ?_;intro f h
  refine ac h (ag (h.ev rfl)) rfl ?_;intro f h
  refine aC (b:=true) h rfl rfl rfl rfl ?_;intro f h
  refine aC (b:=true) h rfl rfl rfl rfl ?_;intro f h
  refine aC (b:=true) h rfl rfl rfl rfl ?_;intro f h
  refine aC (b:=true) h rfl rfl rfl rfl ?_;intro f h
  refine aC (b:=true) h rfl rfl rfl rfl ?_;intro f h
  refine ac h (aE (h.ev rfl) (h.ev rfl)) rfl ?_;intro f h
  refine ac h (ag (h.ev rfl)) rfl ?_;intro f h
  refine aC (b:=true) h rfl rfl rfl rfl ?_;intro f h
  refine aC (b:=true) h rfl rfl rfl rfl ?_;intro f h
  refine aC (b:=true) h rfl rfl rfl rfl ?_;intro f h
  refine aC (b:=true) h rfl rfl rfl rfl ?_;intro f h
  refine aC (b:=true) h rfl rfl rfl rfl ?_;intro f h
  refine aC (b:=true) h rfl rfl rfl rfl ?_;intro f h
  refine ac h (aE (h.ev rfl) (h.ev rfl)) rfl ?_;intro f h
  refine ac h (ai (h.ev rfl)) rfl ?_;intro f h
  refine ah ?_
  refine hK2 _ _ ?_
  refine wpIn_ret ?_
  exact aX rfl h s rfl (by show _=_;rw [rH h0])
 ·skip
  cases h1:(i8 n.pr n.me.1:Bool)
  ·skip
   refine ae ?_
   refine ac h (al a6 (h.ev rfl)) rfl ?_;intro f h
   refine aM (bc.subL (bc.of_own s 0 rfl) 0 33 (D:=au n.me) (bU _ _ _ _)) h aL rfl (ak _) rfl ?_;intro f h
   refine aF h s fu (aO (.bool true) (da n.me _) (congrArg Value.bool h0)) rfl rfl ?_;intro f w1 v9 hT hE h s;obtain rfl:=hT
   refine ac h (ag (h.ev rfl)) rfl ?_;intro f h
   refine aB h rfl rfl rfl ?_
   refine ac h (al cy (h.ev rfl)) rfl ?_;intro f h
   refine aB h rfl rfl rfl ?_
   refine aM (bc.subL (bc.of_own s 0 rfl) 33 33 (D:=au n.pr) (co _ _ _ _)) h aL rfl (ak _) rfl ?_;intro f h
   refine aB h rfl rfl rfl ?_
   refine ac h (al a6 (h.ev rfl)) rfl ?_;intro f h
   refine aB h rfl rfl rfl ?_
   refine ac h (al aP (h.ev rfl)) rfl ?_;intro f h
   refine aB h rfl rfl rfl ?_
   refine ar (am (bc.of_own s 0 rfl) 0 (bY _ _ _ _)) h bO rfl rfl ?_;intro f h
   refine aB h rfl rfl rfl ?_
   refine aF h s vd (aO (.bool false) (nI n.pr n.me.1 _) (congrArg Value.bool h1)) rfl rfl ?_;intro f w1 v9 hT hE h s;obtain rfl:=hT
   refine ac h (aJ (h.ev rfl) (h.ev rfl)) rfl ?_;intro f h
   refine ac h (ag (h.ev rfl)) rfl ?_;intro f h
   refine aC (b:=true) h rfl rfl rfl rfl ?_;intro f h
   refine aC (b:=true) h rfl rfl rfl rfl ?_;intro f h
   refine aC (b:=true) h rfl rfl rfl rfl ?_;intro f h
   refine aC (b:=true) h rfl rfl rfl rfl ?_;intro f h
   refine aC (b:=true) h rfl rfl rfl rfl ?_;intro f h
   refine ac h (aE (h.ev rfl) (h.ev rfl)) rfl ?_;intro f h
   refine ac h (ag (h.ev rfl)) rfl ?_;intro f h
   refine aC (b:=true) h rfl rfl rfl rfl ?_;intro f h
   refine aC (b:=true) h rfl rfl rfl rfl ?_;intro f h
   refine aC (b:=true) h rfl rfl rfl rfl ?_;intro f h
   refine aC (b:=true) h rfl rfl rfl rfl ?_;intro f h
   refine aC (b:=true) h rfl rfl rfl rfl ?_;intro f h
   refine aC (b:=true) h rfl rfl rfl rfl ?_;intro f h
   refine ac h (aE (h.ev rfl) (h.ev rfl)) rfl ?_;intro f h
   refine ac h (ai (h.ev rfl)) rfl ?_;intro f h
   refine ah ?_
   refine hK2 _ _ ?_
   refine wpIn_ret ?_
   exact aX rfl h s rfl (by show _=_;rw [nt h1])
  ·skip
   cases h2:(gY n.sc n.me:Bool)
   ·skip
    refine ae ?_
    refine ac h (al a6 (h.ev rfl)) rfl ?_;intro f h
    refine aM (bc.subL (bc.of_own s 0 rfl) 0 33 (D:=au n.me) (bU _ _ _ _)) h aL rfl (ak _) rfl ?_;intro f h
    refine aF h s fu (aO (.bool true) (da n.me _) (congrArg Value.bool h0)) rfl rfl ?_;intro f w1 v9 hT hE h s;obtain rfl:=hT
    refine ac h (ag (h.ev rfl)) rfl ?_;intro f h
    refine aB h rfl rfl rfl ?_
    refine ac h (al cy (h.ev rfl)) rfl ?_;intro f h
    refine aB h rfl rfl rfl ?_
    refine aM (bc.subL (bc.of_own s 0 rfl) 33 33 (D:=au n.pr) (co _ _ _ _)) h aL rfl (ak _) rfl ?_;intro f h
    refine aB h rfl rfl rfl ?_
    refine ac h (al a6 (h.ev rfl)) rfl ?_;intro f h
    refine aB h rfl rfl rfl ?_
    refine ac h (al aP (h.ev rfl)) rfl ?_;intro f h
    refine aB h rfl rfl rfl ?_
    refine ar (am (bc.of_own s 0 rfl) 0 (bY _ _ _ _)) h bO rfl rfl ?_;intro f h
    refine aB h rfl rfl rfl ?_
    refine aF h s vd (aO (.bool true) (nI n.pr n.me.1 _) (congrArg Value.bool h1)) rfl rfl ?_;intro f w1 v9 hT hE h s;obtain rfl:=hT
    refine ac h (aJ (h.ev rfl) (h.ev rfl)) rfl ?_;intro f h
    refine ac h (ag (h.ev rfl)) rfl ?_;intro f h
    refine aB h rfl rfl rfl ?_
    refine ac h (al bI (h.ev rfl)) rfl ?_;intro f h
    refine aB h rfl rfl rfl ?_
    refine ar (V:=vs) (am (bc.of_own s 0 rfl) 66 (bC _ _ _ _)) h bH rfl rfl ?_;intro f h
    refine aB h rfl rfl rfl ?_
    refine ac h (al a6 (h.ev rfl)) rfl ?_;intro f h
    refine aB h rfl rfl rfl ?_
    refine aM (bc.subL (bc.of_own s 0 rfl) 0 33 (D:=au n.me) (bU _ _ _ _)) h aL rfl (ak _) rfl ?_;intro f h
    refine aB h rfl rfl rfl ?_
    refine aF h s xN (aO (.bool false) (qQ n.sc vs n.me _ (hRs.keep s.ext) hns) (congrArg Value.bool h2)) rfl rfl ?_;intro f w1 v9 hT hE h s;obtain rfl:=hT
    refine ac h (aJ (h.ev rfl) (h.ev rfl)) rfl ?_;intro f h
    refine ac h (ag (h.ev rfl)) rfl ?_;intro f h
    refine aC (b:=true) h rfl rfl rfl rfl ?_;intro f h
    refine aC (b:=true) h rfl rfl rfl rfl ?_;intro f h
    refine aC (b:=true) h rfl rfl rfl rfl ?_;intro f h
    refine aC (b:=true) h rfl rfl rfl rfl ?_;intro f h
    refine aC (b:=true) h rfl rfl rfl rfl ?_;intro f h
    refine aC (b:=true) h rfl rfl rfl rfl ?_;intro f h
    refine ac h (aE (h.ev rfl) (h.ev rfl)) rfl ?_;intro f h
    refine ac h (ai (h.ev rfl)) rfl ?_;intro f h
    refine ah ?_
    refine hK2 _ _ ?_
    refine wpIn_ret ?_
    exact aX rfl h s rfl (by show _=_;rw [jQ h2])
   ·skip
    refine ae ?_
    refine ac h (al a6 (h.ev rfl)) rfl ?_;intro f h
    refine aM (bc.subL (bc.of_own s 0 rfl) 0 33 (D:=au n.me) (bU _ _ _ _)) h aL rfl (ak _) rfl ?_;intro f h
    refine aF h s fu (aO (.bool true) (da n.me _) (congrArg Value.bool h0)) rfl rfl ?_;intro f w1 v9 hT hE h s;obtain rfl:=hT
    refine ac h (ag (h.ev rfl)) rfl ?_;intro f h
    refine aB h rfl rfl rfl ?_
    refine ac h (al cy (h.ev rfl)) rfl ?_;intro f h
    refine aB h rfl rfl rfl ?_
    refine aM (bc.subL (bc.of_own s 0 rfl) 33 33 (D:=au n.pr) (co _ _ _ _)) h aL rfl (ak _) rfl ?_;intro f h
    refine aB h rfl rfl rfl ?_
    refine ac h (al a6 (h.ev rfl)) rfl ?_;intro f h
    refine aB h rfl rfl rfl ?_
    refine ac h (al aP (h.ev rfl)) rfl ?_;intro f h
    refine aB h rfl rfl rfl ?_
    refine ar (am (bc.of_own s 0 rfl) 0 (bY _ _ _ _)) h bO rfl rfl ?_;intro f h
    refine aB h rfl rfl rfl ?_
    refine aF h s vd (aO (.bool true) (nI n.pr n.me.1 _) (congrArg Value.bool h1)) rfl rfl ?_;intro f w1 v9 hT hE h s;obtain rfl:=hT
    refine ac h (aJ (h.ev rfl) (h.ev rfl)) rfl ?_;intro f h
    refine ac h (ag (h.ev rfl)) rfl ?_;intro f h
    refine aB h rfl rfl rfl ?_
    refine ac h (al bI (h.ev rfl)) rfl ?_;intro f h
    refine aB h rfl rfl rfl ?_
    refine ar (V:=vs) (am (bc.of_own s 0 rfl) 66 (bC _ _ _ _)) h bH rfl rfl ?_;intro f h
    refine aB h rfl rfl rfl ?_
    refine ac h (al a6 (h.ev rfl)) rfl ?_;intro f h
    refine aB h rfl rfl rfl ?_
    refine aM (bc.subL (bc.of_own s 0 rfl) 0 33 (D:=au n.me) (bU _ _ _ _)) h aL rfl (ak _) rfl ?_;intro f h
    refine aB h rfl rfl rfl ?_
    refine aF h s xN (aO (.bool true) (qQ n.sc vs n.me _ (hRs.keep s.ext) hns) (congrArg Value.bool h2)) rfl rfl ?_;intro f w1 v9 hT hE h s;obtain rfl:=hT
    refine ac h (aJ (h.ev rfl) (h.ev rfl)) rfl ?_;intro f h
    refine ac h (ag (h.ev rfl)) rfl ?_;intro f h
    refine aB h rfl rfl rfl ?_
    refine ac h (al cC (h.ev rfl)) rfl ?_;intro f h
    refine aB h rfl rfl rfl ?_
    refine ar (V:=vf) (am (bc.of_own s 0 rfl) 67 (cB _ _ _ _)) h bH rfl rfl ?_;intro f h
    refine aB h rfl rfl rfl ?_
    refine ac h (al a6 (h.ev rfl)) rfl ?_;intro f h
    refine aB h rfl rfl rfl ?_
    refine ac h (al aP (h.ev rfl)) rfl ?_;intro f h
    refine aB h rfl rfl rfl ?_
    refine ar (am (bc.of_own s 0 rfl) 0 (bY _ _ _ _)) h bO rfl rfl ?_;intro f h
    refine aB h rfl rfl rfl ?_
    refine aF h s z6 (tK n.fg vf n.me.1 _ (hRf.keep s.ext) hnf) rfl rfl ?_;intro f w1 v9 hT hE h s;obtain rfl:=hT
    refine ac h (aJ (h.ev rfl) (h.ev rfl)) rfl ?_;intro f h
    refine ac h (ai (h.ev rfl)) rfl ?_;intro f h
    refine ah ?_
    refine hK2 _ _ ?_
    refine wpIn_ret ?_
    exact aX rfl h s rfl (by show _=_;rw [wJ h0 h1 h2])
theorem sC (l:List Mb) (hln:l.length≤1000) (a9:Option Addr) (n9 c9:Nat) (w:World) (hR:bK w (.slice a9 n9 c9) 33 l.length (av l)):Calls Tryz.prog 71 [.slice a9 n9 c9].toArray w (cT w (fun v w'=>cN w' w.heap.size 28 33 v l.length (av l))):=by
 refine bj Tryz.func71 rfl Tryz.ntmps71 rfl [(0,.slice a9 n9 c9)] (by simp) fun f h=>?_
 have s:=St.start w
 refine aj fun K1 hK1=>?_
 refine ae ?_
 refine ac h (ai (h.ev rfl)) rfl ?_;intro f h
 refine ah ?_
 refine hK1 _ _ ?_
 refine aj fun K2 hK2=>?_
 refine aj fun K3 hK3=>?_
 cases hn:(a9.isNone:Bool)
 ·skip
  refine ae ?_
  refine ac h (ag (h.ev rfl)) rfl ?_;intro f h
  refine ac h (aw (.bool false) (fU Tryz.underlying36 (h.ev rfl) (h.ev rfl)) (congrArg Value.bool hn)) rfl ?_;intro f h
  refine ah ?_
  refine hK3 _ _ ?_
  refine wpIn_cond_false (h.ev rfl) ?_
  refine wpIn_skip ?_
  refine hK2 _ _ ?_
  refine aj fun K4 hK4=>?_
  refine ae ?_
  refine mN (base:=w.heap.size) h Tryz.underlying36 dD (Nat.le_refl _) rfl ?_;intro f w2 v5 h hE3 e5
  refine ac h (ag (h.ev rfl)) rfl ?_;intro f h
  refine jU (base:=w.heap.size) e5 (hR.keep hE3) h Tryz.underlying36 dD rfl rfl hE3.le (fe _) (by unfold maxLen;omega) (by omega) rfl ?_;intro f w3 v7 h hE4 e7
  replace s:=s.sl_new (hE3.trans hE4) e7
  refine ac h (ai (h.ev rfl)) rfl ?_;intro f h
  refine ah ?_
  refine hK4 _ _ ?_
  refine wpIn_ret ?_
  exact aX rfl h s rfl (s.getSl 0 rfl)
 ·skip
  refine ae ?_
  refine ac h (ag (h.ev rfl)) rfl ?_;intro f h
  refine ac h (aw (.bool true) (fU Tryz.underlying36 (h.ev rfl) (h.ev rfl)) (congrArg Value.bool hn)) rfl ?_;intro f h
  refine ah ?_
  refine hK3 _ _ ?_
  refine wpIn_cond_true (h.ev rfl) ?_
  refine aj fun K5 hK5=>?_
  refine ae ?_
  refine ac h (ai (h.ev rfl)) rfl ?_;intro f h
  refine ah ?_
  refine hK5 _ _ ?_
  refine wpIn_ret ?_
  refine aQ ?_
  exact aX rfl h s rfl (by obtain rfl:=qn hn hR;exact gf _ _ _ _)
theorem gv (l:List Mb) (hln:l.length≤1000) (v9:Value) (w:World) (hR:bK w v9 33 l.length (av l)):Calls Tryz.prog 71 [v9].toArray w (cT w (fun v w'=>cN w' w.heap.size 28 33 v l.length (av l))):=by
 obtain ⟨a,c,rfl⟩:=hR.len
 exact sC l hln a _ c w hR
theorem pU (n:Nd) (vs vf:Value) (w:World) (hRs:bK w vs 33 n.sc.length (av n.sc)) (hRf:bK w vf 33 n.fg.length (av n.fg)) (hns:n.sc.length≤1000) (hnf:n.fg.length≤1000):Calls Tryz.prog 56 [.agg (aD n.me n.pr vs vf)].toArray w (cT w (AM w 28 n)):=by
 refine bj Tryz.func56 rfl Tryz.ntmps56 rfl [(0,.agg (aD n.me n.pr vs vf))] (by simp) fun f h=>?_
 have s:=St.start w
 refine aj fun K1 hK1=>?_
 refine ae ?_
 refine bT (aD n.me n.pr vs vf) h s rfl rfl rfl ?_;intro f w1 b1 h s
 refine ba (aD a8 a8 bo bo) h s dH rfl rfl ?_;intro f w1 b2 h s
 refine ah ?_
 refine hK1 _ _ ?_
 refine aj fun K2 hK2=>?_
 refine ae ?_
 refine ac h (al bI (h.ev rfl)) rfl ?_;intro f h
 refine ar (V:=vs) (am (bc.of_own s 1 rfl) 66 (bC _ _ _ _)) h bH rfl rfl ?_;intro f h
 refine aF h s ri (gv n.sc hns vs _ (hRs.keep s.ext)) rfl rfl ?_;intro f w1 v5 hT hE h sq;replace s:=s.sl_new hE hT
 refine ac h (al bI (h.ev rfl)) rfl ?_;intro f h
 refine bp 2 h s bH rfl rfl rfl (by rw [aA];omega) (bP (s.getSl 0 rfl)) ?_;intro w1 s
 replace s:=s.recell (D:=aD n.me n.pr v5 vf) 2 rfl (jG _ _ _ _ _)
 refine ah ?_
 refine hK2 _ _ ?_
 refine aj fun K3 hK3=>?_
 refine ae ?_
 refine ac h (al cC (h.ev rfl)) rfl ?_;intro f h
 refine ar (V:=vf) (am (bc.of_own s 2 rfl) 67 (cB _ _ _ _)) h bH rfl rfl ?_;intro f h
 refine aF h s ri (gv n.fg hnf vf _ (hRf.keep s.ext)) rfl rfl ?_;intro f w1 v9 hT hE h sq;replace s:=s.sl_new hE hT
 refine ac h (al cC (h.ev rfl)) rfl ?_;intro f h
 refine bp 3 h s bH rfl rfl rfl (by rw [aA];omega) (bP (s.getSl 0 rfl)) ?_;intro w1 s
 replace s:=s.recell (D:=aD n.me n.pr v5 v9) 3 rfl (jA _ _ _ _ _)
 refine ah ?_
 refine hK3 _ _ ?_
 refine aj fun K4 hK4=>?_
 refine ae ?_
 refine ao 3 h s bS rfl rfl (aA _ _ _ _) rfl ?_;intro f h
 refine ay 2 h s bS rfl rfl rfl (aA _ _ _ _) (aA _ _ _ _) (bW (bP (s.getSl 1 rfl)) (bP (s.getSl 0 rfl))) ?_;intro w1 s
 refine ah ?_
 refine hK4 _ _ ?_
 refine wpIn_ret ?_
 exact d7 2 rfl h s bS rfl rfl (aA _ _ _ _) (zv rfl (s.sel [1,0] rfl (by decide)))
end Go.Proofs.YthggibfkgofncaaGreat
