/- Which overlays are stable, by the reference. -/
import Derived.Test.YthggibfkgofncaaGreatVa
import Derived.Test.YthggibfkgofncaaGreatVd
import Derived.Test.YthggibfkgofncaaGreatVe
set_option linter.unusedVariables false
set_option linter.unusedSimpArgs false
set_option linter.unusedSectionVars false
namespace Go.Proofs.YthggibfkgofncaaGreat
open Go.RowKit
theorem pN (l:List Mb) (vh:Value) (x9:Id) (w:World) (hR:bK w vh 33 l.length (av l)) (hln:l.length≤1000) (hn:∀ m∈l,0≤m.1):Calls Tryz.prog 119 [vh,dC x9].toArray w (cT w (is (.agg (au (fK l x9 l.length))))):=by
 refine bj Tryz.func119 rfl Tryz.ntmps119 rfl [(0,vh),(1,dC x9)] (by simp) fun f h=>?_
 have s:=St.start w
 refine aj fun K1 hK1=>?_
 refine ae ?_
 refine bT (bq x9) h s rfl rfl rfl ?_;intro f w1 b3 h s
 refine ba (au a8) h s cz rfl rfl ?_;intro f w1 b4 h s
 refine ah ?_
 refine hK1 _ _ ?_
 refine aj fun K2 hK2=>?_
 refine ae ?_
 refine ac h (dz my (h.ev rfl)) rfl ?_;intro f h
 refine ba (au a8) h s cz rfl rfl ?_;intro f w1 b5 h s
 refine ay 0 h s aL rfl rfl rfl (ak _) (ak _) (bf _) ?_;intro w1 s
 refine ah ?_
 refine hK2 _ _ ?_
 refine aj fun K3 hK3=>?_
 refine aj fun K4 hK4=>?_
 refine ae ?_
 refine ac h (ag (h.ev rfl)) rfl ?_;intro f h
 refine ac h (aY (hR.keep s.ext) Tryz.underlying36 (h.ev rfl)) rfl ?_;intro f h
 refine ac h (ag (h.ev rfl)) rfl ?_;intro f h
 refine ah ?_
 refine hK4 _ _ ?_
 refine wpIn_block ?_
 refine wpIn_loop_ghost (fun nn aa ww=>∃ k:Nat,Sl 33 aa [(0,vh),(1,dC x9),(3,.pointer (some ⟨b3,0,none⟩)),(4,.pointer (some ⟨b4,0,none⟩)),(5,.pointer (some ⟨b5,0,none⟩)),(9,vh),(10,.int .i64 (l.length:Int)),(11,.int .i64 (k:Int))]∧St w [.blk b5 (.cells (au (fK l x9 k)) 28),.blk b4 (.cells (au a8) 28),.blk b3 (.cells (bq x9) 26)] ww∧nn=l.length - k∧k≤l.length) (l.length - (0)) ⟨0,h.only ⟨rfl,rfl,rfl,rfl,rfl,rfl,rfl,aR rfl (by omega),trivial⟩,s.as ⟨rfl,rfl,rfl,trivial⟩,rfl,Nat.zero_le _⟩ ?_
 rintro _ f w1 ⟨k,h,s,hnn,hp0⟩
 refine aj fun K5 hK5=>?_
 refine ae ?_
 refine ac h (bD (h.ev rfl) (h.ev rfl)) rfl ?_;intro f h
 refine ah ?_
 refine hK5 _ _ ?_
 refine aj fun K6 hK6=>?_
 refine bA h rfl (fun hc=>?_) (fun hc=>?_)
 ·replace hc:=of_decide_eq_true hc
  refine wpIn_skip ?_
  refine hK6 _ _ ?_
  refine aj fun K7 hK7=>?_
  refine wpIn_block ?_
  refine aj fun K8 hK8=>?_
  refine ae ?_
  have hkl:k<l.length:=by omega
  refine ac h (ce (hR.keep s.ext) (k) Tryz.underlying36 cG (h.ev rfl) (h.ev rfl) (by omega) (by omega)) rfl ?_;intro f h
  refine aM ((hR.keep s.ext).el (k) (by omega) (by decide) (D:=au (l.getD k a8)) (cK l k hkl)) h aL rfl (ak _) rfl ?_;intro f h
  refine ba (au a8) h s cz rfl rfl ?_;intro f w1 b7 h s
  refine ay 0 h s aL rfl rfl rfl (ak _) (ak _) (bf _) ?_;intro w1 s
  refine ah ?_
  refine hK8 _ _ ?_
  refine aj fun K9 hK9=>?_
  cases h0:(decide ((fK l x9 k).1<0):Bool)
  ·skip
   refine bJ 15 [[],[0],[0,1],[0,1,2],[0,1,2,3],[0,1,2,3],[0,1,2,3,5],[0,1,2,3,4,5,6],[0,1,2,3],[0,1,2,3],[0,1,2,3,9],[0,1,2,3,4,5,6,7,8,9,10],[0,1,2,3,4,5,6,7,8,9,10,11],[0,1,2,3,4,5,6,7,8,9,10,11,12],[0,1,2,3,4,5,6,7,8,9,10,11,12,13]] h (by kernel_rfl) (by kernel_rfl) (by kernel_rfl) ?_
   refine ap h (al aP (h.ev rfl)) rfl ?_;intro f h
   refine bk (am (bc.of_own s 1 rfl) 0 (aV _)) h bO rfl rfl ?_;intro f h
   refine ap h (aw (.bool false) (bD (h.ev rfl) (h.ev rfl)) (congrArg Value.bool h0)) rfl ?_;intro f h
   refine ap h (ag (h.ev rfl)) rfl ?_;intro f h
   refine bi h rfl rfl rfl ?_
   refine br 3 h s bV rfl rfl (by first|exact aI _|exact aG _ _) rfl ?_;intro f h
   refine bi h rfl rfl rfl ?_
   refine ap h (al c3 (h.ev rfl)) rfl ?_;intro f h
   refine bi h rfl rfl rfl ?_
   refine bz (bc.subL (bc.of_own s 0 rfl) 1 32 (D:=bq (_)) (cW _)) h bV rfl (by first|exact aI _|exact aG _ _) rfl ?_;intro f h
   refine bi h rfl rfl rfl ?_
   refine cm h sQ (fun w9 hE9=>pC _ _ w9) rfl rfl ?_;intro f h
   refine bi h rfl rfl rfl ?_
   refine br 3 h s bV rfl rfl (by first|exact aI _|exact aG _ _) rfl ?_;intro f h
   refine bi h rfl rfl rfl ?_
   refine ap h (al c3 (h.ev rfl)) rfl ?_;intro f h
   refine bi h rfl rfl rfl ?_
   refine bz (bc.subL (bc.of_own s 1 rfl) 1 32 (D:=bq (_)) (cW _)) h bV rfl (by first|exact aI _|exact aG _ _) rfl ?_;intro f h
   refine bi h rfl rfl rfl ?_
   refine cm h sQ (fun w9 hE9=>pC _ _ w9) rfl rfl ?_;intro f h
   refine bi h rfl rfl rfl ?_
   refine cm h ia (fun w9 hE9=>di _ _ w9) rfl rfl ?_;intro f h
   refine bi h rfl rfl rfl ?_
   refine ap h (aw (.bool (decide (fd x9 (l.getD k a8).2<fd x9 (fK l x9 k).2))) (bD (h.ev rfl) (h.ev rfl)) (congrArg Value.bool (rD _ _ _))) rfl ?_;intro f h
   refine ap h (aE (h.ev rfl) (h.ev rfl)) rfl ?_;intro f h
   refine cn s fun w1 s=>?_
   refine ah ?_
   refine hK9 _ _ ?_
   refine bA h rfl (fun hc=>?_) (fun hc=>?_)
   ·replace hc:=of_decide_eq_true hc
    refine ae ?_
    refine ao 0 h s aL rfl rfl (ak _) rfl ?_;intro f h
    refine ay 1 h s aL rfl rfl rfl (ak _) (ak _) (bf _) ?_;intro w1 s
    refine ah ?_
    refine bF ?_
    refine hK7 _ _ ?_
    refine ae ?_
    refine ac h (cg (h.ev rfl) (h.ev rfl) (by omega)) rfl ?_;intro f h
    refine ac h (ag (h.ev rfl)) rfl ?_;intro f h
    refine ah ?_
    refine bQ ?_
    exact ⟨_,by omega,⟨k+1,h.only ⟨rfl,rfl,rfl,rfl,rfl,rfl,rfl,aR rfl (by omega),trivial⟩,St.as (s.pick _ (List.sublist_append_right [_] _)) ⟨dv (congrArg au (u0 (of_decide_eq_false h0) hc).symm),rfl,rfl,trivial⟩,rfl,by omega⟩⟩
   ·replace hc:=of_decide_eq_false hc
    refine wpIn_skip ?_
    refine bF ?_
    refine hK7 _ _ ?_
    refine ae ?_
    refine ac h (cg (h.ev rfl) (h.ev rfl) (by omega)) rfl ?_;intro f h
    refine ac h (ag (h.ev rfl)) rfl ?_;intro f h
    refine ah ?_
    refine bQ ?_
    exact ⟨_,by omega,⟨k+1,h.only ⟨rfl,rfl,rfl,rfl,rfl,rfl,rfl,aR rfl (by omega),trivial⟩,St.as (s.pick _ (List.sublist_append_right [_] _)) ⟨dv (congrArg au (xt (of_decide_eq_false h0) hc).symm),rfl,rfl,trivial⟩,rfl,by omega⟩⟩
  ·skip
   refine bJ 15 [[],[0],[0,1],[0,1,2],[0,1,2,3],[0,1,2,3],[0,1,2,3,5],[0,1,2,3,4,5,6],[0,1,2,3],[0,1,2,3],[0,1,2,3,9],[0,1,2,3,4,5,6,7,8,9,10],[0,1,2,3,4,5,6,7,8,9,10,11],[0,1,2,3,4,5,6,7,8,9,10,11,12],[0,1,2,3,4,5,6,7,8,9,10,11,12,13]] h (by kernel_rfl) (by kernel_rfl) (by kernel_rfl) ?_
   refine ap h (al aP (h.ev rfl)) rfl ?_;intro f h
   refine bk (am (bc.of_own s 1 rfl) 0 (aV _)) h bO rfl rfl ?_;intro f h
   refine ap h (aw (.bool true) (bD (h.ev rfl) (h.ev rfl)) (congrArg Value.bool h0)) rfl ?_;intro f h
   refine ap h (ag (h.ev rfl)) rfl ?_;intro f h
   refine bm (b:=false) h rfl rfl rfl rfl ?_;intro f h
   refine bm (b:=false) h rfl rfl rfl rfl ?_;intro f h
   refine bm (b:=false) h rfl rfl rfl rfl ?_;intro f h
   refine bm (b:=false) h rfl rfl rfl rfl ?_;intro f h
   refine bm (b:=false) h rfl rfl rfl rfl ?_;intro f h
   refine bm (b:=false) h rfl rfl rfl rfl ?_;intro f h
   refine bm (b:=false) h rfl rfl rfl rfl ?_;intro f h
   refine bm (b:=false) h rfl rfl rfl rfl ?_;intro f h
   refine bm (b:=false) h rfl rfl rfl rfl ?_;intro f h
   refine bm (b:=false) h rfl rfl rfl rfl ?_;intro f h
   refine ap h (aJ (h.ev rfl) (h.ev rfl)) rfl ?_;intro f h
   refine cn s fun w1 s=>?_
   refine ah ?_
   refine hK9 _ _ ?_
   refine wpIn_cond_true (h.ev rfl) ?_
   refine ae ?_
   refine ao 0 h s aL rfl rfl (ak _) rfl ?_;intro f h
   refine ay 1 h s aL rfl rfl rfl (ak _) (ak _) (bf _) ?_;intro w1 s
   refine ah ?_
   refine bF ?_
   refine hK7 _ _ ?_
   refine ae ?_
   refine ac h (cg (h.ev rfl) (h.ev rfl) (by omega)) rfl ?_;intro f h
   refine ac h (ag (h.ev rfl)) rfl ?_;intro f h
   refine ah ?_
   refine bQ ?_
   exact ⟨_,by omega,⟨k+1,h.only ⟨rfl,rfl,rfl,rfl,rfl,rfl,rfl,aR rfl (by omega),trivial⟩,St.as (s.pick _ (List.sublist_append_right [_] _)) ⟨dv (congrArg au (sS hn hkl (of_decide_eq_true h0)).symm),rfl,rfl,trivial⟩,rfl,by omega⟩⟩
 ·replace hc:=of_decide_eq_false hc
  refine wpIn_exit ?_
  refine bw ?_
  refine bw ?_
  refine cq ?_
  refine hK3 _ _ ?_
  refine aj fun K10 hK10=>?_
  refine ae ?_
  refine ao 0 h s aL rfl rfl (ak _) rfl ?_;intro f h
  refine ay 1 h s aL rfl rfl rfl (ak _) (ak _) (bf _) ?_;intro w1 s
  refine ah ?_
  refine hK10 _ _ ?_
  refine wpIn_ret ?_
  exact d7 1 rfl h s aL rfl rfl (ak _) ((by obtain rfl:k=l.length:=(by omega);exact rfl))
theorem mT (l:List Mb) (vh:Value) (m:Mb) (w:World) (hR:bK w vh 33 l.length (av l)) (hln:l.length≤1000) (hn:∀ m∈l,0≤m.1) (h0:0<l.length):Calls Tryz.prog 86 [vh,.agg (au m)].toArray w (cT w (is (.agg (au (gz l m))))):=by
 refine bj Tryz.func86 rfl Tryz.ntmps86 rfl [(0,vh),(1,.agg (au m))] (by simp) fun f h=>?_
 have s:=St.start w
 refine aj fun K1 hK1=>?_
 refine ae ?_
 refine bT ((au m)) h s rfl rfl rfl ?_;intro f w1 b3 h s
 refine ba (au a8) h s cz rfl rfl ?_;intro f w1 b4 h s
 refine ah ?_
 refine hK1 _ _ ?_
 refine aj fun K2 hK2=>?_
 refine bJ 6 [[],[],[1],[],[1,2,3],[0,1,2,3,4]] h (by kernel_rfl) (by kernel_rfl) (by kernel_rfl) ?_
 refine ap h (ag (h.ev rfl)) rfl ?_;intro f h
 refine ap h (al c3 (h.ev rfl)) rfl ?_;intro f h
 refine bz (bc.subL (bc.of_own s 1 rfl) 1 32 (D:=bq (_)) (cW _)) h bV rfl (by first|exact aI _|exact aG _ _) rfl ?_;intro f h
 refine cm h tI (fun w9 hE9=>m5 0 (by omega) w9) rfl rfl ?_;intro f h
 refine cm h pP (fun w9 hE9=>n3 _ _ w9) rfl rfl ?_;intro f h
 refine cm h y1 (fun w9 hE9=>pN l vh (m.2+gO 0) w9 (hR.keep (s.ext.trans hE9)) hln hn) rfl rfl ?_;intro f h
 refine cn s fun w1 s=>?_
 refine ay 0 h s aL rfl rfl rfl (ak _) (ak _) (bf _) ?_;intro w1 s
 refine ah ?_
 refine hK2 _ _ ?_
 refine wpIn_ret ?_
 exact d7 0 rfl h s aL rfl rfl (ak _) (by show _=_;rw [tE (by omega)]<;>rfl)
theorem lP (l:List Mb) (vh:Value) (m:Mb) (many:Int) (n9:Nat) (hn9:n9≤1000) (hm9:many=(n9:Int)) (w:World) (hR:bK w vh 33 l.length (av l)) (hln:l.length≤1000) (hn:∀ m∈l,0≤m.1) (hm:m∈l):Calls Tryz.prog 54 [vh,.agg (au m),.int .i64 many].toArray w (cT w (fun v w'=>cN w' w.heap.size 28 33 v (dV l m n9).length (av (dV l m n9)))):=by
 refine bj Tryz.func54 rfl Tryz.ntmps54 rfl [(0,vh),(1,.agg (au m)),(2,.int .i64 many)] (by simp) fun f h=>?_
 have s:=St.start w
 refine aj fun K1 hK1=>?_
 refine ae ?_
 refine bT ((au m)) h s rfl rfl rfl ?_;intro f w1 b4 h s
 refine ac h (ai (h.ev rfl)) rfl ?_;intro f h
 refine ah ?_
 refine hK1 _ _ ?_
 refine aj fun K2 hK2=>?_
 refine ae ?_
 refine cF (vs:=[]) [] h s Tryz.underlying36 dD rfl rfl (by simp) rfl rfl rfl ?_;intro f w1 v9 h s
 refine ac h (ai (h.ev rfl)) rfl ?_;intro f h
 refine ah ?_
 refine hK2 _ _ ?_
 refine aj fun K3 hK3=>?_
 refine aj fun K4 hK4=>?_
 refine ae ?_
 refine ac h (ai (h.ev rfl)) rfl ?_;intro f h
 refine ah ?_
 refine hK4 _ _ ?_
 refine wpIn_block ?_
 refine wpIn_loop_ghost (fun nn aa ww=>∃ k:Nat,∃ vl:Value,Sl 23 aa [(0,vh),(1,.agg (au m)),(2,.int .i64 many),(4,.pointer (some ⟨b4,0,none⟩)),(7,vl),(8,.int .i64 (k:Int))]∧St w [.sl vl 28 33 (dV l m k).length (av (dV l m k)),.blk b4 (.cells (au (mt l m k)) 28)] ww∧nn=n9 - k∧k≤n9) (n9 - (0)) ⟨0,v9,h.only ⟨rfl,rfl,rfl,rfl,rfl,rfl,trivial⟩,s.as ⟨rfl,rfl,trivial⟩,rfl,Nat.zero_le _⟩ ?_
 rintro _ f w1 ⟨k,vl,h,s,hnn,hp0⟩
 refine aj fun K5 hK5=>?_
 refine aj fun K6 hK6=>?_
 refine ae ?_
 refine ac h (ag (h.ev rfl)) rfl ?_;intro f h
 refine ac h (ag (h.ev rfl)) rfl ?_;intro f h
 refine ac h (bD (h.ev rfl) (h.ev rfl)) rfl ?_;intro f h
 refine ah ?_
 refine hK6 _ _ ?_
 refine bA h rfl (fun hc=>?_) (fun hc=>?_)
 ·replace hc:=of_decide_eq_true hc
  refine wpIn_skip ?_
  refine hK5 _ _ ?_
  refine aj fun K7 hK7=>?_
  refine wpIn_block ?_
  refine aj fun K8 hK8=>?_
  refine ae ?_
  refine ac h (ag (h.ev rfl)) rfl ?_;intro f h
  refine ao 1 h s aL rfl rfl (ak _) rfl ?_;intro f h
  refine aF h s yz (mT l vh (mt l m k) _ (hR.keep s.ext) hln hn (eN hm)) rfl rfl ?_;intro f w1 v9 hT hE h s;obtain rfl:=hT
  refine ay 1 h s aL rfl rfl rfl (ak _) (ak _) (bf _) ?_;intro w1 s
  refine ah ?_
  refine hK8 _ _ ?_
  refine ae ?_
  refine ac h (ag (h.ev rfl)) rfl ?_;intro f h
  refine ao 1 h s aL rfl rfl (ak _) rfl ?_;intro f h
  refine cF (vs:=[.agg (au (mt l m (k+1)))]) [.tmp 19] h s Tryz.underlying36 dD rfl rfl (gU _) rfl rfl rfl ?_;intro f w1 v20 h s
  refine dt 1 0 h s Tryz.underlying36 dD rfl rfl rfl rfl (by decide) (by rw [eh];exact bf _) (by rw [fL];unfold maxLen;omega) (by rw [fL];omega) rfl ?_;intro f w1 v21 h s
  replace s:=s.pick _ (List.sublist_cons_self _ _)
  replace s:=s.resl (m:=(dV l m (k+1)).length) (ys:=av (dV l m (k+1))) 0 rfl (by rw [l9,List.length_append];rfl) (by rw [l9,eh,jD])
  refine ac h (ai (h.ev rfl)) rfl ?_;intro f h
  refine ah ?_
  refine bF ?_
  refine hK7 _ _ ?_
  refine ae ?_
  refine ac h (ag (h.ev rfl)) rfl ?_;intro f h
  refine ac h (cg (h.ev rfl) (h.ev rfl) (by omega)) rfl ?_;intro f h
  refine ac h (ai (h.ev rfl)) rfl ?_;intro f h
  refine ah ?_
  refine bQ ?_
  exact ⟨_,by omega,⟨k+1,v21,h.only ⟨rfl,rfl,rfl,rfl,rfl,aR rfl (by omega),trivial⟩,St.as (s.pick _ (List.Sublist.cons_cons _ (List.Sublist.cons_cons _ (List.nil_sublist _)))) ⟨rfl,rfl,trivial⟩,rfl,by omega⟩⟩
 ·replace hc:=of_decide_eq_false hc
  refine wpIn_exit ?_
  refine bw ?_
  refine bw ?_
  refine cq ?_
  refine hK3 _ _ ?_
  refine aj fun K9 hK9=>?_
  refine ae ?_
  refine ac h (ag (h.ev rfl)) rfl ?_;intro f h
  refine ac h (ai (h.ev rfl)) rfl ?_;intro f h
  refine ah ?_
  refine hK9 _ _ ?_
  refine wpIn_ret ?_
  exact aX rfl h s rfl ((by obtain rfl:k=n9:=(by omega);exact(s.getSl 0 rfl)))
theorem hI (l:List Mb) (vh:Value) (m:Mb) (w:World) (hR:bK w vh 33 l.length (av l)) (hln:l.length≤1000) (hg:Rg l) (hm:m∈l):Calls Tryz.prog 53 [vh,.agg (au m)].toArray w (cT w (is (.agg (au (ec l m))))):=by
 have hn:∀ m∈l,0≤m.1:=fun m h9=>(hg.nos m h9).1
 refine bj Tryz.func53 rfl Tryz.ntmps53 rfl [(0,vh),(1,.agg (au m))] (by simp) fun f h=>?_
 have s:=St.start w
 refine aj fun K1 hK1=>?_
 refine ae ?_
 refine bT ((au m)) h s rfl rfl rfl ?_;intro f w1 b3 h s
 refine ba (au a8) h s cz rfl rfl ?_;intro f w1 b4 h s
 refine ah ?_
 refine hK1 _ _ ?_
 refine aj fun K2 hK2=>?_
 refine aj fun K3 hK3=>?_
 refine ae ?_
 refine ac h (ag (h.ev rfl)) rfl ?_;intro f h
 refine ac h (aY (hR.keep s.ext) Tryz.underlying36 (h.ev rfl)) rfl ?_;intro f h
 refine ac h (ag (h.ev rfl)) rfl ?_;intro f h
 refine ah ?_
 refine hK3 _ _ ?_
 refine wpIn_block ?_
 refine wpIn_loop_ghost (fun nn aa ww=>∃ k:Nat,Sl 21 aa [(0,vh),(1,.agg (au m)),(3,.pointer (some ⟨b3,0,none⟩)),(4,.pointer (some ⟨b4,0,none⟩)),(7,vh),(8,.int .i64 (l.length:Int)),(9,.int .i64 (k:Int))]∧St w [.blk b4 (.cells (au a8) 28),.blk b3 (.cells ((au m)) 28)] ww∧nn=l.length - k∧k≤l.length∧∀ j,j<k→decide (gz l (l.getD j a8)=m)=false) (l.length - (0)) ⟨0,h.only ⟨rfl,rfl,rfl,rfl,rfl,rfl,aR rfl (by omega),trivial⟩,s.as ⟨rfl,rfl,trivial⟩,rfl,Nat.zero_le _,fun j hj=>absurd hj (Nat.not_lt_zero _)⟩ ?_
 rintro _ f w1 ⟨k,h,s,hnn,hp0,hp1⟩
 refine aj fun K4 hK4=>?_
 refine ae ?_
 refine ac h (bD (h.ev rfl) (h.ev rfl)) rfl ?_;intro f h
 refine ah ?_
 refine hK4 _ _ ?_
 refine aj fun K5 hK5=>?_
 refine bA h rfl (fun hc=>?_) (fun hc=>?_)
 ·replace hc:=of_decide_eq_true hc
  refine wpIn_skip ?_
  refine hK5 _ _ ?_
  refine aj fun K6 hK6=>?_
  refine wpIn_block ?_
  refine aj fun K7 hK7=>?_
  refine ae ?_
  have hkl:k<l.length:=by omega
  refine ac h (ce (hR.keep s.ext) (k) Tryz.underlying36 cG (h.ev rfl) (h.ev rfl) (by omega) (by omega)) rfl ?_;intro f h
  refine aM ((hR.keep s.ext).el (k) (by omega) (by decide) (D:=au (l.getD k a8)) (cK l k hkl)) h aL rfl (ak _) rfl ?_;intro f h
  refine ba (au a8) h s cz rfl rfl ?_;intro f w1 b6 h s
  refine ay 0 h s aL rfl rfl rfl (ak _) (ak _) (bf _) ?_;intro w1 s
  refine ah ?_
  refine hK7 _ _ ?_
  refine aj fun K8 hK8=>?_
  refine bJ 5 [[],[],[0,1],[],[0,1,2,3]] h (by kernel_rfl) (by kernel_rfl) (by kernel_rfl) ?_
  refine ap h (ag (h.ev rfl)) rfl ?_;intro f h
  refine br 0 h s aL rfl rfl (ak _) rfl ?_;intro f h
  refine cm h yz (fun w9 hE9=>mT l vh (l.getD k a8) w9 (hR.keep (s.ext.trans hE9)) hln hn (by omega)) rfl rfl ?_;intro f h
  refine br 2 h s aL rfl rfl (ak _) rfl ?_;intro f h
  refine ap h (c4 (gM _ _) (by kernel_rfl) (by decide) (h.ev rfl) (h.ev rfl) (decide (gz l (l.getD k a8)=m)) (dE _ _)) rfl ?_;intro f h
  refine cn s fun w1 s=>?_
  refine ah ?_
  refine hK8 _ _ ?_
  refine bA h rfl (fun hc=>?_) (fun hc=>?_)
  ·refine aj fun K9 hK9=>?_
   refine ae ?_
   refine ao 0 h s aL rfl rfl (ak _) rfl ?_;intro f h
   refine ay 1 h s aL rfl rfl rfl (ak _) (ak _) (bf _) ?_;intro w1 s
   refine ah ?_
   refine hK9 _ _ ?_
   refine wpIn_ret ?_
   refine bu ?_
   refine aQ ?_
   refine aQ ?_
   refine bu ?_
   refine aQ ?_
   exact d7 1 rfl h s aL rfl rfl (ak _) (by show _=_;rw [zK hg (fB hkl) (of_decide_eq_true hc)]<;>rfl)
  ·refine wpIn_skip ?_
   refine bF ?_
   refine hK6 _ _ ?_
   refine ae ?_
   refine ac h (cg (h.ev rfl) (h.ev rfl) (by omega)) rfl ?_;intro f h
   refine ac h (ag (h.ev rfl)) rfl ?_;intro f h
   refine ah ?_
   refine bQ ?_
   exact ⟨_,by omega,⟨k+1,h.only ⟨rfl,rfl,rfl,rfl,rfl,rfl,aR rfl (by omega),trivial⟩,St.as (s.pick _ (List.sublist_append_right [_] _)) ⟨rfl,rfl,trivial⟩,rfl,by omega,cV (q:=fun j=>decide (gz l (l.getD j a8)=m)) hp1 hc⟩⟩
 ·replace hc:=of_decide_eq_false hc
  refine wpIn_exit ?_
  refine bw ?_
  refine bw ?_
  refine cq ?_
  refine hK2 _ _ ?_
  refine aj fun K10 hK10=>?_
  refine ae ?_
  refine ao 1 h s aL rfl rfl (ak _) rfl ?_;intro f h
  refine ay 0 h s aL rfl rfl rfl (ak _) (ak _) (bf _) ?_;intro w1 s
  refine ah ?_
  refine hK10 _ _ ?_
  refine wpIn_ret ?_
  exact d7 0 rfl h s aL rfl rfl (ak _) ((by exfalso;obtain ⟨j,hj,hje⟩:=hQ (nZ m (eN hm));have h9:=hp1 j (by omega);rw [hje] at h9;exact of_decide_eq_false h9 (xw hg hm)))
set_option maxHeartbeats 1000000 in
theorem lU (L:List N3) (vo:Value) (w:World) (hO:cf w vo L) (hL:L.length≤40) (hb:RwB L):Calls Tryz.prog 13 [.agg #[vo]].toArray w (cT w (is (.bool (gd L)))):=by
 have hml:(aN L).length=L.length:=List.length_map _
 refine bj Tryz.func13 rfl Tryz.ntmps13 rfl [(0,.agg #[vo])] (by simp) fun f h=>?_
 have s:=St.start w
 refine aj fun K1 hK1=>?_
 refine ae ?_
 refine bT (#[vo]) h s rfl rfl rfl ?_;intro f w1 b1 h s
 refine ac h (ai (h.ev rfl)) rfl ?_;intro f h
 refine ah ?_
 refine hK1 _ _ ?_
 refine aj fun K2 hK2=>?_
 refine ae ?_
 refine ao 0 h s aU rfl rfl (rfl) rfl ?_;intro f h
 refine aF h s mL (eo L vo _ (hO.keep s.ext) hL) rfl rfl ?_;intro f w1 v8 hT hE h sq;replace s:=s.sl_new hE hT
 refine ac h (ai (h.ev rfl)) rfl ?_;intro f h
 refine ah ?_
 refine hK2 _ _ ?_
 refine aj fun K3 hK3=>?_
 refine aj fun K4 hK4=>?_
 cases r0:(fQ L:Bool)
 ·skip
  refine ae ?_
  refine ao 1 h s aU rfl rfl (rfl) rfl ?_;intro f h
  refine aF h s ra (aO (.bool false) (gI L vo _ (hO.keep s.ext) hL hb) (congrArg Value.bool r0)) rfl rfl ?_;intro f w1 v9 hT hE h s;obtain rfl:=hT
  refine ac h (aw (.bool true) (bg (h.ev rfl)) rfl) rfl ?_;intro f h
  refine ah ?_
  refine hK4 _ _ ?_
  refine wpIn_cond_true (h.ev rfl) ?_
  refine aj fun K5 hK5=>?_
  refine ae ?_
  refine ac h (ai (h.ev rfl)) rfl ?_;intro f h
  refine ah ?_
  refine hK5 _ _ ?_
  refine wpIn_ret ?_
  refine aQ ?_
  exact aX rfl h s rfl (by show _=_;rw [yC r0])
 ·skip
  refine ae ?_
  refine ao 1 h s aU rfl rfl (rfl) rfl ?_;intro f h
  refine aF h s ra (aO (.bool true) (gI L vo _ (hO.keep s.ext) hL hb) (congrArg Value.bool r0)) rfl rfl ?_;intro f w1 v9 hT hE h s;obtain rfl:=hT
  refine ac h (aw (.bool false) (bg (h.ev rfl)) rfl) rfl ?_;intro f h
  refine ah ?_
  refine hK4 _ _ ?_
  refine wpIn_cond_false (h.ev rfl) ?_
  refine wpIn_skip ?_
  refine hK3 _ _ ?_
  refine aj fun K6 hK6=>?_
  refine ae ?_
  have hrs:=(ex r0).rs
  have hl16:=hrs.len
  refine ac h (ag (h.ev rfl)) rfl ?_;intro f h
  refine ey 0 h s Tryz.underlying36 rfl rfl rfl ?_;intro f h
  refine ac h (dP (h.ev rfl) (h.ev rfl) (by omega)) rfl ?_;intro f h
  refine ac h (ai (h.ev rfl)) rfl ?_;intro f h
  refine ah ?_
  refine hK6 _ _ ?_
  refine aj fun K7 hK7=>?_
  refine aj fun K8 hK8=>?_
  refine ae ?_
  refine ac h (ag (h.ev rfl)) rfl ?_;intro f h
  refine ac h (cL (h.ev rfl) (h.ev rfl)) rfl ?_;intro f h
  refine ah ?_
  refine hK8 _ _ ?_
  refine zn (fun aa ww=>∃ mI:Int,Sl 63 aa [(0,.agg #[vo]),(1,.pointer (some ⟨b1,0,none⟩)),(3,v8),(8,v8),(12,v8),(4,.int .i64 mI)]∧St w [.sl v8 28 33 (aN L).length (av (aN L)),.blk b1 (.cells (#[vo]) 24)] ww∧mI=min ((L.length:Int) - 1) 4) ?_ ?_
  ·skip
   refine bA h rfl (fun hc=>?_) (fun hc=>?_)
   ·replace hc:=of_decide_eq_true hc
    refine ae ?_
    refine ac h (ai (h.ev rfl)) rfl ?_;intro f h
    refine ah ?_
    refine bQ ?_
    exact ⟨4,h.only ⟨rfl,rfl,rfl,rfl,rfl,rfl,trivial⟩,St.as s ⟨rfl,rfl,trivial⟩,by omega⟩
   ·replace hc:=of_decide_eq_false hc
    refine wpIn_skip ?_
    refine bQ ?_
    exact ⟨(((aN L).length:Int) - 1),h.only ⟨rfl,rfl,rfl,rfl,rfl,rfl,trivial⟩,St.as s ⟨rfl,rfl,trivial⟩,by omega⟩
  rintro f w1 ⟨mI,h,s,hmI⟩
  refine hK7 _ _ ?_
  refine aj fun K10 hK10=>?_
  refine aj fun K11 hK11=>?_
  refine ae ?_
  refine ac h (al cb (h.ev rfl)) rfl ?_;intro f h
  refine ar (V:=vo) (am (bc.of_own s 1 rfl) 0 rfl) h cH rfl rfl ?_;intro f h
  refine ac h (aY (hO.1.keep s.ext) Tryz.underlying22 (h.ev rfl)) rfl ?_;intro f h
  refine ac h (ag (h.ev rfl)) rfl ?_;intro f h
  refine ah ?_
  refine hK11 _ _ ?_
  refine wpIn_block ?_
  refine wpIn_loop_ghost (fun nn aa ww=>∃ k:Nat,Sl 63 aa [(0,.agg #[vo]),(1,.pointer (some ⟨b1,0,none⟩)),(8,v8),(12,v8),(3,v8),(4,.int .i64 mI),(18,vo),(19,.int .i64 (L.length:Int)),(20,.int .i64 (k:Int))]∧St w [.sl v8 28 33 (aN L).length (av (aN L)),.blk b1 (.cells (#[vo]) 24)] ww∧nn=L.length - k∧k≤L.length∧(∀ j,j<k→kT L j=true)∧(k=0∨¬ L.length=1)) (L.length - (0)) ⟨0,h.only ⟨rfl,rfl,rfl,rfl,rfl,rfl,rfl,rfl,aR rfl (by omega),trivial⟩,s.as ⟨rfl,rfl,trivial⟩,rfl,Nat.zero_le _,fun j hj=>absurd hj (Nat.not_lt_zero _),by omega⟩ ?_
  rintro _ f w1 ⟨k,h,s,hnn,hp0,hp1,hp2⟩
  refine aj fun K12 hK12=>?_
  refine ae ?_
  refine ac h (bD (h.ev rfl) (h.ev rfl)) rfl ?_;intro f h
  refine ah ?_
  refine hK12 _ _ ?_
  refine aj fun K13 hK13=>?_
  refine bA h rfl (fun hc=>?_) (fun hc=>?_)
  ·replace hc:=of_decide_eq_true hc
   refine wpIn_skip ?_
   refine hK13 _ _ ?_
   refine aj fun K14 hK14=>?_
   refine wpIn_block ?_
   refine aj fun K15 hK15=>?_
   refine ae ?_
   have hkl:k<L.length:=by omega
   have hx9:=hb.each _ (bh hkl)
   refine ac h (ce (hO.1.keep s.ext) (k) Tryz.underlying22 eX (h.ev rfl) (h.ev rfl) (by omega) (by omega)) rfl ?_;intro f h
   refine aM ((hO.1.keep s.ext).el (k) (by omega) (by decide) (D:=aD (L.getD k z3).1.me (L.getD k z3).1.pr (L.getD k z3).2.1 (L.getD k z3).2.2) (c6 L k hkl)) h bS rfl (aA _ _ _ _) rfl ?_;intro f h
   refine ba (aD a8 a8 bo bo) h s dH rfl rfl ?_;intro f w1 b6 h s
   refine ay 0 h s bS rfl rfl rfl (aA _ _ _ _) (aA _ _ _ _) (bW (cx ((hO.2 _ (bh hkl)).1.keep s.ext)) (cx ((hO.2 _ (bh hkl)).2.keep s.ext))) ?_;intro w1 s
   refine ah ?_
   refine hK15 _ _ ?_
   refine aj fun K16 hK16=>?_
   refine aj fun K17 hK17=>?_
   refine ae ?_
   refine ac h (ag (h.ev rfl)) rfl ?_;intro f h
   refine ac h (cc (h.ev rfl) (h.ev rfl)) rfl ?_;intro f h
   refine ah ?_
   refine hK17 _ _ ?_
   refine bA h rfl (fun hc=>?_) (fun hc=>?_)
   ·replace hc:=of_decide_eq_true hc
    refine aj fun K18 hK18=>?_
    cases h0:(decide ((L.getD k z3).1.pr=d5):Bool)
    ·try have h19:=of_decide_eq_true h1
     skip
     have hbs:=s.ext.le
     refine' eL 16 [0] [] [[],[0],[0,1],[0,1,2],[0,1,2,3],[0,1,2,3,4],[0,1,2,3,4,5],[0,1,2,3,4,5,6],[0,1,2,3,4,5,6,7],[0,1,2,3,4,5,6,7,8],[0,1,2,3,4,5,6,7,8,9],[0,1,2,3,4,5,6,7,8,9,10],[0,1,2,3,4,5,6,7,8,9,10,11],[0,1,2,3,4,5,6,7,8,9,10,11,12],[0,1,2,3,4,5,6,7,8,9],[0,1,2,3,4,5,6,7,8,9,14],[0,1,2,3,4,5,6,7,8,9,10,11,12,13,14,15],[0,1,2,3,4,5,6,7,8,9,10,11,12,13,14,15,16],[0,1,2,3,4,5,6,7,8,9,10,11,12,13,14,15,16,17]] (is _::is _::is _::is _::is _::is _::is _::is _::is _::is _::is _::is _::is _::is _::is _::is _::is undef::is undef::is undef::[]) (fun _=>True) h s (by kernel_rfl) (by kernel_rfl) (by kernel_rfl) (by kernel_rfl) rfl (fun _ _ h _=>h) (trivial) ⟨⟨_,rfl⟩,trivial⟩ ⟨az _,az _,az _,az _,az _,az _,az _,az _,az _,az _,az _,az _,az _,az _,az _,az _,az _,az _,az _,trivial⟩ (And.intro ?_ (And.intro ?_ (And.intro ?_ (And.intro ?_ (And.intro ?_ (And.intro ?_ (And.intro ?_ (And.intro ?_ (And.intro ?_ (And.intro ?_ (And.intro ?_ (And.intro ?_ (And.intro ?_ (And.intro ?_ (And.intro ?_ (And.intro ?_ (And.intro ?_ (And.intro ?_ (And.intro ?_ (trivial)))))))))))))))))))) ?_
     rotate_left 16
     ·refine cZ 26 rfl (by decide) ?_
      intro f9 w2 hE hs hl
      have e6:f9.tmps.getD 6 undef=_:=bX hl 6 (by kernel_rfl) (by kernel_rfl) (h.holds 6 _ rfl)
      have h:=aq [(6,_)] hs rfl (holds_lk ⟨e6,trivial⟩)
      refine ac h (al cy (h.ev rfl)) rfl ?_;intro f h
      refine ah ?_
      have e9:=h.holds 26 _ rfl
      refine ⟨?_,rfl⟩
      refine e9.trans ?_
      exact rfl
     ·refine aT 27 rfl (by decide) (by decide) ?_
      intro f9 w2 hE hs hd9 hl
      have e26:f9.tmps.getD 26 undef=_:=aH hl 26 0 (by kernel_rfl) (by kernel_rfl)
      have h:=aq [(26,_)] hs hd9 (holds_lk ⟨e26,trivial⟩)
      have s:=s.more hE
      have z:=St.start w2
      refine aM (bc.subL (bc.of_own s 0 rfl) 33 33 (D:=au (L.getD k z3).1.pr) (co _ _ _ _)) h aL rfl (ak _) rfl ?_;intro f h
      refine ah ?_
      have e9:=h.holds 27 _ rfl
      refine ⟨?_,Ext.refl _,fun h9=>absurd h9 (by decide)⟩
      refine e9.trans ?_
      exact rfl
     ·refine aT 28 rfl (by decide) (by decide) ?_
      intro f9 w2 hE hs hd9 hl
      have e27:f9.tmps.getD 27 undef=_:=aH hl 27 1 (by kernel_rfl) (by kernel_rfl)
      have h:=aq [(27,_)] hs hd9 (holds_lk ⟨e27,trivial⟩)
      have s:=s.more hE
      have z:=St.start w2
      refine aF h s kA (aO (.bool false) (ep (L.getD k z3).1.pr _) (congrArg Value.bool h0)) rfl rfl ?_;intro f w1 v9 hT hE h s;obtain rfl:=hT
      refine ah ?_
      have e9:=h.holds 28 _ rfl
      refine ⟨?_,hE,fun h9=>absurd h9 (by decide)⟩
      refine e9.trans ?_
      exact rfl
     ·refine aT 29 rfl (by decide) (by decide) ?_
      intro f9 w2 hE hs hd9 hl
      have e28:f9.tmps.getD 28 undef=_:=aH hl 28 2 (by kernel_rfl) (by kernel_rfl)
      have h:=aq [(28,_)] hs hd9 (holds_lk ⟨e28,trivial⟩)
      have s:=s.more hE
      have z:=St.start w2
      refine ac h (ag (h.ev rfl)) rfl ?_;intro f h
      refine ah ?_
      have e9:=h.holds 29 _ rfl
      refine ⟨?_,Ext.refl _,fun h9=>absurd h9 (by decide)⟩
      refine e9.trans ?_
      exact rfl
     ·refine aT 30 rfl (by decide) (by decide) ?_
      intro f9 w2 hE hs hd9 hl
      have e6:f9.tmps.getD 6 undef=_:=bX hl 6 (by kernel_rfl) (by kernel_rfl) (h.holds 6 _ rfl)
      have e29:f9.tmps.getD 29 undef=_:=aH hl 29 3 (by kernel_rfl) (by kernel_rfl)
      have h:=aq [(6,_),(29,_)] hs hd9 (holds_lk ⟨e6,e29,trivial⟩)
      have s:=s.more hE
      have z:=St.start w2
      refine aC (b:=true) h rfl rfl rfl rfl ?_;intro f h
      refine ah ?_
      have e9:=h.holds 30 _ rfl
      refine ⟨?_,Ext.refl _,fun h9=>absurd h9 (by decide)⟩
      refine e9.trans ?_
      exact rfl
     ·refine aT 31 rfl (by decide) (by decide) ?_
      intro f9 w2 hE hs hd9 hl
      have e30:f9.tmps.getD 30 undef=_:=aH hl 30 4 (by kernel_rfl) (by kernel_rfl)
      have e29:f9.tmps.getD 29 undef=_:=aH hl 29 3 (by kernel_rfl) (by kernel_rfl)
      have h:=aq [(30,_),(29,_)] hs hd9 (holds_lk ⟨e30,e29,trivial⟩)
      have s:=s.more hE
      have z:=St.start w2
      refine aC (b:=true) h rfl rfl rfl rfl ?_;intro f h
      refine ah ?_
      have e9:=h.holds 31 _ rfl
      refine ⟨?_,Ext.refl _,fun h9=>absurd h9 (by decide)⟩
      refine e9.trans ?_
      exact rfl
     ·refine aT 32 rfl (by decide) (by decide) ?_
      intro f9 w2 hE hs hd9 hl
      have e31:f9.tmps.getD 31 undef=_:=aH hl 31 5 (by kernel_rfl) (by kernel_rfl)
      have e29:f9.tmps.getD 29 undef=_:=aH hl 29 3 (by kernel_rfl) (by kernel_rfl)
      have h:=aq [(31,_),(29,_)] hs hd9 (holds_lk ⟨e31,e29,trivial⟩)
      have s:=s.more hE
      have z:=St.start w2
      refine aC (b:=true) h rfl rfl rfl rfl ?_;intro f h
      refine ah ?_
      have e9:=h.holds 32 _ rfl
      refine ⟨?_,Ext.refl _,fun h9=>absurd h9 (by decide)⟩
      refine e9.trans ?_
      exact rfl
     ·refine aT 33 rfl (by decide) (by decide) ?_
      intro f9 w2 hE hs hd9 hl
      have e32:f9.tmps.getD 32 undef=_:=aH hl 32 6 (by kernel_rfl) (by kernel_rfl)
      have e29:f9.tmps.getD 29 undef=_:=aH hl 29 3 (by kernel_rfl) (by kernel_rfl)
      have h:=aq [(32,_),(29,_)] hs hd9 (holds_lk ⟨e32,e29,trivial⟩)
      have s:=s.more hE
      have z:=St.start w2
      refine aC (b:=true) h rfl rfl rfl rfl ?_;intro f h
      refine ah ?_
      have e9:=h.holds 33 _ rfl
      refine ⟨?_,Ext.refl _,fun h9=>absurd h9 (by decide)⟩
      refine e9.trans ?_
      exact rfl
     ·refine aT 34 rfl (by decide) (by decide) ?_
      intro f9 w2 hE hs hd9 hl
      have e29:f9.tmps.getD 29 undef=_:=aH hl 29 3 (by kernel_rfl) (by kernel_rfl)
      have e33:f9.tmps.getD 33 undef=_:=aH hl 33 7 (by kernel_rfl) (by kernel_rfl)
      have h:=aq [(29,_),(33,_)] hs hd9 (holds_lk ⟨e29,e33,trivial⟩)
      have s:=s.more hE
      have z:=St.start w2
      refine ac h (aE (h.ev rfl) (h.ev rfl)) rfl ?_;intro f h
      refine ah ?_
      have e9:=h.holds 34 _ rfl
      refine ⟨?_,Ext.refl _,fun h9=>absurd h9 (by decide)⟩
      refine e9.trans ?_
      exact rfl
     ·refine aT 35 rfl (by decide) (by decide) ?_
      intro f9 w2 hE hs hd9 hl
      have e34:f9.tmps.getD 34 undef=_:=aH hl 34 8 (by kernel_rfl) (by kernel_rfl)
      have h:=aq [(34,_)] hs hd9 (holds_lk ⟨e34,trivial⟩)
      have s:=s.more hE
      have z:=St.start w2
      refine ac h (ag (h.ev rfl)) rfl ?_;intro f h
      refine ah ?_
      have e9:=h.holds 35 _ rfl
      refine ⟨?_,Ext.refl _,fun h9=>absurd h9 (by decide)⟩
      refine e9.trans ?_
      exact rfl
     ·refine aT 36 rfl (by decide) (by decide) ?_
      intro f9 w2 hE hs hd9 hl
      have e6:f9.tmps.getD 6 undef=_:=bX hl 6 (by kernel_rfl) (by kernel_rfl) (h.holds 6 _ rfl)
      have e35:f9.tmps.getD 35 undef=_:=aH hl 35 9 (by kernel_rfl) (by kernel_rfl)
      have h:=aq [(6,_),(35,_)] hs hd9 (holds_lk ⟨e6,e35,trivial⟩)
      have s:=s.more hE
      have z:=St.start w2
      refine aC (b:=true) h rfl rfl rfl rfl ?_;intro f h
      refine ah ?_
      have e9:=h.holds 36 _ rfl
      refine ⟨?_,Ext.refl _,fun h9=>absurd h9 (by decide)⟩
      refine e9.trans ?_
      exact rfl
     ·refine aT 37 rfl (by decide) (by decide) ?_
      intro f9 w2 hE hs hd9 hl
      have e36:f9.tmps.getD 36 undef=_:=aH hl 36 10 (by kernel_rfl) (by kernel_rfl)
      have e35:f9.tmps.getD 35 undef=_:=aH hl 35 9 (by kernel_rfl) (by kernel_rfl)
      have h:=aq [(36,_),(35,_)] hs hd9 (holds_lk ⟨e36,e35,trivial⟩)
      have s:=s.more hE
      have z:=St.start w2
      refine aC (b:=true) h rfl rfl rfl rfl ?_;intro f h
      refine ah ?_
      have e9:=h.holds 37 _ rfl
      refine ⟨?_,Ext.refl _,fun h9=>absurd h9 (by decide)⟩
      refine e9.trans ?_
      exact rfl
     ·refine aT 38 rfl (by decide) (by decide) ?_
      intro f9 w2 hE hs hd9 hl
      have e37:f9.tmps.getD 37 undef=_:=aH hl 37 11 (by kernel_rfl) (by kernel_rfl)
      have e35:f9.tmps.getD 35 undef=_:=aH hl 35 9 (by kernel_rfl) (by kernel_rfl)
      have h:=aq [(37,_),(35,_)] hs hd9 (holds_lk ⟨e37,e35,trivial⟩)
      have s:=s.more hE
      have z:=St.start w2
      refine aC (b:=true) h rfl rfl rfl rfl ?_;intro f h
      refine ah ?_
      have e9:=h.holds 38 _ rfl
      refine ⟨?_,Ext.refl _,fun h9=>absurd h9 (by decide)⟩
      refine e9.trans ?_
      exact rfl
     ·refine aT 39 rfl (by decide) (by decide) ?_
      intro f9 w2 hE hs hd9 hl
      have e38:f9.tmps.getD 38 undef=_:=aH hl 38 12 (by kernel_rfl) (by kernel_rfl)
      have e35:f9.tmps.getD 35 undef=_:=aH hl 35 9 (by kernel_rfl) (by kernel_rfl)
      have h:=aq [(38,_),(35,_)] hs hd9 (holds_lk ⟨e38,e35,trivial⟩)
      have s:=s.more hE
      have z:=St.start w2
      refine aC (b:=true) h rfl rfl rfl rfl ?_;intro f h
      refine ah ?_
      have e9:=h.holds 39 _ rfl
      refine ⟨?_,Ext.refl _,fun h9=>absurd h9 (by decide)⟩
      refine e9.trans ?_
      exact rfl
     ·refine aT 40 rfl (by decide) (by decide) ?_
      intro f9 w2 hE hs hd9 hl
      have e6:f9.tmps.getD 6 undef=_:=bX hl 6 (by kernel_rfl) (by kernel_rfl) (h.holds 6 _ rfl)
      have e35:f9.tmps.getD 35 undef=_:=aH hl 35 9 (by kernel_rfl) (by kernel_rfl)
      have h:=aq [(6,_),(35,_)] hs hd9 (holds_lk ⟨e6,e35,trivial⟩)
      have s:=s.more hE
      have z:=St.start w2
      refine aC (b:=true) h rfl rfl rfl rfl ?_;intro f h
      refine ah ?_
      have e9:=h.holds 40 _ rfl
      refine ⟨?_,Ext.refl _,fun h9=>absurd h9 (by decide)⟩
      refine e9.trans ?_
      exact rfl
     ·refine aT 41 rfl (by decide) (by decide) ?_
      intro f9 w2 hE hs hd9 hl
      have e40:f9.tmps.getD 40 undef=_:=aH hl 40 14 (by kernel_rfl) (by kernel_rfl)
      have e35:f9.tmps.getD 35 undef=_:=aH hl 35 9 (by kernel_rfl) (by kernel_rfl)
      have h:=aq [(40,_),(35,_)] hs hd9 (holds_lk ⟨e40,e35,trivial⟩)
      have s:=s.more hE
      have z:=St.start w2
      refine aC (b:=true) h rfl rfl rfl rfl ?_;intro f h
      refine ah ?_
      have e9:=h.holds 41 _ rfl
      refine ⟨?_,Ext.refl _,fun h9=>absurd h9 (by decide)⟩
      refine e9.trans ?_
      exact rfl
     ·exact cr (by decide) (by decide)
     ·exact cr (by decide) (by decide)
     ·exact cr (by decide) (by decide)
     ·intro f9 w2 hE hs hd9 hWp hT hR hFr hDj
      replace h:=sl_new (ops:=_) [(26,_),(27,_),(28,_),(29,_),(30,_),(31,_),(32,_),(33,_),(34,_),(35,_),(36,_),(37,_),(38,_),(39,_),(40,_),(41,_)] h hs hd9 hR ⟨hT 0 26 (by decide) rfl,hT 1 27 (by decide) rfl,hT 2 28 (by decide) rfl,hT 3 29 (by decide) rfl,hT 4 30 (by decide) rfl,hT 5 31 (by decide) rfl,hT 6 32 (by decide) rfl,hT 7 33 (by decide) rfl,hT 8 34 (by decide) rfl,hT 9 35 (by decide) rfl,hT 10 36 (by decide) rfl,hT 11 37 (by decide) rfl,hT 12 38 (by decide) rfl,hT 13 39 (by decide) rfl,hT 14 40 (by decide) rfl,hT 15 41 (by decide) rfl,trivial⟩ (by kernel_rfl)
      replace s:=s.more hE
      clear hT hR hFr hDj
      refine eD.of ?_
      refine aC (b:=true) h rfl rfl rfl rfl ?_;intro f h
      refine ac h (aE (h.ev rfl) (h.ev rfl)) rfl ?_;intro f h
      refine ac h (ai (h.ev rfl)) rfl ?_;intro f h
      refine ah ?_
      refine hK18 _ _ ?_
      refine wpIn_ret ?_
      refine aQ ?_
      refine bu ?_
      refine aQ ?_
      refine aQ ?_
      refine bu ?_
      refine aQ ?_
      exact aX rfl h s rfl (by show _=_;rw [kk r0 hkl (by omega)];unfold pb;rw [h0];rfl)
    ·try have h19:=of_decide_eq_true h1
     skip
     cases h1:(decide ((L.getD k z3).1.sc.length=1):Bool)
     ·try have h19:=of_decide_eq_true h1
      skip
      have hbs:=s.ext.le
      refine' eL 16 [0] [] [[],[0],[0,1],[0,1,2],[0,1,2,3],[0,1,2,3,4],[0,1,2,3,4,5],[0,1,2,3,4,5,6],[0,1,2,3,4,5,6,7],[0,1,2,3,4,5,6,7,8],[0,1,2,3,4,5,6,7,8,9],[0,1,2,3,4,5,6,7,8,9,10],[0,1,2,3,4,5,6,7,8,9,10,11],[0,1,2,3,4,5,6,7,8,9,10,11,12],[0,1,2,3,4,5,6,7,8,9],[0,1,2,3,4,5,6,7,8,9,14],[0,1,2,3,4,5,6,7,8,9,10,11,12,13,14,15],[0,1,2,3,4,5,6,7,8,9,10,11,12,13,14,15,16],[0,1,2,3,4,5,6,7,8,9,10,11,12,13,14,15,16,17]] (is _::is _::is _::is _::is _::is _::is _::is _::is _::is _::is _::is _::is _::is _::is _::is _::is undef::is undef::is undef::[]) (fun _=>True) h s (by kernel_rfl) (by kernel_rfl) (by kernel_rfl) (by kernel_rfl) rfl (fun _ _ h _=>h) (trivial) ⟨⟨_,rfl⟩,trivial⟩ ⟨az _,az _,az _,az _,az _,az _,az _,az _,az _,az _,az _,az _,az _,az _,az _,az _,az _,az _,az _,trivial⟩ (And.intro ?_ (And.intro ?_ (And.intro ?_ (And.intro ?_ (And.intro ?_ (And.intro ?_ (And.intro ?_ (And.intro ?_ (And.intro ?_ (And.intro ?_ (And.intro ?_ (And.intro ?_ (And.intro ?_ (And.intro ?_ (And.intro ?_ (And.intro ?_ (And.intro ?_ (And.intro ?_ (And.intro ?_ (trivial)))))))))))))))))))) ?_
      rotate_left 16
      ·refine cZ 26 rfl (by decide) ?_
       intro f9 w2 hE hs hl
       have e6:f9.tmps.getD 6 undef=_:=bX hl 6 (by kernel_rfl) (by kernel_rfl) (h.holds 6 _ rfl)
       have h:=aq [(6,_)] hs rfl (holds_lk ⟨e6,trivial⟩)
       refine ac h (al cy (h.ev rfl)) rfl ?_;intro f h
       refine ah ?_
       have e9:=h.holds 26 _ rfl
       refine ⟨?_,rfl⟩
       refine e9.trans ?_
       exact rfl
      ·refine aT 27 rfl (by decide) (by decide) ?_
       intro f9 w2 hE hs hd9 hl
       have e26:f9.tmps.getD 26 undef=_:=aH hl 26 0 (by kernel_rfl) (by kernel_rfl)
       have h:=aq [(26,_)] hs hd9 (holds_lk ⟨e26,trivial⟩)
       have s:=s.more hE
       have z:=St.start w2
       refine aM (bc.subL (bc.of_own s 0 rfl) 33 33 (D:=au (L.getD k z3).1.pr) (co _ _ _ _)) h aL rfl (ak _) rfl ?_;intro f h
       refine ah ?_
       have e9:=h.holds 27 _ rfl
       refine ⟨?_,Ext.refl _,fun h9=>absurd h9 (by decide)⟩
       refine e9.trans ?_
       exact rfl
      ·refine aT 28 rfl (by decide) (by decide) ?_
       intro f9 w2 hE hs hd9 hl
       have e27:f9.tmps.getD 27 undef=_:=aH hl 27 1 (by kernel_rfl) (by kernel_rfl)
       have h:=aq [(27,_)] hs hd9 (holds_lk ⟨e27,trivial⟩)
       have s:=s.more hE
       have z:=St.start w2
       refine aF h s kA (aO (.bool true) (ep (L.getD k z3).1.pr _) (congrArg Value.bool h0)) rfl rfl ?_;intro f w1 v9 hT hE h s;obtain rfl:=hT
       refine ah ?_
       have e9:=h.holds 28 _ rfl
       refine ⟨?_,hE,fun h9=>absurd h9 (by decide)⟩
       refine e9.trans ?_
       exact rfl
      ·refine aT 29 rfl (by decide) (by decide) ?_
       intro f9 w2 hE hs hd9 hl
       have e28:f9.tmps.getD 28 undef=_:=aH hl 28 2 (by kernel_rfl) (by kernel_rfl)
       have h:=aq [(28,_)] hs hd9 (holds_lk ⟨e28,trivial⟩)
       have s:=s.more hE
       have z:=St.start w2
       refine ac h (ag (h.ev rfl)) rfl ?_;intro f h
       refine ah ?_
       have e9:=h.holds 29 _ rfl
       refine ⟨?_,Ext.refl _,fun h9=>absurd h9 (by decide)⟩
       refine e9.trans ?_
       exact rfl
      ·refine aT 30 rfl (by decide) (by decide) ?_
       intro f9 w2 hE hs hd9 hl
       have e6:f9.tmps.getD 6 undef=_:=bX hl 6 (by kernel_rfl) (by kernel_rfl) (h.holds 6 _ rfl)
       have e29:f9.tmps.getD 29 undef=_:=aH hl 29 3 (by kernel_rfl) (by kernel_rfl)
       have h:=aq [(6,_),(29,_)] hs hd9 (holds_lk ⟨e6,e29,trivial⟩)
       have s:=s.more hE
       have z:=St.start w2
       refine aB h rfl rfl rfl ?_
       refine ac h (al bI (h.ev rfl)) rfl ?_;intro f h
       refine ah ?_
       have e9:=h.holds 30 _ rfl
       refine ⟨?_,Ext.refl _,fun h9=>absurd h9 (by decide)⟩
       refine e9.trans ?_
       exact rfl
      ·refine aT 31 rfl (by decide) (by decide) ?_
       intro f9 w2 hE hs hd9 hl
       have e30:f9.tmps.getD 30 undef=_:=aH hl 30 4 (by kernel_rfl) (by kernel_rfl)
       have e29:f9.tmps.getD 29 undef=_:=aH hl 29 3 (by kernel_rfl) (by kernel_rfl)
       have h:=aq [(30,_),(29,_)] hs hd9 (holds_lk ⟨e30,e29,trivial⟩)
       have s:=s.more hE
       have z:=St.start w2
       refine aB h rfl rfl rfl ?_
       refine ar (V:=(L.getD k z3).2.1) (am (bc.of_own s 0 rfl) 66 (bC _ _ _ _)) h bH rfl rfl ?_;intro f h
       refine ah ?_
       have e9:=h.holds 31 _ rfl
       refine ⟨?_,Ext.refl _,fun h9=>absurd h9 (by decide)⟩
       refine e9.trans ?_
       exact rfl
      ·refine aT 32 rfl (by decide) (by decide) ?_
       intro f9 w2 hE hs hd9 hl
       have e31:f9.tmps.getD 31 undef=_:=aH hl 31 5 (by kernel_rfl) (by kernel_rfl)
       have e29:f9.tmps.getD 29 undef=_:=aH hl 29 3 (by kernel_rfl) (by kernel_rfl)
       have h:=aq [(31,_),(29,_)] hs hd9 (holds_lk ⟨e31,e29,trivial⟩)
       have s:=s.more hE
       have z:=St.start w2
       refine aB h rfl rfl rfl ?_
       refine ac h (aY ((hO.2 _ (bh hkl)).1.keep s.ext) Tryz.underlying36 (h.ev rfl)) rfl ?_;intro f h
       refine ah ?_
       have e9:=h.holds 32 _ rfl
       refine ⟨?_,Ext.refl _,fun h9=>absurd h9 (by decide)⟩
       refine e9.trans ?_
       exact rfl
      ·refine aT 33 rfl (by decide) (by decide) ?_
       intro f9 w2 hE hs hd9 hl
       have e32:f9.tmps.getD 32 undef=_:=aH hl 32 6 (by kernel_rfl) (by kernel_rfl)
       have e29:f9.tmps.getD 29 undef=_:=aH hl 29 3 (by kernel_rfl) (by kernel_rfl)
       have h:=aq [(32,_),(29,_)] hs hd9 (holds_lk ⟨e32,e29,trivial⟩)
       have s:=s.more hE
       have z:=St.start w2
       refine aB h rfl rfl rfl ?_
       refine ac h (aw (.bool false) (cc (h.ev rfl) (h.ev rfl)) (congrArg Value.bool (decide_eq_false (by have:=of_decide_eq_false h1;omega)))) rfl ?_;intro f h
       refine ah ?_
       have e9:=h.holds 33 _ rfl
       refine ⟨?_,Ext.refl _,fun h9=>absurd h9 (by decide)⟩
       refine e9.trans ?_
       exact rfl
      ·refine aT 34 rfl (by decide) (by decide) ?_
       intro f9 w2 hE hs hd9 hl
       have e29:f9.tmps.getD 29 undef=_:=aH hl 29 3 (by kernel_rfl) (by kernel_rfl)
       have e33:f9.tmps.getD 33 undef=_:=aH hl 33 7 (by kernel_rfl) (by kernel_rfl)
       have h:=aq [(29,_),(33,_)] hs hd9 (holds_lk ⟨e29,e33,trivial⟩)
       have s:=s.more hE
       have z:=St.start w2
       refine ac h (aJ (h.ev rfl) (h.ev rfl)) rfl ?_;intro f h
       refine ah ?_
       have e9:=h.holds 34 _ rfl
       refine ⟨?_,Ext.refl _,fun h9=>absurd h9 (by decide)⟩
       refine e9.trans ?_
       exact rfl
      ·refine aT 35 rfl (by decide) (by decide) ?_
       intro f9 w2 hE hs hd9 hl
       have e34:f9.tmps.getD 34 undef=_:=aH hl 34 8 (by kernel_rfl) (by kernel_rfl)
       have h:=aq [(34,_)] hs hd9 (holds_lk ⟨e34,trivial⟩)
       have s:=s.more hE
       have z:=St.start w2
       refine ac h (ag (h.ev rfl)) rfl ?_;intro f h
       refine ah ?_
       have e9:=h.holds 35 _ rfl
       refine ⟨?_,Ext.refl _,fun h9=>absurd h9 (by decide)⟩
       refine e9.trans ?_
       exact rfl
      ·refine aT 36 rfl (by decide) (by decide) ?_
       intro f9 w2 hE hs hd9 hl
       have e6:f9.tmps.getD 6 undef=_:=bX hl 6 (by kernel_rfl) (by kernel_rfl) (h.holds 6 _ rfl)
       have e35:f9.tmps.getD 35 undef=_:=aH hl 35 9 (by kernel_rfl) (by kernel_rfl)
       have h:=aq [(6,_),(35,_)] hs hd9 (holds_lk ⟨e6,e35,trivial⟩)
       have s:=s.more hE
       have z:=St.start w2
       refine aC (b:=true) h rfl rfl rfl rfl ?_;intro f h
       refine ah ?_
       have e9:=h.holds 36 _ rfl
       refine ⟨?_,Ext.refl _,fun h9=>absurd h9 (by decide)⟩
       refine e9.trans ?_
       exact rfl
      ·refine aT 37 rfl (by decide) (by decide) ?_
       intro f9 w2 hE hs hd9 hl
       have e36:f9.tmps.getD 36 undef=_:=aH hl 36 10 (by kernel_rfl) (by kernel_rfl)
       have e35:f9.tmps.getD 35 undef=_:=aH hl 35 9 (by kernel_rfl) (by kernel_rfl)
       have h:=aq [(36,_),(35,_)] hs hd9 (holds_lk ⟨e36,e35,trivial⟩)
       have s:=s.more hE
       have z:=St.start w2
       refine aC (b:=true) h rfl rfl rfl rfl ?_;intro f h
       refine ah ?_
       have e9:=h.holds 37 _ rfl
       refine ⟨?_,Ext.refl _,fun h9=>absurd h9 (by decide)⟩
       refine e9.trans ?_
       exact rfl
      ·refine aT 38 rfl (by decide) (by decide) ?_
       intro f9 w2 hE hs hd9 hl
       have e37:f9.tmps.getD 37 undef=_:=aH hl 37 11 (by kernel_rfl) (by kernel_rfl)
       have e35:f9.tmps.getD 35 undef=_:=aH hl 35 9 (by kernel_rfl) (by kernel_rfl)
       have h:=aq [(37,_),(35,_)] hs hd9 (holds_lk ⟨e37,e35,trivial⟩)
       have s:=s.more hE
       have z:=St.start w2
       refine aC (b:=true) h rfl rfl rfl rfl ?_;intro f h
       refine ah ?_
       have e9:=h.holds 38 _ rfl
       refine ⟨?_,Ext.refl _,fun h9=>absurd h9 (by decide)⟩
       refine e9.trans ?_
       exact rfl
      ·refine aT 39 rfl (by decide) (by decide) ?_
       intro f9 w2 hE hs hd9 hl
       have e38:f9.tmps.getD 38 undef=_:=aH hl 38 12 (by kernel_rfl) (by kernel_rfl)
       have e35:f9.tmps.getD 35 undef=_:=aH hl 35 9 (by kernel_rfl) (by kernel_rfl)
       have h:=aq [(38,_),(35,_)] hs hd9 (holds_lk ⟨e38,e35,trivial⟩)
       have s:=s.more hE
       have z:=St.start w2
       refine aC (b:=true) h rfl rfl rfl rfl ?_;intro f h
       refine ah ?_
       have e9:=h.holds 39 _ rfl
       refine ⟨?_,Ext.refl _,fun h9=>absurd h9 (by decide)⟩
       refine e9.trans ?_
       exact rfl
      ·refine aT 40 rfl (by decide) (by decide) ?_
       intro f9 w2 hE hs hd9 hl
       have e6:f9.tmps.getD 6 undef=_:=bX hl 6 (by kernel_rfl) (by kernel_rfl) (h.holds 6 _ rfl)
       have e35:f9.tmps.getD 35 undef=_:=aH hl 35 9 (by kernel_rfl) (by kernel_rfl)
       have h:=aq [(6,_),(35,_)] hs hd9 (holds_lk ⟨e6,e35,trivial⟩)
       have s:=s.more hE
       have z:=St.start w2
       refine aC (b:=true) h rfl rfl rfl rfl ?_;intro f h
       refine ah ?_
       have e9:=h.holds 40 _ rfl
       refine ⟨?_,Ext.refl _,fun h9=>absurd h9 (by decide)⟩
       refine e9.trans ?_
       exact rfl
      ·refine aT 41 rfl (by decide) (by decide) ?_
       intro f9 w2 hE hs hd9 hl
       have e40:f9.tmps.getD 40 undef=_:=aH hl 40 14 (by kernel_rfl) (by kernel_rfl)
       have e35:f9.tmps.getD 35 undef=_:=aH hl 35 9 (by kernel_rfl) (by kernel_rfl)
       have h:=aq [(40,_),(35,_)] hs hd9 (holds_lk ⟨e40,e35,trivial⟩)
       have s:=s.more hE
       have z:=St.start w2
       refine aC (b:=true) h rfl rfl rfl rfl ?_;intro f h
       refine ah ?_
       have e9:=h.holds 41 _ rfl
       refine ⟨?_,Ext.refl _,fun h9=>absurd h9 (by decide)⟩
       refine e9.trans ?_
       exact rfl
      ·exact cr (by decide) (by decide)
      ·exact cr (by decide) (by decide)
      ·exact cr (by decide) (by decide)
      ·intro f9 w2 hE hs hd9 hWp hT hR hFr hDj
       replace h:=sl_new (ops:=_) [(26,_),(27,_),(28,_),(29,_),(30,_),(31,_),(32,_),(33,_),(34,_),(35,_),(36,_),(37,_),(38,_),(39,_),(40,_),(41,_)] h hs hd9 hR ⟨hT 0 26 (by decide) rfl,hT 1 27 (by decide) rfl,hT 2 28 (by decide) rfl,hT 3 29 (by decide) rfl,hT 4 30 (by decide) rfl,hT 5 31 (by decide) rfl,hT 6 32 (by decide) rfl,hT 7 33 (by decide) rfl,hT 8 34 (by decide) rfl,hT 9 35 (by decide) rfl,hT 10 36 (by decide) rfl,hT 11 37 (by decide) rfl,hT 12 38 (by decide) rfl,hT 13 39 (by decide) rfl,hT 14 40 (by decide) rfl,hT 15 41 (by decide) rfl,trivial⟩ (by kernel_rfl)
       replace s:=s.more hE
       clear hT hR hFr hDj
       refine eD.of ?_
       refine aC (b:=true) h rfl rfl rfl rfl ?_;intro f h
       refine ac h (aE (h.ev rfl) (h.ev rfl)) rfl ?_;intro f h
       refine ac h (ai (h.ev rfl)) rfl ?_;intro f h
       refine ah ?_
       refine hK18 _ _ ?_
       refine wpIn_ret ?_
       refine aQ ?_
       refine bu ?_
       refine aQ ?_
       refine aQ ?_
       refine bu ?_
       refine aQ ?_
       exact aX rfl h s rfl (by show _=_;rw [kk r0 hkl (by omega)];unfold pb;rw [h0,h1];rfl)
     ·try have h19:=of_decide_eq_true h1
      skip
      cases h2:(decide ((L.getD k z3).1.sc.getD 0 a8=(L.getD k z3).1.me):Bool)
      ·try have h19:=of_decide_eq_true h1
       skip
       have hbs:=s.ext.le
       refine' eL 16 [0] [] [[],[0],[0,1],[0,1,2],[0,1,2,3],[0,1,2,3,4],[0,1,2,3,4,5],[0,1,2,3,4,5,6],[0,1,2,3,4,5,6,7],[0,1,2,3,4,5,6,7,8],[0,1,2,3,4,5,6,7,8,9],[0,1,2,3,4,5,6,7,8,9,10],[0,1,2,3,4,5,6,7,8,9,10,11],[0,1,2,3,4,5,6,7,8,9,10,11,12],[0,1,2,3,4,5,6,7,8,9],[0,1,2,3,4,5,6,7,8,9,14],[0,1,2,3,4,5,6,7,8,9,10,11,12,13,14,15],[0,1,2,3,4,5,6,7,8,9,10,11,12,13,14,15,16],[0,1,2,3,4,5,6,7,8,9,10,11,12,13,14,15,16,17]] (is _::is _::is _::is _::is _::is _::is _::is _::is _::is _::is _::is _::is _::is _::is _::is _::is undef::is undef::is undef::[]) (fun _=>True) h s (by kernel_rfl) (by kernel_rfl) (by kernel_rfl) (by kernel_rfl) rfl (fun _ _ h _=>h) (trivial) ⟨⟨_,rfl⟩,trivial⟩ ⟨az _,az _,az _,az _,az _,az _,az _,az _,az _,az _,az _,az _,az _,az _,az _,az _,az _,az _,az _,trivial⟩ (And.intro ?_ (And.intro ?_ (And.intro ?_ (And.intro ?_ (And.intro ?_ (And.intro ?_ (And.intro ?_ (And.intro ?_ (And.intro ?_ (And.intro ?_ (And.intro ?_ (And.intro ?_ (And.intro ?_ (And.intro ?_ (And.intro ?_ (And.intro ?_ (And.intro ?_ (And.intro ?_ (And.intro ?_ (trivial)))))))))))))))))))) ?_
       rotate_left 16
       ·refine cZ 26 rfl (by decide) ?_
        intro f9 w2 hE hs hl
        have e6:f9.tmps.getD 6 undef=_:=bX hl 6 (by kernel_rfl) (by kernel_rfl) (h.holds 6 _ rfl)
        have h:=aq [(6,_)] hs rfl (holds_lk ⟨e6,trivial⟩)
        refine ac h (al cy (h.ev rfl)) rfl ?_;intro f h
        refine ah ?_
        have e9:=h.holds 26 _ rfl
        refine ⟨?_,rfl⟩
        refine e9.trans ?_
        exact rfl
       ·refine aT 27 rfl (by decide) (by decide) ?_
        intro f9 w2 hE hs hd9 hl
        have e26:f9.tmps.getD 26 undef=_:=aH hl 26 0 (by kernel_rfl) (by kernel_rfl)
        have h:=aq [(26,_)] hs hd9 (holds_lk ⟨e26,trivial⟩)
        have s:=s.more hE
        have z:=St.start w2
        refine aM (bc.subL (bc.of_own s 0 rfl) 33 33 (D:=au (L.getD k z3).1.pr) (co _ _ _ _)) h aL rfl (ak _) rfl ?_;intro f h
        refine ah ?_
        have e9:=h.holds 27 _ rfl
        refine ⟨?_,Ext.refl _,fun h9=>absurd h9 (by decide)⟩
        refine e9.trans ?_
        exact rfl
       ·refine aT 28 rfl (by decide) (by decide) ?_
        intro f9 w2 hE hs hd9 hl
        have e27:f9.tmps.getD 27 undef=_:=aH hl 27 1 (by kernel_rfl) (by kernel_rfl)
        have h:=aq [(27,_)] hs hd9 (holds_lk ⟨e27,trivial⟩)
        have s:=s.more hE
        have z:=St.start w2
        refine aF h s kA (aO (.bool true) (ep (L.getD k z3).1.pr _) (congrArg Value.bool h0)) rfl rfl ?_;intro f w1 v9 hT hE h s;obtain rfl:=hT
        refine ah ?_
        have e9:=h.holds 28 _ rfl
        refine ⟨?_,hE,fun h9=>absurd h9 (by decide)⟩
        refine e9.trans ?_
        exact rfl
       ·refine aT 29 rfl (by decide) (by decide) ?_
        intro f9 w2 hE hs hd9 hl
        have e28:f9.tmps.getD 28 undef=_:=aH hl 28 2 (by kernel_rfl) (by kernel_rfl)
        have h:=aq [(28,_)] hs hd9 (holds_lk ⟨e28,trivial⟩)
        have s:=s.more hE
        have z:=St.start w2
        refine ac h (ag (h.ev rfl)) rfl ?_;intro f h
        refine ah ?_
        have e9:=h.holds 29 _ rfl
        refine ⟨?_,Ext.refl _,fun h9=>absurd h9 (by decide)⟩
        refine e9.trans ?_
        exact rfl
       ·refine aT 30 rfl (by decide) (by decide) ?_
        intro f9 w2 hE hs hd9 hl
        have e6:f9.tmps.getD 6 undef=_:=bX hl 6 (by kernel_rfl) (by kernel_rfl) (h.holds 6 _ rfl)
        have e29:f9.tmps.getD 29 undef=_:=aH hl 29 3 (by kernel_rfl) (by kernel_rfl)
        have h:=aq [(6,_),(29,_)] hs hd9 (holds_lk ⟨e6,e29,trivial⟩)
        have s:=s.more hE
        have z:=St.start w2
        refine aB h rfl rfl rfl ?_
        refine ac h (al bI (h.ev rfl)) rfl ?_;intro f h
        refine ah ?_
        have e9:=h.holds 30 _ rfl
        refine ⟨?_,Ext.refl _,fun h9=>absurd h9 (by decide)⟩
        refine e9.trans ?_
        exact rfl
       ·refine aT 31 rfl (by decide) (by decide) ?_
        intro f9 w2 hE hs hd9 hl
        have e30:f9.tmps.getD 30 undef=_:=aH hl 30 4 (by kernel_rfl) (by kernel_rfl)
        have e29:f9.tmps.getD 29 undef=_:=aH hl 29 3 (by kernel_rfl) (by kernel_rfl)
        have h:=aq [(30,_),(29,_)] hs hd9 (holds_lk ⟨e30,e29,trivial⟩)
        have s:=s.more hE
        have z:=St.start w2
        refine aB h rfl rfl rfl ?_
        refine ar (V:=(L.getD k z3).2.1) (am (bc.of_own s 0 rfl) 66 (bC _ _ _ _)) h bH rfl rfl ?_;intro f h
        refine ah ?_
        have e9:=h.holds 31 _ rfl
        refine ⟨?_,Ext.refl _,fun h9=>absurd h9 (by decide)⟩
        refine e9.trans ?_
        exact rfl
       ·refine aT 32 rfl (by decide) (by decide) ?_
        intro f9 w2 hE hs hd9 hl
        have e31:f9.tmps.getD 31 undef=_:=aH hl 31 5 (by kernel_rfl) (by kernel_rfl)
        have e29:f9.tmps.getD 29 undef=_:=aH hl 29 3 (by kernel_rfl) (by kernel_rfl)
        have h:=aq [(31,_),(29,_)] hs hd9 (holds_lk ⟨e31,e29,trivial⟩)
        have s:=s.more hE
        have z:=St.start w2
        refine aB h rfl rfl rfl ?_
        refine ac h (aY ((hO.2 _ (bh hkl)).1.keep s.ext) Tryz.underlying36 (h.ev rfl)) rfl ?_;intro f h
        refine ah ?_
        have e9:=h.holds 32 _ rfl
        refine ⟨?_,Ext.refl _,fun h9=>absurd h9 (by decide)⟩
        refine e9.trans ?_
        exact rfl
       ·refine aT 33 rfl (by decide) (by decide) ?_
        intro f9 w2 hE hs hd9 hl
        have e32:f9.tmps.getD 32 undef=_:=aH hl 32 6 (by kernel_rfl) (by kernel_rfl)
        have e29:f9.tmps.getD 29 undef=_:=aH hl 29 3 (by kernel_rfl) (by kernel_rfl)
        have h:=aq [(32,_),(29,_)] hs hd9 (holds_lk ⟨e32,e29,trivial⟩)
        have s:=s.more hE
        have z:=St.start w2
        refine aB h rfl rfl rfl ?_
        refine ac h (aw (.bool true) (cc (h.ev rfl) (h.ev rfl)) (congrArg Value.bool (decide_eq_true (by have:=of_decide_eq_true h1;omega)))) rfl ?_;intro f h
        refine ah ?_
        have e9:=h.holds 33 _ rfl
        refine ⟨?_,Ext.refl _,fun h9=>absurd h9 (by decide)⟩
        refine e9.trans ?_
        exact rfl
       ·refine aT 34 rfl (by decide) (by decide) ?_
        intro f9 w2 hE hs hd9 hl
        have e29:f9.tmps.getD 29 undef=_:=aH hl 29 3 (by kernel_rfl) (by kernel_rfl)
        have e33:f9.tmps.getD 33 undef=_:=aH hl 33 7 (by kernel_rfl) (by kernel_rfl)
        have h:=aq [(29,_),(33,_)] hs hd9 (holds_lk ⟨e29,e33,trivial⟩)
        have s:=s.more hE
        have z:=St.start w2
        refine ac h (aJ (h.ev rfl) (h.ev rfl)) rfl ?_;intro f h
        refine ah ?_
        have e9:=h.holds 34 _ rfl
        refine ⟨?_,Ext.refl _,fun h9=>absurd h9 (by decide)⟩
        refine e9.trans ?_
        exact rfl
       ·refine aT 35 rfl (by decide) (by decide) ?_
        intro f9 w2 hE hs hd9 hl
        have e34:f9.tmps.getD 34 undef=_:=aH hl 34 8 (by kernel_rfl) (by kernel_rfl)
        have h:=aq [(34,_)] hs hd9 (holds_lk ⟨e34,trivial⟩)
        have s:=s.more hE
        have z:=St.start w2
        refine ac h (ag (h.ev rfl)) rfl ?_;intro f h
        refine ah ?_
        have e9:=h.holds 35 _ rfl
        refine ⟨?_,Ext.refl _,fun h9=>absurd h9 (by decide)⟩
        refine e9.trans ?_
        exact rfl
       ·refine aT 36 rfl (by decide) (by decide) ?_
        intro f9 w2 hE hs hd9 hl
        have e6:f9.tmps.getD 6 undef=_:=bX hl 6 (by kernel_rfl) (by kernel_rfl) (h.holds 6 _ rfl)
        have e35:f9.tmps.getD 35 undef=_:=aH hl 35 9 (by kernel_rfl) (by kernel_rfl)
        have h:=aq [(6,_),(35,_)] hs hd9 (holds_lk ⟨e6,e35,trivial⟩)
        have s:=s.more hE
        have z:=St.start w2
        refine aB h rfl rfl rfl ?_
        refine ac h (al bI (h.ev rfl)) rfl ?_;intro f h
        refine ah ?_
        have e9:=h.holds 36 _ rfl
        refine ⟨?_,Ext.refl _,fun h9=>absurd h9 (by decide)⟩
        refine e9.trans ?_
        exact rfl
       ·refine aT 37 rfl (by decide) (by decide) ?_
        intro f9 w2 hE hs hd9 hl
        have e36:f9.tmps.getD 36 undef=_:=aH hl 36 10 (by kernel_rfl) (by kernel_rfl)
        have e35:f9.tmps.getD 35 undef=_:=aH hl 35 9 (by kernel_rfl) (by kernel_rfl)
        have h:=aq [(36,_),(35,_)] hs hd9 (holds_lk ⟨e36,e35,trivial⟩)
        have s:=s.more hE
        have z:=St.start w2
        refine aB h rfl rfl rfl ?_
        refine ar (V:=(L.getD k z3).2.1) (am (bc.of_own s 0 rfl) 66 (bC _ _ _ _)) h bH rfl rfl ?_;intro f h
        refine ah ?_
        have e9:=h.holds 37 _ rfl
        refine ⟨?_,Ext.refl _,fun h9=>absurd h9 (by decide)⟩
        refine e9.trans ?_
        exact rfl
       ·refine aT 38 rfl (by decide) (by decide) ?_
        intro f9 w2 hE hs hd9 hl
        have e37:f9.tmps.getD 37 undef=_:=aH hl 37 11 (by kernel_rfl) (by kernel_rfl)
        have e35:f9.tmps.getD 35 undef=_:=aH hl 35 9 (by kernel_rfl) (by kernel_rfl)
        have h:=aq [(37,_),(35,_)] hs hd9 (holds_lk ⟨e37,e35,trivial⟩)
        have s:=s.more hE
        have z:=St.start w2
        refine aB h rfl rfl rfl ?_
        refine ac h (ce ((hO.2 _ (bh hkl)).1.keep s.ext) (0) Tryz.underlying36 cG (h.ev rfl) (h.ev rfl) (by have h9:=of_decide_eq_true h1;omega) (by omega)) rfl ?_;intro f h
        refine ah ?_
        have e9:=h.holds 38 _ rfl
        refine ⟨?_,Ext.refl _,fun h9=>absurd h9 (by decide)⟩
        refine e9.trans ?_
        exact rfl
       ·refine aT 39 rfl (by decide) (by decide) ?_
        intro f9 w2 hE hs hd9 hl
        have e38:f9.tmps.getD 38 undef=_:=aH hl 38 12 (by kernel_rfl) (by kernel_rfl)
        have e35:f9.tmps.getD 35 undef=_:=aH hl 35 9 (by kernel_rfl) (by kernel_rfl)
        have h:=aq [(38,_),(35,_)] hs hd9 (holds_lk ⟨e38,e35,trivial⟩)
        have s:=s.more hE
        have z:=St.start w2
        refine aB h rfl rfl rfl ?_
        refine aM (((hO.2 _ (bh hkl)).1.keep s.ext).el (0) (by omega) (by decide) (D:=au ((L.getD k z3).1.sc.getD 0 a8)) (cK (L.getD k z3).1.sc 0 (by have h9:=of_decide_eq_true h1;omega))) h aL rfl (ak _) rfl ?_;intro f h
        refine ah ?_
        have e9:=h.holds 39 _ rfl
        refine ⟨?_,Ext.refl _,fun h9=>absurd h9 (by decide)⟩
        refine e9.trans ?_
        exact rfl
       ·refine aT 40 rfl (by decide) (by decide) ?_
        intro f9 w2 hE hs hd9 hl
        have e6:f9.tmps.getD 6 undef=_:=bX hl 6 (by kernel_rfl) (by kernel_rfl) (h.holds 6 _ rfl)
        have e35:f9.tmps.getD 35 undef=_:=aH hl 35 9 (by kernel_rfl) (by kernel_rfl)
        have h:=aq [(6,_),(35,_)] hs hd9 (holds_lk ⟨e6,e35,trivial⟩)
        have s:=s.more hE
        have z:=St.start w2
        refine aB h rfl rfl rfl ?_
        refine ac h (al a6 (h.ev rfl)) rfl ?_;intro f h
        refine ah ?_
        have e9:=h.holds 40 _ rfl
        refine ⟨?_,Ext.refl _,fun h9=>absurd h9 (by decide)⟩
        refine e9.trans ?_
        exact rfl
       ·refine aT 41 rfl (by decide) (by decide) ?_
        intro f9 w2 hE hs hd9 hl
        have e40:f9.tmps.getD 40 undef=_:=aH hl 40 14 (by kernel_rfl) (by kernel_rfl)
        have e35:f9.tmps.getD 35 undef=_:=aH hl 35 9 (by kernel_rfl) (by kernel_rfl)
        have h:=aq [(40,_),(35,_)] hs hd9 (holds_lk ⟨e40,e35,trivial⟩)
        have s:=s.more hE
        have z:=St.start w2
        refine aB h rfl rfl rfl ?_
        refine aM (bc.subL (bc.of_own s 0 rfl) 0 33 (D:=au (L.getD k z3).1.me) (bU _ _ _ _)) h aL rfl (ak _) rfl ?_;intro f h
        refine ah ?_
        have e9:=h.holds 41 _ rfl
        refine ⟨?_,Ext.refl _,fun h9=>absurd h9 (by decide)⟩
        refine e9.trans ?_
        exact rfl
       ·exact cr (by decide) (by decide)
       ·exact cr (by decide) (by decide)
       ·exact cr (by decide) (by decide)
       ·intro f9 w2 hE hs hd9 hWp hT hR hFr hDj
        replace h:=sl_new (ops:=_) [(26,_),(27,_),(28,_),(29,_),(30,_),(31,_),(32,_),(33,_),(34,_),(35,_),(36,_),(37,_),(38,_),(39,_),(40,_),(41,_)] h hs hd9 hR ⟨hT 0 26 (by decide) rfl,hT 1 27 (by decide) rfl,hT 2 28 (by decide) rfl,hT 3 29 (by decide) rfl,hT 4 30 (by decide) rfl,hT 5 31 (by decide) rfl,hT 6 32 (by decide) rfl,hT 7 33 (by decide) rfl,hT 8 34 (by decide) rfl,hT 9 35 (by decide) rfl,hT 10 36 (by decide) rfl,hT 11 37 (by decide) rfl,hT 12 38 (by decide) rfl,hT 13 39 (by decide) rfl,hT 14 40 (by decide) rfl,hT 15 41 (by decide) rfl,trivial⟩ (by kernel_rfl)
        replace s:=s.more hE
        clear hT hR hFr hDj
        refine eD.of ?_
        refine aB h rfl rfl rfl ?_
        refine ac h (aw (.bool false) (c4 (gM _ _) (by kernel_rfl) (by decide) (h.ev rfl) (h.ev rfl) (decide ((L.getD k z3).1.sc.getD 0 a8=(L.getD k z3).1.me)) (dE _ _)) (congrArg Value.bool h2)) rfl ?_;intro f h
        refine ac h (aJ (h.ev rfl) (h.ev rfl)) rfl ?_;intro f h
        refine ac h (ai (h.ev rfl)) rfl ?_;intro f h
        refine ah ?_
        refine hK18 _ _ ?_
        refine wpIn_ret ?_
        refine aQ ?_
        refine bu ?_
        refine aQ ?_
        refine aQ ?_
        refine bu ?_
        refine aQ ?_
        exact aX rfl h s rfl (by show _=_;rw [kk r0 hkl (by omega)];unfold pb;rw [h0,h1,h2];rfl)
      ·try have h19:=of_decide_eq_true h1
       skip
       have hbs:=s.ext.le
       refine' eL 16 [0] [] [[],[0],[0,1],[0,1,2],[0,1,2,3],[0,1,2,3,4],[0,1,2,3,4,5],[0,1,2,3,4,5,6],[0,1,2,3,4,5,6,7],[0,1,2,3,4,5,6,7,8],[0,1,2,3,4,5,6,7,8,9],[0,1,2,3,4,5,6,7,8,9,10],[0,1,2,3,4,5,6,7,8,9,10,11],[0,1,2,3,4,5,6,7,8,9,10,11,12],[0,1,2,3,4,5,6,7,8,9],[0,1,2,3,4,5,6,7,8,9,14],[0,1,2,3,4,5,6,7,8,9,10,11,12,13,14,15],[0,1,2,3,4,5,6,7,8,9,10,11,12,13,14,15,16],[0,1,2,3,4,5,6,7,8,9,10,11,12,13,14,15,16,17]] (is _::is _::is _::is _::is _::is _::is _::is _::is _::is _::is _::is _::is _::is _::is _::is _::is undef::is undef::is undef::[]) (fun _=>True) h s (by kernel_rfl) (by kernel_rfl) (by kernel_rfl) (by kernel_rfl) rfl (fun _ _ h _=>h) (trivial) ⟨⟨_,rfl⟩,trivial⟩ ⟨az _,az _,az _,az _,az _,az _,az _,az _,az _,az _,az _,az _,az _,az _,az _,az _,az _,az _,az _,trivial⟩ (And.intro ?_ (And.intro ?_ (And.intro ?_ (And.intro ?_ (And.intro ?_ (And.intro ?_ (And.intro ?_ (And.intro ?_ (And.intro ?_ (And.intro ?_ (And.intro ?_ (And.intro ?_ (And.intro ?_ (And.intro ?_ (And.intro ?_ (And.intro ?_ (And.intro ?_ (And.intro ?_ (And.intro ?_ (trivial)))))))))))))))))))) ?_
       rotate_left 16
       ·refine cZ 26 rfl (by decide) ?_
        intro f9 w2 hE hs hl
        have e6:f9.tmps.getD 6 undef=_:=bX hl 6 (by kernel_rfl) (by kernel_rfl) (h.holds 6 _ rfl)
        have h:=aq [(6,_)] hs rfl (holds_lk ⟨e6,trivial⟩)
        refine ac h (al cy (h.ev rfl)) rfl ?_;intro f h
        refine ah ?_
        have e9:=h.holds 26 _ rfl
        refine ⟨?_,rfl⟩
        refine e9.trans ?_
        exact rfl
       ·refine aT 27 rfl (by decide) (by decide) ?_
        intro f9 w2 hE hs hd9 hl
        have e26:f9.tmps.getD 26 undef=_:=aH hl 26 0 (by kernel_rfl) (by kernel_rfl)
        have h:=aq [(26,_)] hs hd9 (holds_lk ⟨e26,trivial⟩)
        have s:=s.more hE
        have z:=St.start w2
        refine aM (bc.subL (bc.of_own s 0 rfl) 33 33 (D:=au (L.getD k z3).1.pr) (co _ _ _ _)) h aL rfl (ak _) rfl ?_;intro f h
        refine ah ?_
        have e9:=h.holds 27 _ rfl
        refine ⟨?_,Ext.refl _,fun h9=>absurd h9 (by decide)⟩
        refine e9.trans ?_
        exact rfl
       ·refine aT 28 rfl (by decide) (by decide) ?_
        intro f9 w2 hE hs hd9 hl
        have e27:f9.tmps.getD 27 undef=_:=aH hl 27 1 (by kernel_rfl) (by kernel_rfl)
        have h:=aq [(27,_)] hs hd9 (holds_lk ⟨e27,trivial⟩)
        have s:=s.more hE
        have z:=St.start w2
        refine aF h s kA (aO (.bool true) (ep (L.getD k z3).1.pr _) (congrArg Value.bool h0)) rfl rfl ?_;intro f w1 v9 hT hE h s;obtain rfl:=hT
        refine ah ?_
        have e9:=h.holds 28 _ rfl
        refine ⟨?_,hE,fun h9=>absurd h9 (by decide)⟩
        refine e9.trans ?_
        exact rfl
       ·refine aT 29 rfl (by decide) (by decide) ?_
        intro f9 w2 hE hs hd9 hl
        have e28:f9.tmps.getD 28 undef=_:=aH hl 28 2 (by kernel_rfl) (by kernel_rfl)
        have h:=aq [(28,_)] hs hd9 (holds_lk ⟨e28,trivial⟩)
        have s:=s.more hE
        have z:=St.start w2
        refine ac h (ag (h.ev rfl)) rfl ?_;intro f h
        refine ah ?_
        have e9:=h.holds 29 _ rfl
        refine ⟨?_,Ext.refl _,fun h9=>absurd h9 (by decide)⟩
        refine e9.trans ?_
        exact rfl
       ·refine aT 30 rfl (by decide) (by decide) ?_
        intro f9 w2 hE hs hd9 hl
        have e6:f9.tmps.getD 6 undef=_:=bX hl 6 (by kernel_rfl) (by kernel_rfl) (h.holds 6 _ rfl)
        have e29:f9.tmps.getD 29 undef=_:=aH hl 29 3 (by kernel_rfl) (by kernel_rfl)
        have h:=aq [(6,_),(29,_)] hs hd9 (holds_lk ⟨e6,e29,trivial⟩)
        have s:=s.more hE
        have z:=St.start w2
        refine aB h rfl rfl rfl ?_
        refine ac h (al bI (h.ev rfl)) rfl ?_;intro f h
        refine ah ?_
        have e9:=h.holds 30 _ rfl
        refine ⟨?_,Ext.refl _,fun h9=>absurd h9 (by decide)⟩
        refine e9.trans ?_
        exact rfl
       ·refine aT 31 rfl (by decide) (by decide) ?_
        intro f9 w2 hE hs hd9 hl
        have e30:f9.tmps.getD 30 undef=_:=aH hl 30 4 (by kernel_rfl) (by kernel_rfl)
        have e29:f9.tmps.getD 29 undef=_:=aH hl 29 3 (by kernel_rfl) (by kernel_rfl)
        have h:=aq [(30,_),(29,_)] hs hd9 (holds_lk ⟨e30,e29,trivial⟩)
        have s:=s.more hE
        have z:=St.start w2
        refine aB h rfl rfl rfl ?_
        refine ar (V:=(L.getD k z3).2.1) (am (bc.of_own s 0 rfl) 66 (bC _ _ _ _)) h bH rfl rfl ?_;intro f h
        refine ah ?_
        have e9:=h.holds 31 _ rfl
        refine ⟨?_,Ext.refl _,fun h9=>absurd h9 (by decide)⟩
        refine e9.trans ?_
        exact rfl
       ·refine aT 32 rfl (by decide) (by decide) ?_
        intro f9 w2 hE hs hd9 hl
        have e31:f9.tmps.getD 31 undef=_:=aH hl 31 5 (by kernel_rfl) (by kernel_rfl)
        have e29:f9.tmps.getD 29 undef=_:=aH hl 29 3 (by kernel_rfl) (by kernel_rfl)
        have h:=aq [(31,_),(29,_)] hs hd9 (holds_lk ⟨e31,e29,trivial⟩)
        have s:=s.more hE
        have z:=St.start w2
        refine aB h rfl rfl rfl ?_
        refine ac h (aY ((hO.2 _ (bh hkl)).1.keep s.ext) Tryz.underlying36 (h.ev rfl)) rfl ?_;intro f h
        refine ah ?_
        have e9:=h.holds 32 _ rfl
        refine ⟨?_,Ext.refl _,fun h9=>absurd h9 (by decide)⟩
        refine e9.trans ?_
        exact rfl
       ·refine aT 33 rfl (by decide) (by decide) ?_
        intro f9 w2 hE hs hd9 hl
        have e32:f9.tmps.getD 32 undef=_:=aH hl 32 6 (by kernel_rfl) (by kernel_rfl)
        have e29:f9.tmps.getD 29 undef=_:=aH hl 29 3 (by kernel_rfl) (by kernel_rfl)
        have h:=aq [(32,_),(29,_)] hs hd9 (holds_lk ⟨e32,e29,trivial⟩)
        have s:=s.more hE
        have z:=St.start w2
        refine aB h rfl rfl rfl ?_
        refine ac h (aw (.bool true) (cc (h.ev rfl) (h.ev rfl)) (congrArg Value.bool (decide_eq_true (by have:=of_decide_eq_true h1;omega)))) rfl ?_;intro f h
        refine ah ?_
        have e9:=h.holds 33 _ rfl
        refine ⟨?_,Ext.refl _,fun h9=>absurd h9 (by decide)⟩
        refine e9.trans ?_
        exact rfl
       ·refine aT 34 rfl (by decide) (by decide) ?_
        intro f9 w2 hE hs hd9 hl
        have e29:f9.tmps.getD 29 undef=_:=aH hl 29 3 (by kernel_rfl) (by kernel_rfl)
        have e33:f9.tmps.getD 33 undef=_:=aH hl 33 7 (by kernel_rfl) (by kernel_rfl)
        have h:=aq [(29,_),(33,_)] hs hd9 (holds_lk ⟨e29,e33,trivial⟩)
        have s:=s.more hE
        have z:=St.start w2
        refine ac h (aJ (h.ev rfl) (h.ev rfl)) rfl ?_;intro f h
        refine ah ?_
        have e9:=h.holds 34 _ rfl
        refine ⟨?_,Ext.refl _,fun h9=>absurd h9 (by decide)⟩
        refine e9.trans ?_
        exact rfl
       ·refine aT 35 rfl (by decide) (by decide) ?_
        intro f9 w2 hE hs hd9 hl
        have e34:f9.tmps.getD 34 undef=_:=aH hl 34 8 (by kernel_rfl) (by kernel_rfl)
        have h:=aq [(34,_)] hs hd9 (holds_lk ⟨e34,trivial⟩)
        have s:=s.more hE
        have z:=St.start w2
        refine ac h (ag (h.ev rfl)) rfl ?_;intro f h
        refine ah ?_
        have e9:=h.holds 35 _ rfl
        refine ⟨?_,Ext.refl _,fun h9=>absurd h9 (by decide)⟩
        refine e9.trans ?_
        exact rfl
       ·refine aT 36 rfl (by decide) (by decide) ?_
        intro f9 w2 hE hs hd9 hl
        have e6:f9.tmps.getD 6 undef=_:=bX hl 6 (by kernel_rfl) (by kernel_rfl) (h.holds 6 _ rfl)
        have e35:f9.tmps.getD 35 undef=_:=aH hl 35 9 (by kernel_rfl) (by kernel_rfl)
        have h:=aq [(6,_),(35,_)] hs hd9 (holds_lk ⟨e6,e35,trivial⟩)
        have s:=s.more hE
        have z:=St.start w2
        refine aB h rfl rfl rfl ?_
        refine ac h (al bI (h.ev rfl)) rfl ?_;intro f h
        refine ah ?_
        have e9:=h.holds 36 _ rfl
        refine ⟨?_,Ext.refl _,fun h9=>absurd h9 (by decide)⟩
        refine e9.trans ?_
        exact rfl
       ·refine aT 37 rfl (by decide) (by decide) ?_
        intro f9 w2 hE hs hd9 hl
        have e36:f9.tmps.getD 36 undef=_:=aH hl 36 10 (by kernel_rfl) (by kernel_rfl)
        have e35:f9.tmps.getD 35 undef=_:=aH hl 35 9 (by kernel_rfl) (by kernel_rfl)
        have h:=aq [(36,_),(35,_)] hs hd9 (holds_lk ⟨e36,e35,trivial⟩)
        have s:=s.more hE
        have z:=St.start w2
        refine aB h rfl rfl rfl ?_
        refine ar (V:=(L.getD k z3).2.1) (am (bc.of_own s 0 rfl) 66 (bC _ _ _ _)) h bH rfl rfl ?_;intro f h
        refine ah ?_
        have e9:=h.holds 37 _ rfl
        refine ⟨?_,Ext.refl _,fun h9=>absurd h9 (by decide)⟩
        refine e9.trans ?_
        exact rfl
       ·refine aT 38 rfl (by decide) (by decide) ?_
        intro f9 w2 hE hs hd9 hl
        have e37:f9.tmps.getD 37 undef=_:=aH hl 37 11 (by kernel_rfl) (by kernel_rfl)
        have e35:f9.tmps.getD 35 undef=_:=aH hl 35 9 (by kernel_rfl) (by kernel_rfl)
        have h:=aq [(37,_),(35,_)] hs hd9 (holds_lk ⟨e37,e35,trivial⟩)
        have s:=s.more hE
        have z:=St.start w2
        refine aB h rfl rfl rfl ?_
        refine ac h (ce ((hO.2 _ (bh hkl)).1.keep s.ext) (0) Tryz.underlying36 cG (h.ev rfl) (h.ev rfl) (by have h9:=of_decide_eq_true h1;omega) (by omega)) rfl ?_;intro f h
        refine ah ?_
        have e9:=h.holds 38 _ rfl
        refine ⟨?_,Ext.refl _,fun h9=>absurd h9 (by decide)⟩
        refine e9.trans ?_
        exact rfl
       ·refine aT 39 rfl (by decide) (by decide) ?_
        intro f9 w2 hE hs hd9 hl
        have e38:f9.tmps.getD 38 undef=_:=aH hl 38 12 (by kernel_rfl) (by kernel_rfl)
        have e35:f9.tmps.getD 35 undef=_:=aH hl 35 9 (by kernel_rfl) (by kernel_rfl)
        have h:=aq [(38,_),(35,_)] hs hd9 (holds_lk ⟨e38,e35,trivial⟩)
        have s:=s.more hE
        have z:=St.start w2
        refine aB h rfl rfl rfl ?_
        refine aM (((hO.2 _ (bh hkl)).1.keep s.ext).el (0) (by omega) (by decide) (D:=au ((L.getD k z3).1.sc.getD 0 a8)) (cK (L.getD k z3).1.sc 0 (by have h9:=of_decide_eq_true h1;omega))) h aL rfl (ak _) rfl ?_;intro f h
        refine ah ?_
        have e9:=h.holds 39 _ rfl
        refine ⟨?_,Ext.refl _,fun h9=>absurd h9 (by decide)⟩
        refine e9.trans ?_
        exact rfl
       ·refine aT 40 rfl (by decide) (by decide) ?_
        intro f9 w2 hE hs hd9 hl
        have e6:f9.tmps.getD 6 undef=_:=bX hl 6 (by kernel_rfl) (by kernel_rfl) (h.holds 6 _ rfl)
        have e35:f9.tmps.getD 35 undef=_:=aH hl 35 9 (by kernel_rfl) (by kernel_rfl)
        have h:=aq [(6,_),(35,_)] hs hd9 (holds_lk ⟨e6,e35,trivial⟩)
        have s:=s.more hE
        have z:=St.start w2
        refine aB h rfl rfl rfl ?_
        refine ac h (al a6 (h.ev rfl)) rfl ?_;intro f h
        refine ah ?_
        have e9:=h.holds 40 _ rfl
        refine ⟨?_,Ext.refl _,fun h9=>absurd h9 (by decide)⟩
        refine e9.trans ?_
        exact rfl
       ·refine aT 41 rfl (by decide) (by decide) ?_
        intro f9 w2 hE hs hd9 hl
        have e40:f9.tmps.getD 40 undef=_:=aH hl 40 14 (by kernel_rfl) (by kernel_rfl)
        have e35:f9.tmps.getD 35 undef=_:=aH hl 35 9 (by kernel_rfl) (by kernel_rfl)
        have h:=aq [(40,_),(35,_)] hs hd9 (holds_lk ⟨e40,e35,trivial⟩)
        have s:=s.more hE
        have z:=St.start w2
        refine aB h rfl rfl rfl ?_
        refine aM (bc.subL (bc.of_own s 0 rfl) 0 33 (D:=au (L.getD k z3).1.me) (bU _ _ _ _)) h aL rfl (ak _) rfl ?_;intro f h
        refine ah ?_
        have e9:=h.holds 41 _ rfl
        refine ⟨?_,Ext.refl _,fun h9=>absurd h9 (by decide)⟩
        refine e9.trans ?_
        exact rfl
       ·exact cr (by decide) (by decide)
       ·exact cr (by decide) (by decide)
       ·exact cr (by decide) (by decide)
       ·intro f9 w2 hE hs hd9 hWp hT hR hFr hDj
        replace h:=sl_new (ops:=_) [(26,_),(27,_),(28,_),(29,_),(30,_),(31,_),(32,_),(33,_),(34,_),(35,_),(36,_),(37,_),(38,_),(39,_),(40,_),(41,_)] h hs hd9 hR ⟨hT 0 26 (by decide) rfl,hT 1 27 (by decide) rfl,hT 2 28 (by decide) rfl,hT 3 29 (by decide) rfl,hT 4 30 (by decide) rfl,hT 5 31 (by decide) rfl,hT 6 32 (by decide) rfl,hT 7 33 (by decide) rfl,hT 8 34 (by decide) rfl,hT 9 35 (by decide) rfl,hT 10 36 (by decide) rfl,hT 11 37 (by decide) rfl,hT 12 38 (by decide) rfl,hT 13 39 (by decide) rfl,hT 14 40 (by decide) rfl,hT 15 41 (by decide) rfl,trivial⟩ (by kernel_rfl)
        replace s:=s.more hE
        clear hT hR hFr hDj
        refine eD.of ?_
        refine aB h rfl rfl rfl ?_
        refine ac h (aw (.bool true) (c4 (gM _ _) (by kernel_rfl) (by decide) (h.ev rfl) (h.ev rfl) (decide ((L.getD k z3).1.sc.getD 0 a8=(L.getD k z3).1.me)) (dE _ _)) (congrArg Value.bool h2)) rfl ?_;intro f h
        refine ac h (aJ (h.ev rfl) (h.ev rfl)) rfl ?_;intro f h
        refine ac h (ai (h.ev rfl)) rfl ?_;intro f h
        refine ah ?_
        refine hK18 _ _ ?_
        refine wpIn_ret ?_
        refine aQ ?_
        refine bu ?_
        refine aQ ?_
        refine aQ ?_
        refine bu ?_
        refine aQ ?_
        exact aX rfl h s rfl (by show _=_;rw [kk r0 hkl (by omega)];unfold pb;rw [h0,h1,h2];rfl)
   ·replace hc:=of_decide_eq_false hc
    refine wpIn_skip ?_
    refine hK16 _ _ ?_
    refine aj fun K19 hK19=>?_
    cases p0:(decide ((L.getD k z3).1.pr=(ec (aN L) (L.getD k z3).1.me)):Bool)
    ·skip
     have hbs:=s.ext.le
     refine' eL 15 [0,2,3] [] [[],[0],[],[],[3],[2,3,4],[0,1,2,3,4,5],[0,1,2,3,4,5,6],[0,1,2,3,4,5,6,7],[0,1,2,3,4,5,6,7,8],[0,1,2,3,4,5,6,7],[0,1,2,3,4,5,6,7],[0,1,2,3,4,5,6,7,11],[0,1,2,3,4,5,6,7],[0,1,2,3,4,5,6,7,10,11,12,13],[0,1,2,3,4,5,6,7,8,9,10,11,12,13,14],[0,1,2,3,4,5,6,7,8,9,10,11,12,13,14,15],[0,1,2,3,4,5,6,7,8,9,10,11,12,13,14,15,16]] (is _::is _::is _::is _::is _::is _::is _::is _::is _::is _::is _::is _::is _::is _::is _::is undef::is undef::is undef::[]) (fun _=>True) h s (by kernel_rfl) (by kernel_rfl) (by kernel_rfl) (by kernel_rfl) rfl (fun _ _ h _=>h) (trivial) ⟨⟨_,rfl⟩,⟨_,rfl⟩,⟨_,rfl⟩,trivial⟩ ⟨az _,az _,az _,az _,az _,az _,az _,az _,az _,az _,az _,az _,az _,az _,az _,az _,az _,az _,trivial⟩ (And.intro ?_ (And.intro ?_ (And.intro ?_ (And.intro ?_ (And.intro ?_ (And.intro ?_ (And.intro ?_ (And.intro ?_ (And.intro ?_ (And.intro ?_ (And.intro ?_ (And.intro ?_ (And.intro ?_ (And.intro ?_ (And.intro ?_ (And.intro ?_ (And.intro ?_ (And.intro ?_ (trivial))))))))))))))))))) ?_
     rotate_left 15
     ·refine cZ 44 rfl (by decide) ?_
      intro f9 w2 hE hs hl
      have e6:f9.tmps.getD 6 undef=_:=bX hl 6 (by kernel_rfl) (by kernel_rfl) (h.holds 6 _ rfl)
      have h:=aq [(6,_)] hs rfl (holds_lk ⟨e6,trivial⟩)
      refine ac h (al cy (h.ev rfl)) rfl ?_;intro f h
      refine ah ?_
      have e9:=h.holds 44 _ rfl
      refine ⟨?_,rfl⟩
      refine e9.trans ?_
      exact rfl
     ·refine aT 45 rfl (by decide) (by decide) ?_
      intro f9 w2 hE hs hd9 hl
      have e44:f9.tmps.getD 44 undef=_:=aH hl 44 0 (by kernel_rfl) (by kernel_rfl)
      have h:=aq [(44,_)] hs hd9 (holds_lk ⟨e44,trivial⟩)
      have s:=s.more hE
      have z:=St.start w2
      refine aM (bc.subL (bc.of_own s 0 rfl) 33 33 (D:=au (L.getD k z3).1.pr) (co _ _ _ _)) h aL rfl (ak _) rfl ?_;intro f h
      refine ah ?_
      have e9:=h.holds 45 _ rfl
      refine ⟨?_,Ext.refl _,fun h9=>absurd h9 (by decide)⟩
      refine e9.trans ?_
      exact rfl
     ·refine cZ 46 rfl (by decide) ?_
      intro f9 w2 hE hs hl
      have e3:f9.tmps.getD 3 undef=_:=bX hl 3 (by kernel_rfl) (by kernel_rfl) (h.holds 3 _ rfl)
      have h:=aq [(3,_)] hs rfl (holds_lk ⟨e3,trivial⟩)
      refine ac h (ag (h.ev rfl)) rfl ?_;intro f h
      refine ah ?_
      have e9:=h.holds 46 _ rfl
      refine ⟨?_,rfl⟩
      refine e9.trans ?_
      exact rfl
     ·refine cZ 47 rfl (by decide) ?_
      intro f9 w2 hE hs hl
      have e6:f9.tmps.getD 6 undef=_:=bX hl 6 (by kernel_rfl) (by kernel_rfl) (h.holds 6 _ rfl)
      have h:=aq [(6,_)] hs rfl (holds_lk ⟨e6,trivial⟩)
      refine ac h (al a6 (h.ev rfl)) rfl ?_;intro f h
      refine ah ?_
      have e9:=h.holds 47 _ rfl
      refine ⟨?_,rfl⟩
      refine e9.trans ?_
      exact rfl
     ·refine aT 48 rfl (by decide) (by decide) ?_
      intro f9 w2 hE hs hd9 hl
      have e47:f9.tmps.getD 47 undef=_:=aH hl 47 3 (by kernel_rfl) (by kernel_rfl)
      have h:=aq [(47,_)] hs hd9 (holds_lk ⟨e47,trivial⟩)
      have s:=s.more hE
      have z:=St.start w2
      refine aM (bc.subL (bc.of_own s 0 rfl) 0 33 (D:=au (L.getD k z3).1.me) (bU _ _ _ _)) h aL rfl (ak _) rfl ?_;intro f h
      refine ah ?_
      have e9:=h.holds 48 _ rfl
      refine ⟨?_,Ext.refl _,fun h9=>absurd h9 (by decide)⟩
      refine e9.trans ?_
      exact rfl
     ·refine aT 49 rfl (by decide) (by decide) ?_
      intro f9 w2 hE hs hd9 hl
      have e46:f9.tmps.getD 46 undef=_:=aH hl 46 2 (by kernel_rfl) (by kernel_rfl)
      have e48:f9.tmps.getD 48 undef=_:=aH hl 48 4 (by kernel_rfl) (by kernel_rfl)
      have h:=aq [(46,_),(48,_)] hs hd9 (holds_lk ⟨e46,e48,trivial⟩)
      have s:=s.more hE
      have z:=St.start w2
      refine aF h s uT (hI (aN L) v8 (L.getD k z3).1.me _ (bK.of_own (s.getSl 1 rfl)) (by omega) hrs.ring (lW hkl)) rfl rfl ?_;intro f w1 v9 hT hE h s;obtain rfl:=hT
      refine ah ?_
      have e9:=h.holds 49 _ rfl
      refine ⟨?_,hE,fun h9=>absurd h9 (by decide)⟩
      refine e9.trans ?_
      exact rfl
     ·refine aT 50 rfl (by decide) (by decide) ?_
      intro f9 w2 hE hs hd9 hl
      have e45:f9.tmps.getD 45 undef=_:=aH hl 45 1 (by kernel_rfl) (by kernel_rfl)
      have e49:f9.tmps.getD 49 undef=_:=aH hl 49 5 (by kernel_rfl) (by kernel_rfl)
      have h:=aq [(45,_),(49,_)] hs hd9 (holds_lk ⟨e45,e49,trivial⟩)
      have s:=s.more hE
      have z:=St.start w2
      refine ac h (aw (.bool true) (dc (gM _ _) (by kernel_rfl) (by decide) (h.ev rfl) (h.ev rfl) (decide ((L.getD k z3).1.pr=(ec (aN L) (L.getD k z3).1.me))) (dE _ _)) (by rw [p0];rfl)) rfl ?_;intro f h
      refine ah ?_
      have e9:=h.holds 50 _ rfl
      refine ⟨?_,Ext.refl _,fun h9=>absurd h9 (by decide)⟩
      refine e9.trans ?_
      exact rfl
     ·refine aT 51 rfl (by decide) (by decide) ?_
      intro f9 w2 hE hs hd9 hl
      have e50:f9.tmps.getD 50 undef=_:=aH hl 50 6 (by kernel_rfl) (by kernel_rfl)
      have h:=aq [(50,_)] hs hd9 (holds_lk ⟨e50,trivial⟩)
      have s:=s.more hE
      have z:=St.start w2
      refine ac h (ag (h.ev rfl)) rfl ?_;intro f h
      refine ah ?_
      have e9:=h.holds 51 _ rfl
      refine ⟨?_,Ext.refl _,fun h9=>absurd h9 (by decide)⟩
      refine e9.trans ?_
      exact rfl
     ·refine aT 52 rfl (by decide) (by decide) ?_
      intro f9 w2 hE hs hd9 hl
      have e6:f9.tmps.getD 6 undef=_:=bX hl 6 (by kernel_rfl) (by kernel_rfl) (h.holds 6 _ rfl)
      have e51:f9.tmps.getD 51 undef=_:=aH hl 51 7 (by kernel_rfl) (by kernel_rfl)
      have h:=aq [(6,_),(51,_)] hs hd9 (holds_lk ⟨e6,e51,trivial⟩)
      have s:=s.more hE
      have z:=St.start w2
      refine aC (b:=false) h rfl rfl rfl rfl ?_;intro f h
      refine ah ?_
      have e9:=h.holds 52 _ rfl
      refine ⟨?_,Ext.refl _,fun h9=>absurd h9 (by decide)⟩
      refine e9.trans ?_
      exact rfl
     ·refine aT 53 rfl (by decide) (by decide) ?_
      intro f9 w2 hE hs hd9 hl
      have e52:f9.tmps.getD 52 undef=_:=aH hl 52 8 (by kernel_rfl) (by kernel_rfl)
      have e51:f9.tmps.getD 51 undef=_:=aH hl 51 7 (by kernel_rfl) (by kernel_rfl)
      have h:=aq [(52,_),(51,_)] hs hd9 (holds_lk ⟨e52,e51,trivial⟩)
      have s:=s.more hE
      have z:=St.start w2
      refine aC (b:=false) h rfl rfl rfl rfl ?_;intro f h
      refine ah ?_
      have e9:=h.holds 53 _ rfl
      refine ⟨?_,Ext.refl _,fun h9=>absurd h9 (by decide)⟩
      refine e9.trans ?_
      exact rfl
     ·refine aT 54 rfl (by decide) (by decide) ?_
      intro f9 w2 hE hs hd9 hl
      have e3:f9.tmps.getD 3 undef=_:=bX hl 3 (by kernel_rfl) (by kernel_rfl) (h.holds 3 _ rfl)
      have e51:f9.tmps.getD 51 undef=_:=aH hl 51 7 (by kernel_rfl) (by kernel_rfl)
      have h:=aq [(3,_),(51,_)] hs hd9 (holds_lk ⟨e3,e51,trivial⟩)
      have s:=s.more hE
      have z:=St.start w2
      refine aC (b:=false) h rfl rfl rfl rfl ?_;intro f h
      refine ah ?_
      have e9:=h.holds 54 _ rfl
      refine ⟨?_,Ext.refl _,fun h9=>absurd h9 (by decide)⟩
      refine e9.trans ?_
      exact rfl
     ·refine aT 55 rfl (by decide) (by decide) ?_
      intro f9 w2 hE hs hd9 hl
      have e6:f9.tmps.getD 6 undef=_:=bX hl 6 (by kernel_rfl) (by kernel_rfl) (h.holds 6 _ rfl)
      have e51:f9.tmps.getD 51 undef=_:=aH hl 51 7 (by kernel_rfl) (by kernel_rfl)
      have h:=aq [(6,_),(51,_)] hs hd9 (holds_lk ⟨e6,e51,trivial⟩)
      have s:=s.more hE
      have z:=St.start w2
      refine aC (b:=false) h rfl rfl rfl rfl ?_;intro f h
      refine ah ?_
      have e9:=h.holds 55 _ rfl
      refine ⟨?_,Ext.refl _,fun h9=>absurd h9 (by decide)⟩
      refine e9.trans ?_
      exact rfl
     ·refine aT 56 rfl (by decide) (by decide) ?_
      intro f9 w2 hE hs hd9 hl
      have e55:f9.tmps.getD 55 undef=_:=aH hl 55 11 (by kernel_rfl) (by kernel_rfl)
      have e51:f9.tmps.getD 51 undef=_:=aH hl 51 7 (by kernel_rfl) (by kernel_rfl)
      have h:=aq [(55,_),(51,_)] hs hd9 (holds_lk ⟨e55,e51,trivial⟩)
      have s:=s.more hE
      have z:=St.start w2
      refine aC (b:=false) h rfl rfl rfl rfl ?_;intro f h
      refine ah ?_
      have e9:=h.holds 56 _ rfl
      refine ⟨?_,Ext.refl _,fun h9=>absurd h9 (by decide)⟩
      refine e9.trans ?_
      exact rfl
     ·refine aT 57 rfl (by decide) (by decide) ?_
      intro f9 w2 hE hs hd9 hl
      have e4:f9.tmps.getD 4 undef=_:=bX hl 4 (by kernel_rfl) (by kernel_rfl) (h.holds 4 _ rfl)
      have e51:f9.tmps.getD 51 undef=_:=aH hl 51 7 (by kernel_rfl) (by kernel_rfl)
      have h:=aq [(4,_),(51,_)] hs hd9 (holds_lk ⟨e4,e51,trivial⟩)
      have s:=s.more hE
      have z:=St.start w2
      refine aC (b:=false) h rfl rfl rfl rfl ?_;intro f h
      refine ah ?_
      have e9:=h.holds 57 _ rfl
      refine ⟨?_,Ext.refl _,fun h9=>absurd h9 (by decide)⟩
      refine e9.trans ?_
      exact rfl
     ·refine aT 58 rfl (by decide) (by decide) ?_
      intro f9 w2 hE hs hd9 hl
      have e54:f9.tmps.getD 54 undef=_:=aH hl 54 10 (by kernel_rfl) (by kernel_rfl)
      have e56:f9.tmps.getD 56 undef=_:=aH hl 56 12 (by kernel_rfl) (by kernel_rfl)
      have e57:f9.tmps.getD 57 undef=_:=aH hl 57 13 (by kernel_rfl) (by kernel_rfl)
      have e51:f9.tmps.getD 51 undef=_:=aH hl 51 7 (by kernel_rfl) (by kernel_rfl)
      have h:=aq [(54,_),(56,_),(57,_),(51,_)] hs hd9 (holds_lk ⟨e54,e56,e57,e51,trivial⟩)
      have s:=s.more hE
      have z:=St.start w2
      refine aC (b:=false) h rfl rfl rfl rfl ?_;intro f h
      refine ah ?_
      have e9:=h.holds 58 _ rfl
      refine ⟨?_,Ext.refl _,fun h9=>absurd h9 (by decide)⟩
      refine e9.trans ?_
      exact rfl
     ·exact cr (by decide) (by decide)
     ·exact cr (by decide) (by decide)
     ·exact cr (by decide) (by decide)
     ·intro f9 w2 hE hs hd9 hWp hT hR hFr hDj
      replace h:=sl_new (ops:=_) [(44,_),(45,_),(46,_),(47,_),(48,_),(49,_),(50,_),(51,_),(52,_),(53,_),(54,_),(55,_),(56,_),(57,_),(58,_)] h hs hd9 hR ⟨hT 0 44 (by decide) rfl,hT 1 45 (by decide) rfl,hT 2 46 (by decide) rfl,hT 3 47 (by decide) rfl,hT 4 48 (by decide) rfl,hT 5 49 (by decide) rfl,hT 6 50 (by decide) rfl,hT 7 51 (by decide) rfl,hT 8 52 (by decide) rfl,hT 9 53 (by decide) rfl,hT 10 54 (by decide) rfl,hT 11 55 (by decide) rfl,hT 12 56 (by decide) rfl,hT 13 57 (by decide) rfl,hT 14 58 (by decide) rfl,trivial⟩ (by kernel_rfl)
      replace s:=s.more hE
      clear hT hR hFr hDj
      refine eD.of ?_
      refine aC (b:=false) h rfl rfl rfl rfl ?_;intro f h
      refine aC (b:=false) h rfl rfl rfl rfl ?_;intro f h
      refine ac h (aJ (h.ev rfl) (h.ev rfl)) rfl ?_;intro f h
      refine ah ?_
      refine hK19 _ _ ?_
      refine wpIn_cond_true (h.ev rfl) ?_
      refine aj fun K20 hK20=>?_
      refine ae ?_
      refine ac h (ai (h.ev rfl)) rfl ?_;intro f h
      refine ah ?_
      refine hK20 _ _ ?_
      refine wpIn_ret ?_
      refine bu ?_
      refine aQ ?_
      refine aQ ?_
      refine bu ?_
      refine aQ ?_
      exact aX rfl h s rfl (by show _=_;rw [nU (by omega) hkl (Bl p0)])
    ·skip
     cases p1:(decide ((L.getD k z3).1.sc=(dV (aN L) (L.getD k z3).1.me (min (L.length - 1) 4))):Bool)
     ·skip
      refine i9 0 [[],[0],[],[],[3],[2,3,4],[0,1,2,3,4,5],[0,1,2,3,4,5,6],[0,1,2,3,4,5,6,7],[0,1,2,3,4,5,6,7,8],[0,1,2,3,4,5,6,7],[0,1,2,3,4,5,6,7],[0,1,2,3,4,5,6,7,11],[0,1,2,3,4,5,6,7],[0,1,2,3,4,5,6,7,10,11,12,13],[0,1,2,3,4,5,6,7,8,9,10,11,12,13,14],[0,1,2,3,4,5,6,7,8,9,10,11,12,13,14,15],[0,1,2,3,4,5,6,7,8,9,10,11,12,13,14,15,16]] [[],[],[],[],[],[],[],[],[],[],[],[],[],[],[],[14],[],[]] [fun _=>[],fun _=>[],fun _=>[],fun _=>[],fun _=>[],fun _=>[],fun _=>[],fun _=>[],fun _=>[],fun _=>[],fun _=>[],fun _=>[],fun _=>[],fun _=>[],fun v=>[.sl (v 14) 28 33 (dV (aN L) (L.getD k z3).1.me (min (L.length - 1) 4)).length (av (dV (aN L) (L.getD k z3).1.me (min (L.length - 1) 4)))],fun _=>[],fun _=>[],fun _=>[]] [] [fun v=>v 0=.pointer (some ⟨b6,33,none⟩),fun v=>v 1=.agg (au (L.getD k z3).1.pr),fun v=>v 2=v8,fun v=>v 3=.pointer (some ⟨b6,0,none⟩),fun v=>v 4=.agg (au (L.getD k z3).1.me),fun v=>v 5=.agg (au (ec (aN L) (L.getD k z3).1.me)),fun v=>v 6=.bool false,fun v=>v 7=.bool false,fun v=>v 8=.pointer (some ⟨b6,66,none⟩),fun v=>v 9=(L.getD k z3).2.1,fun v=>v 10=v8,fun v=>v 11=.pointer (some ⟨b6,0,none⟩),fun v=>v 12=.agg (au (L.getD k z3).1.me),fun v=>v 13=.int .i64 mI,fun _=>True,fun v=>v 15=.bool false,fun v=>v 16=.bool true,fun v=>v 17=.bool true] [.blk b6 (.cells (aD (L.getD k z3).1.me (L.getD k z3).1.pr (L.getD k z3).2.1 (L.getD k z3).2.2) 42),.sl v8 28 33 (aN L).length (av (aN L)),.blk b1 (.cells (#[vo]) 24)] h s rfl (by kernel_rfl) (by kernel_rfl) (by kernel_rfl) (And.intro ?_ (And.intro ?_ (And.intro ?_ (And.intro ?_ (And.intro ?_ (And.intro ?_ (And.intro ?_ (And.intro ?_ (And.intro ?_ (And.intro ?_ (And.intro ?_ (And.intro ?_ (And.intro ?_ (And.intro ?_ (And.intro ?_ (And.intro ?_ (And.intro ?_ (And.intro ?_ (trivial))))))))))))))))))) [0,1,2,3,4,5,6,7,8,9,10,11,12,13,15,16,17] (by kernel_rfl) ?_
      ·intro f9 w2 vl12 E9 hs9 hd9 hl hF s
       have e6:f9.tmps.getD 6 undef=_:=cD hl 6 (by kernel_rfl) (by kernel_rfl) (h.holds 6 _ rfl)
       have h:=aq [(6,_)] (hs9.trans h.size) (hd9.trans h.defers) (holds_lk ⟨e6,trivial⟩)
       replace s:St w (.blk b6 (.cells (aD (L.getD k z3).1.me (L.getD k z3).1.pr (L.getD k z3).2.1 (L.getD k z3).2.2) 42)::.sl v8 28 33 (aN L).length (av (aN L))::.blk b1 (.cells (#[vo]) 24)::E9) _:=s
       refine ac h (al cy (h.ev rfl)) rfl ?_;intro f h
       exact ah ⟨_,a7 44 rfl (h.holds 44 _ rfl),rfl,s⟩
      ·intro f9 w2 vl12 E9 hs9 hd9 hl hF s
       have e44:f9.tmps.getD 44 undef=.pointer (some ⟨b6,33,none⟩):=(aW hl 44 0 (by kernel_rfl) (by kernel_rfl)).trans (hF 0 (by decide))
       have h:=aq [(44,.pointer (some ⟨b6,33,none⟩))] (hs9.trans h.size) (hd9.trans h.defers) (holds_lk ⟨e44,trivial⟩)
       replace s:St w (.blk b6 (.cells (aD (L.getD k z3).1.me (L.getD k z3).1.pr (L.getD k z3).2.1 (L.getD k z3).2.2) 42)::.sl v8 28 33 (aN L).length (av (aN L))::.blk b1 (.cells (#[vo]) 24)::E9) _:=s
       refine aM (bc.subL (bc.of_own s 0 rfl) 33 33 (D:=au (L.getD k z3).1.pr) (co _ _ _ _)) h aL rfl (ak _) rfl ?_;intro f h
       exact ah ⟨_,a7 45 rfl (h.holds 45 _ rfl),rfl,s⟩
      ·intro f9 w2 vl12 E9 hs9 hd9 hl hF s
       have e3:f9.tmps.getD 3 undef=_:=cD hl 3 (by kernel_rfl) (by kernel_rfl) (h.holds 3 _ rfl)
       have h:=aq [(3,_)] (hs9.trans h.size) (hd9.trans h.defers) (holds_lk ⟨e3,trivial⟩)
       replace s:St w (.blk b6 (.cells (aD (L.getD k z3).1.me (L.getD k z3).1.pr (L.getD k z3).2.1 (L.getD k z3).2.2) 42)::.sl v8 28 33 (aN L).length (av (aN L))::.blk b1 (.cells (#[vo]) 24)::E9) _:=s
       refine ac h (ag (h.ev rfl)) rfl ?_;intro f h
       exact ah ⟨_,a7 46 rfl (h.holds 46 _ rfl),rfl,s⟩
      ·intro f9 w2 vl12 E9 hs9 hd9 hl hF s
       have e6:f9.tmps.getD 6 undef=_:=cD hl 6 (by kernel_rfl) (by kernel_rfl) (h.holds 6 _ rfl)
       have h:=aq [(6,_)] (hs9.trans h.size) (hd9.trans h.defers) (holds_lk ⟨e6,trivial⟩)
       replace s:St w (.blk b6 (.cells (aD (L.getD k z3).1.me (L.getD k z3).1.pr (L.getD k z3).2.1 (L.getD k z3).2.2) 42)::.sl v8 28 33 (aN L).length (av (aN L))::.blk b1 (.cells (#[vo]) 24)::E9) _:=s
       refine ac h (al a6 (h.ev rfl)) rfl ?_;intro f h
       exact ah ⟨_,a7 47 rfl (h.holds 47 _ rfl),rfl,s⟩
      ·intro f9 w2 vl12 E9 hs9 hd9 hl hF s
       have e47:f9.tmps.getD 47 undef=.pointer (some ⟨b6,0,none⟩):=(aW hl 47 3 (by kernel_rfl) (by kernel_rfl)).trans (hF 3 (by decide))
       have h:=aq [(47,.pointer (some ⟨b6,0,none⟩))] (hs9.trans h.size) (hd9.trans h.defers) (holds_lk ⟨e47,trivial⟩)
       replace s:St w (.blk b6 (.cells (aD (L.getD k z3).1.me (L.getD k z3).1.pr (L.getD k z3).2.1 (L.getD k z3).2.2) 42)::.sl v8 28 33 (aN L).length (av (aN L))::.blk b1 (.cells (#[vo]) 24)::E9) _:=s
       refine aM (bc.subL (bc.of_own s 0 rfl) 0 33 (D:=au (L.getD k z3).1.me) (bU _ _ _ _)) h aL rfl (ak _) rfl ?_;intro f h
       exact ah ⟨_,a7 48 rfl (h.holds 48 _ rfl),rfl,s⟩
      ·intro f9 w2 vl12 E9 hs9 hd9 hl hF s
       have e46:f9.tmps.getD 46 undef=v8:=(aW hl 46 2 (by kernel_rfl) (by kernel_rfl)).trans (hF 2 (by decide))
       have e48:f9.tmps.getD 48 undef=.agg (au (L.getD k z3).1.me):=(aW hl 48 4 (by kernel_rfl) (by kernel_rfl)).trans (hF 4 (by decide))
       have h:=aq [(46,v8),(48,.agg (au (L.getD k z3).1.me))] (hs9.trans h.size) (hd9.trans h.defers) (holds_lk ⟨e46,e48,trivial⟩)
       replace s:St w (.blk b6 (.cells (aD (L.getD k z3).1.me (L.getD k z3).1.pr (L.getD k z3).2.1 (L.getD k z3).2.2) 42)::.sl v8 28 33 (aN L).length (av (aN L))::.blk b1 (.cells (#[vo]) 24)::E9) _:=s
       refine aF h s uT (hI (aN L) v8 (L.getD k z3).1.me _ (bK.of_own (s.getSl 1 rfl)) (by omega) hrs.ring (lW hkl)) rfl rfl ?_;intro f w1 v9 hT hE h s;obtain rfl:=hT
       exact ah ⟨_,a7 49 rfl (h.holds 49 _ rfl),rfl,s⟩
      ·intro f9 w2 vl12 E9 hs9 hd9 hl hF s
       have e45:f9.tmps.getD 45 undef=.agg (au (L.getD k z3).1.pr):=(aW hl 45 1 (by kernel_rfl) (by kernel_rfl)).trans (hF 1 (by decide))
       have e49:f9.tmps.getD 49 undef=.agg (au (ec (aN L) (L.getD k z3).1.me)):=(aW hl 49 5 (by kernel_rfl) (by kernel_rfl)).trans (hF 5 (by decide))
       have h:=aq [(45,.agg (au (L.getD k z3).1.pr)),(49,.agg (au (ec (aN L) (L.getD k z3).1.me)))] (hs9.trans h.size) (hd9.trans h.defers) (holds_lk ⟨e45,e49,trivial⟩)
       replace s:St w (.blk b6 (.cells (aD (L.getD k z3).1.me (L.getD k z3).1.pr (L.getD k z3).2.1 (L.getD k z3).2.2) 42)::.sl v8 28 33 (aN L).length (av (aN L))::.blk b1 (.cells (#[vo]) 24)::E9) _:=s
       refine ac h (aw (.bool false) (dc (gM _ _) (by kernel_rfl) (by decide) (h.ev rfl) (h.ev rfl) (decide ((L.getD k z3).1.pr=(ec (aN L) (L.getD k z3).1.me))) (dE _ _)) (by rw [p0];rfl)) rfl ?_;intro f h
       exact ah ⟨_,a7 50 rfl (h.holds 50 _ rfl),rfl,s⟩
      ·intro f9 w2 vl12 E9 hs9 hd9 hl hF s
       have e50:f9.tmps.getD 50 undef=.bool false:=(aW hl 50 6 (by kernel_rfl) (by kernel_rfl)).trans (hF 6 (by decide))
       have h:=aq [(50,.bool false)] (hs9.trans h.size) (hd9.trans h.defers) (holds_lk ⟨e50,trivial⟩)
       replace s:St w (.blk b6 (.cells (aD (L.getD k z3).1.me (L.getD k z3).1.pr (L.getD k z3).2.1 (L.getD k z3).2.2) 42)::.sl v8 28 33 (aN L).length (av (aN L))::.blk b1 (.cells (#[vo]) 24)::E9) _:=s
       refine ac h (ag (h.ev rfl)) rfl ?_;intro f h
       exact ah ⟨_,a7 51 rfl (h.holds 51 _ rfl),rfl,s⟩
      ·intro f9 w2 vl12 E9 hs9 hd9 hl hF s
       have e6:f9.tmps.getD 6 undef=_:=cD hl 6 (by kernel_rfl) (by kernel_rfl) (h.holds 6 _ rfl)
       have e51:f9.tmps.getD 51 undef=.bool false:=(aW hl 51 7 (by kernel_rfl) (by kernel_rfl)).trans (hF 7 (by decide))
       have h:=aq [(6,_),(51,.bool false)] (hs9.trans h.size) (hd9.trans h.defers) (holds_lk ⟨e6,e51,trivial⟩)
       replace s:St w (.blk b6 (.cells (aD (L.getD k z3).1.me (L.getD k z3).1.pr (L.getD k z3).2.1 (L.getD k z3).2.2) 42)::.sl v8 28 33 (aN L).length (av (aN L))::.blk b1 (.cells (#[vo]) 24)::E9) _:=s
       refine aB h rfl rfl rfl ?_
       refine ac h (al bI (h.ev rfl)) rfl ?_;intro f h
       exact ah ⟨_,a7 52 rfl (h.holds 52 _ rfl),rfl,s⟩
      ·intro f9 w2 vl12 E9 hs9 hd9 hl hF s
       have e52:f9.tmps.getD 52 undef=.pointer (some ⟨b6,66,none⟩):=(aW hl 52 8 (by kernel_rfl) (by kernel_rfl)).trans (hF 8 (by decide))
       have e51:f9.tmps.getD 51 undef=.bool false:=(aW hl 51 7 (by kernel_rfl) (by kernel_rfl)).trans (hF 7 (by decide))
       have h:=aq [(52,.pointer (some ⟨b6,66,none⟩)),(51,.bool false)] (hs9.trans h.size) (hd9.trans h.defers) (holds_lk ⟨e52,e51,trivial⟩)
       replace s:St w (.blk b6 (.cells (aD (L.getD k z3).1.me (L.getD k z3).1.pr (L.getD k z3).2.1 (L.getD k z3).2.2) 42)::.sl v8 28 33 (aN L).length (av (aN L))::.blk b1 (.cells (#[vo]) 24)::E9) _:=s
       refine aB h rfl rfl rfl ?_
       refine ar (V:=(L.getD k z3).2.1) (am (bc.of_own s 0 rfl) 66 (bC _ _ _ _)) h bH rfl rfl ?_;intro f h
       exact ah ⟨_,a7 53 rfl (h.holds 53 _ rfl),rfl,s⟩
      ·intro f9 w2 vl12 E9 hs9 hd9 hl hF s
       have e3:f9.tmps.getD 3 undef=_:=cD hl 3 (by kernel_rfl) (by kernel_rfl) (h.holds 3 _ rfl)
       have e51:f9.tmps.getD 51 undef=.bool false:=(aW hl 51 7 (by kernel_rfl) (by kernel_rfl)).trans (hF 7 (by decide))
       have h:=aq [(3,_),(51,.bool false)] (hs9.trans h.size) (hd9.trans h.defers) (holds_lk ⟨e3,e51,trivial⟩)
       replace s:St w (.blk b6 (.cells (aD (L.getD k z3).1.me (L.getD k z3).1.pr (L.getD k z3).2.1 (L.getD k z3).2.2) 42)::.sl v8 28 33 (aN L).length (av (aN L))::.blk b1 (.cells (#[vo]) 24)::E9) _:=s
       refine aB h rfl rfl rfl ?_
       refine ac h (ag (h.ev rfl)) rfl ?_;intro f h
       exact ah ⟨_,a7 54 rfl (h.holds 54 _ rfl),rfl,s⟩
      ·intro f9 w2 vl12 E9 hs9 hd9 hl hF s
       have e6:f9.tmps.getD 6 undef=_:=cD hl 6 (by kernel_rfl) (by kernel_rfl) (h.holds 6 _ rfl)
       have e51:f9.tmps.getD 51 undef=.bool false:=(aW hl 51 7 (by kernel_rfl) (by kernel_rfl)).trans (hF 7 (by decide))
       have h:=aq [(6,_),(51,.bool false)] (hs9.trans h.size) (hd9.trans h.defers) (holds_lk ⟨e6,e51,trivial⟩)
       replace s:St w (.blk b6 (.cells (aD (L.getD k z3).1.me (L.getD k z3).1.pr (L.getD k z3).2.1 (L.getD k z3).2.2) 42)::.sl v8 28 33 (aN L).length (av (aN L))::.blk b1 (.cells (#[vo]) 24)::E9) _:=s
       refine aB h rfl rfl rfl ?_
       refine ac h (al a6 (h.ev rfl)) rfl ?_;intro f h
       exact ah ⟨_,a7 55 rfl (h.holds 55 _ rfl),rfl,s⟩
      ·intro f9 w2 vl12 E9 hs9 hd9 hl hF s
       have e55:f9.tmps.getD 55 undef=.pointer (some ⟨b6,0,none⟩):=(aW hl 55 11 (by kernel_rfl) (by kernel_rfl)).trans (hF 11 (by decide))
       have e51:f9.tmps.getD 51 undef=.bool false:=(aW hl 51 7 (by kernel_rfl) (by kernel_rfl)).trans (hF 7 (by decide))
       have h:=aq [(55,.pointer (some ⟨b6,0,none⟩)),(51,.bool false)] (hs9.trans h.size) (hd9.trans h.defers) (holds_lk ⟨e55,e51,trivial⟩)
       replace s:St w (.blk b6 (.cells (aD (L.getD k z3).1.me (L.getD k z3).1.pr (L.getD k z3).2.1 (L.getD k z3).2.2) 42)::.sl v8 28 33 (aN L).length (av (aN L))::.blk b1 (.cells (#[vo]) 24)::E9) _:=s
       refine aB h rfl rfl rfl ?_
       refine aM (bc.subL (bc.of_own s 0 rfl) 0 33 (D:=au (L.getD k z3).1.me) (bU _ _ _ _)) h aL rfl (ak _) rfl ?_;intro f h
       exact ah ⟨_,a7 56 rfl (h.holds 56 _ rfl),rfl,s⟩
      ·intro f9 w2 vl12 E9 hs9 hd9 hl hF s
       have e4:f9.tmps.getD 4 undef=_:=cD hl 4 (by kernel_rfl) (by kernel_rfl) (h.holds 4 _ rfl)
       have e51:f9.tmps.getD 51 undef=.bool false:=(aW hl 51 7 (by kernel_rfl) (by kernel_rfl)).trans (hF 7 (by decide))
       have h:=aq [(4,_),(51,.bool false)] (hs9.trans h.size) (hd9.trans h.defers) (holds_lk ⟨e4,e51,trivial⟩)
       replace s:St w (.blk b6 (.cells (aD (L.getD k z3).1.me (L.getD k z3).1.pr (L.getD k z3).2.1 (L.getD k z3).2.2) 42)::.sl v8 28 33 (aN L).length (av (aN L))::.blk b1 (.cells (#[vo]) 24)::E9) _:=s
       refine aB h rfl rfl rfl ?_
       refine ac h (ag (h.ev rfl)) rfl ?_;intro f h
       exact ah ⟨_,a7 57 rfl (h.holds 57 _ rfl),rfl,s⟩
      ·intro f9 w2 vl12 E9 hs9 hd9 hl hF s
       have e54:f9.tmps.getD 54 undef=v8:=(aW hl 54 10 (by kernel_rfl) (by kernel_rfl)).trans (hF 10 (by decide))
       have e56:f9.tmps.getD 56 undef=.agg (au (L.getD k z3).1.me):=(aW hl 56 12 (by kernel_rfl) (by kernel_rfl)).trans (hF 12 (by decide))
       have e57:f9.tmps.getD 57 undef=.int .i64 mI:=(aW hl 57 13 (by kernel_rfl) (by kernel_rfl)).trans (hF 13 (by decide))
       have e51:f9.tmps.getD 51 undef=.bool false:=(aW hl 51 7 (by kernel_rfl) (by kernel_rfl)).trans (hF 7 (by decide))
       have h:=aq [(54,v8),(56,.agg (au (L.getD k z3).1.me)),(57,.int .i64 mI),(51,.bool false)] (hs9.trans h.size) (hd9.trans h.defers) (holds_lk ⟨e54,e56,e57,e51,trivial⟩)
       replace s:St w (.blk b6 (.cells (aD (L.getD k z3).1.me (L.getD k z3).1.pr (L.getD k z3).2.1 (L.getD k z3).2.2) 42)::.sl v8 28 33 (aN L).length (av (aN L))::.blk b1 (.cells (#[vo]) 24)::E9) _:=s
       refine aB h rfl rfl rfl ?_
       refine aF h s yo (lP (aN L) v8 (L.getD k z3).1.me mI (min (L.length - 1) 4) (by omega) (by omega) _ (bK.of_own (s.getSl 1 rfl)) (by omega) hrs.nos (lW hkl)) rfl rfl ?_;intro f w1 v58 hT hE h sq;replace s:=s.sl_new hE hT
       exact ah ⟨_,a7 58 rfl (h.holds 58 _ rfl),trivial,s⟩
      ·intro f9 w2 vl12 E9 hs9 hd9 hl hF s
       have e53:f9.tmps.getD 53 undef=(L.getD k z3).2.1:=(aW hl 53 9 (by kernel_rfl) (by kernel_rfl)).trans (hF 9 (by decide))
       have e58:f9.tmps.getD 58 undef=(vl12 14):=aW hl 58 14 (by kernel_rfl) (by kernel_rfl)
       have e51:f9.tmps.getD 51 undef=.bool false:=(aW hl 51 7 (by kernel_rfl) (by kernel_rfl)).trans (hF 7 (by decide))
       have h:=aq [(53,(L.getD k z3).2.1),(58,(vl12 14)),(51,.bool false)] (hs9.trans h.size) (hd9.trans h.defers) (holds_lk ⟨e53,e58,e51,trivial⟩)
       replace s:St w (.sl (vl12 14) 28 33 (dV (aN L) (L.getD k z3).1.me (min (L.length - 1) 4)).length (av (dV (aN L) (L.getD k z3).1.me (min (L.length - 1) 4)))::.blk b6 (.cells (aD (L.getD k z3).1.me (L.getD k z3).1.pr (L.getD k z3).2.1 (L.getD k z3).2.2) 42)::.sl v8 28 33 (aN L).length (av (aN L))::.blk b1 (.cells (#[vo]) 24)::E9) _:=s
       refine aB h rfl rfl rfl ?_
       refine aF h s ly (aO (.bool false) (fG (L.getD k z3).1.sc (dV (aN L) (L.getD k z3).1.me (min (L.length - 1) 4)) (L.getD k z3).2.1 (vl12 14) _ ((hO.2 _ (bh hkl)).1.keep s.ext) (bK.of_own (s.getSl 0 rfl)) (by omega) (by rw [fL];omega)) (congrArg Value.bool p1)) rfl rfl ?_;intro f w1 v9 hT hE h s;obtain rfl:=hT
       exact ah ⟨_,a7 59 rfl (h.holds 59 _ rfl),rfl,(s.pick _ (List.Sublist.cons _ (List.Sublist.cons_cons _ (List.Sublist.cons_cons _ (List.Sublist.cons_cons _ (List.Sublist.refl _))))))⟩
      ·intro f9 w2 vl12 E9 hs9 hd9 hl hF s
       have e59:f9.tmps.getD 59 undef=.bool false:=(aW hl 59 15 (by kernel_rfl) (by kernel_rfl)).trans (hF 15 (by decide))
       have e51:f9.tmps.getD 51 undef=.bool false:=(aW hl 51 7 (by kernel_rfl) (by kernel_rfl)).trans (hF 7 (by decide))
       have h:=aq [(59,.bool false),(51,.bool false)] (hs9.trans h.size) (hd9.trans h.defers) (holds_lk ⟨e59,e51,trivial⟩)
       replace s:St w (.blk b6 (.cells (aD (L.getD k z3).1.me (L.getD k z3).1.pr (L.getD k z3).2.1 (L.getD k z3).2.2) 42)::.sl v8 28 33 (aN L).length (av (aN L))::.blk b1 (.cells (#[vo]) 24)::E9) _:=s
       refine aB h rfl rfl rfl ?_
       refine ac h (aw (.bool true) (bg (h.ev rfl)) rfl) rfl ?_;intro f h
       exact ah ⟨_,a7 60 rfl (h.holds 60 _ rfl),rfl,s⟩
      ·intro f9 w2 vl12 E9 hs9 hd9 hl hF s
       have e51:f9.tmps.getD 51 undef=.bool false:=(aW hl 51 7 (by kernel_rfl) (by kernel_rfl)).trans (hF 7 (by decide))
       have e60:f9.tmps.getD 60 undef=.bool true:=(aW hl 60 16 (by kernel_rfl) (by kernel_rfl)).trans (hF 16 (by decide))
       have h:=aq [(51,.bool false),(60,.bool true)] (hs9.trans h.size) (hd9.trans h.defers) (holds_lk ⟨e51,e60,trivial⟩)
       replace s:St w (.blk b6 (.cells (aD (L.getD k z3).1.me (L.getD k z3).1.pr (L.getD k z3).2.1 (L.getD k z3).2.2) 42)::.sl v8 28 33 (aN L).length (av (aN L))::.blk b1 (.cells (#[vo]) 24)::E9) _:=s
       refine ac h (aE (h.ev rfl) (h.ev rfl)) rfl ?_;intro f h
       exact ah ⟨_,a7 61 rfl (h.holds 61 _ rfl),rfl,s⟩
      intro f w1 vl12 hs9 hd9 hv hr hF s
      replace h:=kM (ops:=_) [(44,.pointer (some ⟨b6,33,none⟩)),(45,.agg (au (L.getD k z3).1.pr)),(46,v8),(47,.pointer (some ⟨b6,0,none⟩)),(48,.agg (au (L.getD k z3).1.me)),(49,.agg (au (ec (aN L) (L.getD k z3).1.me))),(50,.bool false),(51,.bool false),(52,.pointer (some ⟨b6,66,none⟩)),(53,(L.getD k z3).2.1),(54,v8),(55,.pointer (some ⟨b6,0,none⟩)),(56,.agg (au (L.getD k z3).1.me)),(57,.int .i64 mI),(58,(vl12 14)),(59,.bool false),(60,.bool true),(61,.bool true)] h hs9 hd9 hr ⟨(hv 0 44 rfl).trans (hF 0 (by kernel_rfl)),(hv 1 45 rfl).trans (hF 1 (by kernel_rfl)),(hv 2 46 rfl).trans (hF 2 (by kernel_rfl)),(hv 3 47 rfl).trans (hF 3 (by kernel_rfl)),(hv 4 48 rfl).trans (hF 4 (by kernel_rfl)),(hv 5 49 rfl).trans (hF 5 (by kernel_rfl)),(hv 6 50 rfl).trans (hF 6 (by kernel_rfl)),(hv 7 51 rfl).trans (hF 7 (by kernel_rfl)),(hv 8 52 rfl).trans (hF 8 (by kernel_rfl)),(hv 9 53 rfl).trans (hF 9 (by kernel_rfl)),(hv 10 54 rfl).trans (hF 10 (by kernel_rfl)),(hv 11 55 rfl).trans (hF 11 (by kernel_rfl)),(hv 12 56 rfl).trans (hF 12 (by kernel_rfl)),(hv 13 57 rfl).trans (hF 13 (by kernel_rfl)),hv 14 58 rfl,(hv 15 59 rfl).trans (hF 15 (by kernel_rfl)),(hv 16 60 rfl).trans (hF 16 (by kernel_rfl)),(hv 17 61 rfl).trans (hF 17 (by kernel_rfl)),trivial⟩ (by kernel_rfl)
      replace s:St w [.blk b6 (.cells (aD (L.getD k z3).1.me (L.getD k z3).1.pr (L.getD k z3).2.1 (L.getD k z3).2.2) 42),.sl v8 28 33 (aN L).length (av (aN L)),.blk b1 (.cells (#[vo]) 24)] _:=s
      refine hK19 _ _ ?_
      refine wpIn_cond_true (h.ev rfl) ?_
      refine aj fun K21 hK21=>?_
      refine ae ?_
      refine ac h (ai (h.ev rfl)) rfl ?_;intro f h
      refine ah ?_
      refine hK21 _ _ ?_
      refine wpIn_ret ?_
      refine bu ?_
      refine aQ ?_
      refine aQ ?_
      refine bu ?_
      refine aQ ?_
      exact aX rfl h s rfl (by show _=_;rw [nU (by omega) hkl ((Ai p0 rfl).trans p1)])
     ·skip
      refine i9 0 [[],[0],[],[],[3],[2,3,4],[0,1,2,3,4,5],[0,1,2,3,4,5,6],[0,1,2,3,4,5,6,7],[0,1,2,3,4,5,6,7,8],[0,1,2,3,4,5,6,7],[0,1,2,3,4,5,6,7],[0,1,2,3,4,5,6,7,11],[0,1,2,3,4,5,6,7],[0,1,2,3,4,5,6,7,10,11,12,13],[0,1,2,3,4,5,6,7,8,9,10,11,12,13,14],[0,1,2,3,4,5,6,7,8,9,10,11,12,13,14,15],[0,1,2,3,4,5,6,7,8,9,10,11,12,13,14,15,16]] [[],[],[],[],[],[],[],[],[],[],[],[],[],[],[],[14],[],[]] [fun _=>[],fun _=>[],fun _=>[],fun _=>[],fun _=>[],fun _=>[],fun _=>[],fun _=>[],fun _=>[],fun _=>[],fun _=>[],fun _=>[],fun _=>[],fun _=>[],fun v=>[.sl (v 14) 28 33 (dV (aN L) (L.getD k z3).1.me (min (L.length - 1) 4)).length (av (dV (aN L) (L.getD k z3).1.me (min (L.length - 1) 4)))],fun _=>[],fun _=>[],fun _=>[]] [] [fun v=>v 0=.pointer (some ⟨b6,33,none⟩),fun v=>v 1=.agg (au (L.getD k z3).1.pr),fun v=>v 2=v8,fun v=>v 3=.pointer (some ⟨b6,0,none⟩),fun v=>v 4=.agg (au (L.getD k z3).1.me),fun v=>v 5=.agg (au (ec (aN L) (L.getD k z3).1.me)),fun v=>v 6=.bool false,fun v=>v 7=.bool false,fun v=>v 8=.pointer (some ⟨b6,66,none⟩),fun v=>v 9=(L.getD k z3).2.1,fun v=>v 10=v8,fun v=>v 11=.pointer (some ⟨b6,0,none⟩),fun v=>v 12=.agg (au (L.getD k z3).1.me),fun v=>v 13=.int .i64 mI,fun _=>True,fun v=>v 15=.bool true,fun v=>v 16=.bool false,fun v=>v 17=.bool false] [.blk b6 (.cells (aD (L.getD k z3).1.me (L.getD k z3).1.pr (L.getD k z3).2.1 (L.getD k z3).2.2) 42),.sl v8 28 33 (aN L).length (av (aN L)),.blk b1 (.cells (#[vo]) 24)] h s rfl (by kernel_rfl) (by kernel_rfl) (by kernel_rfl) (And.intro ?_ (And.intro ?_ (And.intro ?_ (And.intro ?_ (And.intro ?_ (And.intro ?_ (And.intro ?_ (And.intro ?_ (And.intro ?_ (And.intro ?_ (And.intro ?_ (And.intro ?_ (And.intro ?_ (And.intro ?_ (And.intro ?_ (And.intro ?_ (And.intro ?_ (And.intro ?_ (trivial))))))))))))))))))) [0,1,2,3,4,5,6,7,8,9,10,11,12,13,15,16,17] (by kernel_rfl) ?_
      ·intro f9 w2 vl12 E9 hs9 hd9 hl hF s
       have e6:f9.tmps.getD 6 undef=_:=cD hl 6 (by kernel_rfl) (by kernel_rfl) (h.holds 6 _ rfl)
       have h:=aq [(6,_)] (hs9.trans h.size) (hd9.trans h.defers) (holds_lk ⟨e6,trivial⟩)
       replace s:St w (.blk b6 (.cells (aD (L.getD k z3).1.me (L.getD k z3).1.pr (L.getD k z3).2.1 (L.getD k z3).2.2) 42)::.sl v8 28 33 (aN L).length (av (aN L))::.blk b1 (.cells (#[vo]) 24)::E9) _:=s
       refine ac h (al cy (h.ev rfl)) rfl ?_;intro f h
       exact ah ⟨_,a7 44 rfl (h.holds 44 _ rfl),rfl,s⟩
      ·intro f9 w2 vl12 E9 hs9 hd9 hl hF s
       have e44:f9.tmps.getD 44 undef=.pointer (some ⟨b6,33,none⟩):=(aW hl 44 0 (by kernel_rfl) (by kernel_rfl)).trans (hF 0 (by decide))
       have h:=aq [(44,.pointer (some ⟨b6,33,none⟩))] (hs9.trans h.size) (hd9.trans h.defers) (holds_lk ⟨e44,trivial⟩)
       replace s:St w (.blk b6 (.cells (aD (L.getD k z3).1.me (L.getD k z3).1.pr (L.getD k z3).2.1 (L.getD k z3).2.2) 42)::.sl v8 28 33 (aN L).length (av (aN L))::.blk b1 (.cells (#[vo]) 24)::E9) _:=s
       refine aM (bc.subL (bc.of_own s 0 rfl) 33 33 (D:=au (L.getD k z3).1.pr) (co _ _ _ _)) h aL rfl (ak _) rfl ?_;intro f h
       exact ah ⟨_,a7 45 rfl (h.holds 45 _ rfl),rfl,s⟩
      ·intro f9 w2 vl12 E9 hs9 hd9 hl hF s
       have e3:f9.tmps.getD 3 undef=_:=cD hl 3 (by kernel_rfl) (by kernel_rfl) (h.holds 3 _ rfl)
       have h:=aq [(3,_)] (hs9.trans h.size) (hd9.trans h.defers) (holds_lk ⟨e3,trivial⟩)
       replace s:St w (.blk b6 (.cells (aD (L.getD k z3).1.me (L.getD k z3).1.pr (L.getD k z3).2.1 (L.getD k z3).2.2) 42)::.sl v8 28 33 (aN L).length (av (aN L))::.blk b1 (.cells (#[vo]) 24)::E9) _:=s
       refine ac h (ag (h.ev rfl)) rfl ?_;intro f h
       exact ah ⟨_,a7 46 rfl (h.holds 46 _ rfl),rfl,s⟩
      ·intro f9 w2 vl12 E9 hs9 hd9 hl hF s
       have e6:f9.tmps.getD 6 undef=_:=cD hl 6 (by kernel_rfl) (by kernel_rfl) (h.holds 6 _ rfl)
       have h:=aq [(6,_)] (hs9.trans h.size) (hd9.trans h.defers) (holds_lk ⟨e6,trivial⟩)
       replace s:St w (.blk b6 (.cells (aD (L.getD k z3).1.me (L.getD k z3).1.pr (L.getD k z3).2.1 (L.getD k z3).2.2) 42)::.sl v8 28 33 (aN L).length (av (aN L))::.blk b1 (.cells (#[vo]) 24)::E9) _:=s
       refine ac h (al a6 (h.ev rfl)) rfl ?_;intro f h
       exact ah ⟨_,a7 47 rfl (h.holds 47 _ rfl),rfl,s⟩
      ·intro f9 w2 vl12 E9 hs9 hd9 hl hF s
       have e47:f9.tmps.getD 47 undef=.pointer (some ⟨b6,0,none⟩):=(aW hl 47 3 (by kernel_rfl) (by kernel_rfl)).trans (hF 3 (by decide))
       have h:=aq [(47,.pointer (some ⟨b6,0,none⟩))] (hs9.trans h.size) (hd9.trans h.defers) (holds_lk ⟨e47,trivial⟩)
       replace s:St w (.blk b6 (.cells (aD (L.getD k z3).1.me (L.getD k z3).1.pr (L.getD k z3).2.1 (L.getD k z3).2.2) 42)::.sl v8 28 33 (aN L).length (av (aN L))::.blk b1 (.cells (#[vo]) 24)::E9) _:=s
       refine aM (bc.subL (bc.of_own s 0 rfl) 0 33 (D:=au (L.getD k z3).1.me) (bU _ _ _ _)) h aL rfl (ak _) rfl ?_;intro f h
       exact ah ⟨_,a7 48 rfl (h.holds 48 _ rfl),rfl,s⟩
      ·intro f9 w2 vl12 E9 hs9 hd9 hl hF s
       have e46:f9.tmps.getD 46 undef=v8:=(aW hl 46 2 (by kernel_rfl) (by kernel_rfl)).trans (hF 2 (by decide))
       have e48:f9.tmps.getD 48 undef=.agg (au (L.getD k z3).1.me):=(aW hl 48 4 (by kernel_rfl) (by kernel_rfl)).trans (hF 4 (by decide))
       have h:=aq [(46,v8),(48,.agg (au (L.getD k z3).1.me))] (hs9.trans h.size) (hd9.trans h.defers) (holds_lk ⟨e46,e48,trivial⟩)
       replace s:St w (.blk b6 (.cells (aD (L.getD k z3).1.me (L.getD k z3).1.pr (L.getD k z3).2.1 (L.getD k z3).2.2) 42)::.sl v8 28 33 (aN L).length (av (aN L))::.blk b1 (.cells (#[vo]) 24)::E9) _:=s
       refine aF h s uT (hI (aN L) v8 (L.getD k z3).1.me _ (bK.of_own (s.getSl 1 rfl)) (by omega) hrs.ring (lW hkl)) rfl rfl ?_;intro f w1 v9 hT hE h s;obtain rfl:=hT
       exact ah ⟨_,a7 49 rfl (h.holds 49 _ rfl),rfl,s⟩
      ·intro f9 w2 vl12 E9 hs9 hd9 hl hF s
       have e45:f9.tmps.getD 45 undef=.agg (au (L.getD k z3).1.pr):=(aW hl 45 1 (by kernel_rfl) (by kernel_rfl)).trans (hF 1 (by decide))
       have e49:f9.tmps.getD 49 undef=.agg (au (ec (aN L) (L.getD k z3).1.me)):=(aW hl 49 5 (by kernel_rfl) (by kernel_rfl)).trans (hF 5 (by decide))
       have h:=aq [(45,.agg (au (L.getD k z3).1.pr)),(49,.agg (au (ec (aN L) (L.getD k z3).1.me)))] (hs9.trans h.size) (hd9.trans h.defers) (holds_lk ⟨e45,e49,trivial⟩)
       replace s:St w (.blk b6 (.cells (aD (L.getD k z3).1.me (L.getD k z3).1.pr (L.getD k z3).2.1 (L.getD k z3).2.2) 42)::.sl v8 28 33 (aN L).length (av (aN L))::.blk b1 (.cells (#[vo]) 24)::E9) _:=s
       refine ac h (aw (.bool false) (dc (gM _ _) (by kernel_rfl) (by decide) (h.ev rfl) (h.ev rfl) (decide ((L.getD k z3).1.pr=(ec (aN L) (L.getD k z3).1.me))) (dE _ _)) (by rw [p0];rfl)) rfl ?_;intro f h
       exact ah ⟨_,a7 50 rfl (h.holds 50 _ rfl),rfl,s⟩
      ·intro f9 w2 vl12 E9 hs9 hd9 hl hF s
       have e50:f9.tmps.getD 50 undef=.bool false:=(aW hl 50 6 (by kernel_rfl) (by kernel_rfl)).trans (hF 6 (by decide))
       have h:=aq [(50,.bool false)] (hs9.trans h.size) (hd9.trans h.defers) (holds_lk ⟨e50,trivial⟩)
       replace s:St w (.blk b6 (.cells (aD (L.getD k z3).1.me (L.getD k z3).1.pr (L.getD k z3).2.1 (L.getD k z3).2.2) 42)::.sl v8 28 33 (aN L).length (av (aN L))::.blk b1 (.cells (#[vo]) 24)::E9) _:=s
       refine ac h (ag (h.ev rfl)) rfl ?_;intro f h
       exact ah ⟨_,a7 51 rfl (h.holds 51 _ rfl),rfl,s⟩
      ·intro f9 w2 vl12 E9 hs9 hd9 hl hF s
       have e6:f9.tmps.getD 6 undef=_:=cD hl 6 (by kernel_rfl) (by kernel_rfl) (h.holds 6 _ rfl)
       have e51:f9.tmps.getD 51 undef=.bool false:=(aW hl 51 7 (by kernel_rfl) (by kernel_rfl)).trans (hF 7 (by decide))
       have h:=aq [(6,_),(51,.bool false)] (hs9.trans h.size) (hd9.trans h.defers) (holds_lk ⟨e6,e51,trivial⟩)
       replace s:St w (.blk b6 (.cells (aD (L.getD k z3).1.me (L.getD k z3).1.pr (L.getD k z3).2.1 (L.getD k z3).2.2) 42)::.sl v8 28 33 (aN L).length (av (aN L))::.blk b1 (.cells (#[vo]) 24)::E9) _:=s
       refine aB h rfl rfl rfl ?_
       refine ac h (al bI (h.ev rfl)) rfl ?_;intro f h
       exact ah ⟨_,a7 52 rfl (h.holds 52 _ rfl),rfl,s⟩
      ·intro f9 w2 vl12 E9 hs9 hd9 hl hF s
       have e52:f9.tmps.getD 52 undef=.pointer (some ⟨b6,66,none⟩):=(aW hl 52 8 (by kernel_rfl) (by kernel_rfl)).trans (hF 8 (by decide))
       have e51:f9.tmps.getD 51 undef=.bool false:=(aW hl 51 7 (by kernel_rfl) (by kernel_rfl)).trans (hF 7 (by decide))
       have h:=aq [(52,.pointer (some ⟨b6,66,none⟩)),(51,.bool false)] (hs9.trans h.size) (hd9.trans h.defers) (holds_lk ⟨e52,e51,trivial⟩)
       replace s:St w (.blk b6 (.cells (aD (L.getD k z3).1.me (L.getD k z3).1.pr (L.getD k z3).2.1 (L.getD k z3).2.2) 42)::.sl v8 28 33 (aN L).length (av (aN L))::.blk b1 (.cells (#[vo]) 24)::E9) _:=s
       refine aB h rfl rfl rfl ?_
       refine ar (V:=(L.getD k z3).2.1) (am (bc.of_own s 0 rfl) 66 (bC _ _ _ _)) h bH rfl rfl ?_;intro f h
       exact ah ⟨_,a7 53 rfl (h.holds 53 _ rfl),rfl,s⟩
      ·intro f9 w2 vl12 E9 hs9 hd9 hl hF s
       have e3:f9.tmps.getD 3 undef=_:=cD hl 3 (by kernel_rfl) (by kernel_rfl) (h.holds 3 _ rfl)
       have e51:f9.tmps.getD 51 undef=.bool false:=(aW hl 51 7 (by kernel_rfl) (by kernel_rfl)).trans (hF 7 (by decide))
       have h:=aq [(3,_),(51,.bool false)] (hs9.trans h.size) (hd9.trans h.defers) (holds_lk ⟨e3,e51,trivial⟩)
       replace s:St w (.blk b6 (.cells (aD (L.getD k z3).1.me (L.getD k z3).1.pr (L.getD k z3).2.1 (L.getD k z3).2.2) 42)::.sl v8 28 33 (aN L).length (av (aN L))::.blk b1 (.cells (#[vo]) 24)::E9) _:=s
       refine aB h rfl rfl rfl ?_
       refine ac h (ag (h.ev rfl)) rfl ?_;intro f h
       exact ah ⟨_,a7 54 rfl (h.holds 54 _ rfl),rfl,s⟩
      ·intro f9 w2 vl12 E9 hs9 hd9 hl hF s
       have e6:f9.tmps.getD 6 undef=_:=cD hl 6 (by kernel_rfl) (by kernel_rfl) (h.holds 6 _ rfl)
       have e51:f9.tmps.getD 51 undef=.bool false:=(aW hl 51 7 (by kernel_rfl) (by kernel_rfl)).trans (hF 7 (by decide))
       have h:=aq [(6,_),(51,.bool false)] (hs9.trans h.size) (hd9.trans h.defers) (holds_lk ⟨e6,e51,trivial⟩)
       replace s:St w (.blk b6 (.cells (aD (L.getD k z3).1.me (L.getD k z3).1.pr (L.getD k z3).2.1 (L.getD k z3).2.2) 42)::.sl v8 28 33 (aN L).length (av (aN L))::.blk b1 (.cells (#[vo]) 24)::E9) _:=s
       refine aB h rfl rfl rfl ?_
       refine ac h (al a6 (h.ev rfl)) rfl ?_;intro f h
       exact ah ⟨_,a7 55 rfl (h.holds 55 _ rfl),rfl,s⟩
      ·intro f9 w2 vl12 E9 hs9 hd9 hl hF s
       have e55:f9.tmps.getD 55 undef=.pointer (some ⟨b6,0,none⟩):=(aW hl 55 11 (by kernel_rfl) (by kernel_rfl)).trans (hF 11 (by decide))
       have e51:f9.tmps.getD 51 undef=.bool false:=(aW hl 51 7 (by kernel_rfl) (by kernel_rfl)).trans (hF 7 (by decide))
       have h:=aq [(55,.pointer (some ⟨b6,0,none⟩)),(51,.bool false)] (hs9.trans h.size) (hd9.trans h.defers) (holds_lk ⟨e55,e51,trivial⟩)
       replace s:St w (.blk b6 (.cells (aD (L.getD k z3).1.me (L.getD k z3).1.pr (L.getD k z3).2.1 (L.getD k z3).2.2) 42)::.sl v8 28 33 (aN L).length (av (aN L))::.blk b1 (.cells (#[vo]) 24)::E9) _:=s
       refine aB h rfl rfl rfl ?_
       refine aM (bc.subL (bc.of_own s 0 rfl) 0 33 (D:=au (L.getD k z3).1.me) (bU _ _ _ _)) h aL rfl (ak _) rfl ?_;intro f h
       exact ah ⟨_,a7 56 rfl (h.holds 56 _ rfl),rfl,s⟩
      ·intro f9 w2 vl12 E9 hs9 hd9 hl hF s
       have e4:f9.tmps.getD 4 undef=_:=cD hl 4 (by kernel_rfl) (by kernel_rfl) (h.holds 4 _ rfl)
       have e51:f9.tmps.getD 51 undef=.bool false:=(aW hl 51 7 (by kernel_rfl) (by kernel_rfl)).trans (hF 7 (by decide))
       have h:=aq [(4,_),(51,.bool false)] (hs9.trans h.size) (hd9.trans h.defers) (holds_lk ⟨e4,e51,trivial⟩)
       replace s:St w (.blk b6 (.cells (aD (L.getD k z3).1.me (L.getD k z3).1.pr (L.getD k z3).2.1 (L.getD k z3).2.2) 42)::.sl v8 28 33 (aN L).length (av (aN L))::.blk b1 (.cells (#[vo]) 24)::E9) _:=s
       refine aB h rfl rfl rfl ?_
       refine ac h (ag (h.ev rfl)) rfl ?_;intro f h
       exact ah ⟨_,a7 57 rfl (h.holds 57 _ rfl),rfl,s⟩
      ·intro f9 w2 vl12 E9 hs9 hd9 hl hF s
       have e54:f9.tmps.getD 54 undef=v8:=(aW hl 54 10 (by kernel_rfl) (by kernel_rfl)).trans (hF 10 (by decide))
       have e56:f9.tmps.getD 56 undef=.agg (au (L.getD k z3).1.me):=(aW hl 56 12 (by kernel_rfl) (by kernel_rfl)).trans (hF 12 (by decide))
       have e57:f9.tmps.getD 57 undef=.int .i64 mI:=(aW hl 57 13 (by kernel_rfl) (by kernel_rfl)).trans (hF 13 (by decide))
       have e51:f9.tmps.getD 51 undef=.bool false:=(aW hl 51 7 (by kernel_rfl) (by kernel_rfl)).trans (hF 7 (by decide))
       have h:=aq [(54,v8),(56,.agg (au (L.getD k z3).1.me)),(57,.int .i64 mI),(51,.bool false)] (hs9.trans h.size) (hd9.trans h.defers) (holds_lk ⟨e54,e56,e57,e51,trivial⟩)
       replace s:St w (.blk b6 (.cells (aD (L.getD k z3).1.me (L.getD k z3).1.pr (L.getD k z3).2.1 (L.getD k z3).2.2) 42)::.sl v8 28 33 (aN L).length (av (aN L))::.blk b1 (.cells (#[vo]) 24)::E9) _:=s
       refine aB h rfl rfl rfl ?_
       refine aF h s yo (lP (aN L) v8 (L.getD k z3).1.me mI (min (L.length - 1) 4) (by omega) (by omega) _ (bK.of_own (s.getSl 1 rfl)) (by omega) hrs.nos (lW hkl)) rfl rfl ?_;intro f w1 v58 hT hE h sq;replace s:=s.sl_new hE hT
       exact ah ⟨_,a7 58 rfl (h.holds 58 _ rfl),trivial,s⟩
      ·intro f9 w2 vl12 E9 hs9 hd9 hl hF s
       have e53:f9.tmps.getD 53 undef=(L.getD k z3).2.1:=(aW hl 53 9 (by kernel_rfl) (by kernel_rfl)).trans (hF 9 (by decide))
       have e58:f9.tmps.getD 58 undef=(vl12 14):=aW hl 58 14 (by kernel_rfl) (by kernel_rfl)
       have e51:f9.tmps.getD 51 undef=.bool false:=(aW hl 51 7 (by kernel_rfl) (by kernel_rfl)).trans (hF 7 (by decide))
       have h:=aq [(53,(L.getD k z3).2.1),(58,(vl12 14)),(51,.bool false)] (hs9.trans h.size) (hd9.trans h.defers) (holds_lk ⟨e53,e58,e51,trivial⟩)
       replace s:St w (.sl (vl12 14) 28 33 (dV (aN L) (L.getD k z3).1.me (min (L.length - 1) 4)).length (av (dV (aN L) (L.getD k z3).1.me (min (L.length - 1) 4)))::.blk b6 (.cells (aD (L.getD k z3).1.me (L.getD k z3).1.pr (L.getD k z3).2.1 (L.getD k z3).2.2) 42)::.sl v8 28 33 (aN L).length (av (aN L))::.blk b1 (.cells (#[vo]) 24)::E9) _:=s
       refine aB h rfl rfl rfl ?_
       refine aF h s ly (aO (.bool true) (fG (L.getD k z3).1.sc (dV (aN L) (L.getD k z3).1.me (min (L.length - 1) 4)) (L.getD k z3).2.1 (vl12 14) _ ((hO.2 _ (bh hkl)).1.keep s.ext) (bK.of_own (s.getSl 0 rfl)) (by omega) (by rw [fL];omega)) (congrArg Value.bool p1)) rfl rfl ?_;intro f w1 v9 hT hE h s;obtain rfl:=hT
       exact ah ⟨_,a7 59 rfl (h.holds 59 _ rfl),rfl,(s.pick _ (List.Sublist.cons _ (List.Sublist.cons_cons _ (List.Sublist.cons_cons _ (List.Sublist.cons_cons _ (List.Sublist.refl _))))))⟩
      ·intro f9 w2 vl12 E9 hs9 hd9 hl hF s
       have e59:f9.tmps.getD 59 undef=.bool true:=(aW hl 59 15 (by kernel_rfl) (by kernel_rfl)).trans (hF 15 (by decide))
       have e51:f9.tmps.getD 51 undef=.bool false:=(aW hl 51 7 (by kernel_rfl) (by kernel_rfl)).trans (hF 7 (by decide))
       have h:=aq [(59,.bool true),(51,.bool false)] (hs9.trans h.size) (hd9.trans h.defers) (holds_lk ⟨e59,e51,trivial⟩)
       replace s:St w (.blk b6 (.cells (aD (L.getD k z3).1.me (L.getD k z3).1.pr (L.getD k z3).2.1 (L.getD k z3).2.2) 42)::.sl v8 28 33 (aN L).length (av (aN L))::.blk b1 (.cells (#[vo]) 24)::E9) _:=s
       refine aB h rfl rfl rfl ?_
       refine ac h (aw (.bool false) (bg (h.ev rfl)) rfl) rfl ?_;intro f h
       exact ah ⟨_,a7 60 rfl (h.holds 60 _ rfl),rfl,s⟩
      ·intro f9 w2 vl12 E9 hs9 hd9 hl hF s
       have e51:f9.tmps.getD 51 undef=.bool false:=(aW hl 51 7 (by kernel_rfl) (by kernel_rfl)).trans (hF 7 (by decide))
       have e60:f9.tmps.getD 60 undef=.bool false:=(aW hl 60 16 (by kernel_rfl) (by kernel_rfl)).trans (hF 16 (by decide))
       have h:=aq [(51,.bool false),(60,.bool false)] (hs9.trans h.size) (hd9.trans h.defers) (holds_lk ⟨e51,e60,trivial⟩)
       replace s:St w (.blk b6 (.cells (aD (L.getD k z3).1.me (L.getD k z3).1.pr (L.getD k z3).2.1 (L.getD k z3).2.2) 42)::.sl v8 28 33 (aN L).length (av (aN L))::.blk b1 (.cells (#[vo]) 24)::E9) _:=s
       refine ac h (aE (h.ev rfl) (h.ev rfl)) rfl ?_;intro f h
       exact ah ⟨_,a7 61 rfl (h.holds 61 _ rfl),rfl,s⟩
      intro f w1 vl12 hs9 hd9 hv hr hF s
      replace h:=kM (ops:=_) [(44,.pointer (some ⟨b6,33,none⟩)),(45,.agg (au (L.getD k z3).1.pr)),(46,v8),(47,.pointer (some ⟨b6,0,none⟩)),(48,.agg (au (L.getD k z3).1.me)),(49,.agg (au (ec (aN L) (L.getD k z3).1.me))),(50,.bool false),(51,.bool false),(52,.pointer (some ⟨b6,66,none⟩)),(53,(L.getD k z3).2.1),(54,v8),(55,.pointer (some ⟨b6,0,none⟩)),(56,.agg (au (L.getD k z3).1.me)),(57,.int .i64 mI),(58,(vl12 14)),(59,.bool true),(60,.bool false),(61,.bool false)] h hs9 hd9 hr ⟨(hv 0 44 rfl).trans (hF 0 (by kernel_rfl)),(hv 1 45 rfl).trans (hF 1 (by kernel_rfl)),(hv 2 46 rfl).trans (hF 2 (by kernel_rfl)),(hv 3 47 rfl).trans (hF 3 (by kernel_rfl)),(hv 4 48 rfl).trans (hF 4 (by kernel_rfl)),(hv 5 49 rfl).trans (hF 5 (by kernel_rfl)),(hv 6 50 rfl).trans (hF 6 (by kernel_rfl)),(hv 7 51 rfl).trans (hF 7 (by kernel_rfl)),(hv 8 52 rfl).trans (hF 8 (by kernel_rfl)),(hv 9 53 rfl).trans (hF 9 (by kernel_rfl)),(hv 10 54 rfl).trans (hF 10 (by kernel_rfl)),(hv 11 55 rfl).trans (hF 11 (by kernel_rfl)),(hv 12 56 rfl).trans (hF 12 (by kernel_rfl)),(hv 13 57 rfl).trans (hF 13 (by kernel_rfl)),hv 14 58 rfl,(hv 15 59 rfl).trans (hF 15 (by kernel_rfl)),(hv 16 60 rfl).trans (hF 16 (by kernel_rfl)),(hv 17 61 rfl).trans (hF 17 (by kernel_rfl)),trivial⟩ (by kernel_rfl)
      replace s:St w [.blk b6 (.cells (aD (L.getD k z3).1.me (L.getD k z3).1.pr (L.getD k z3).2.1 (L.getD k z3).2.2) 42),.sl v8 28 33 (aN L).length (av (aN L)),.blk b1 (.cells (#[vo]) 24)] _:=s
      refine hK19 _ _ ?_
      refine wpIn_cond_false (h.ev rfl) ?_
      refine wpIn_skip ?_
      refine bF ?_
      refine hK14 _ _ ?_
      refine ae ?_
      refine ac h (cg (h.ev rfl) (h.ev rfl) (by omega)) rfl ?_;intro f h
      refine ac h (ag (h.ev rfl)) rfl ?_;intro f h
      refine ah ?_
      refine bQ ?_
      exact ⟨_,by omega,⟨k+1,h.only ⟨rfl,rfl,rfl,rfl,rfl,rfl,rfl,rfl,aR rfl (by omega),trivial⟩,St.as (s.pick _ (List.sublist_append_right [_] _)) ⟨rfl,rfl,trivial⟩,rfl,by omega,vv hp1 ((Ai p0 rfl).trans p1),by omega⟩⟩
  ·replace hc:=of_decide_eq_false hc
   refine wpIn_exit ?_
   refine bw ?_
   refine bw ?_
   refine cq ?_
   refine hK10 _ _ ?_
   refine aj fun K22 hK22=>?_
   refine ae ?_
   refine ac h (ai (h.ev rfl)) rfl ?_;intro f h
   refine ah ?_
   refine hK22 _ _ ?_
   refine wpIn_ret ?_
   exact aX rfl h s rfl (by show _=_;rw [qH r0 (by omega) (by omega) hp1])
end Go.Proofs.YthggibfkgofncaaGreat
