/- What the reference of node answers for who is dropped, heard of and followed; what Tend and Round of the reference of chord answer. -/
import Derived.Test.YthggibfkgofncaaGreatVa
import Derived.Test.YthggibfkgofncaaGreatVc
import Derived.Test.YthggibfkgofncaaGreatVe
set_option linter.unusedVariables false
set_option linter.unusedSimpArgs false
set_option linter.unusedSectionVars false
namespace Go.Proofs.YthggibfkgofncaaGreat
open Go.RowKit
set_option maxHeartbeats 1000000 in
theorem eO (l:List Mb) (vh:Value) (nos:List Int) (vn:Value) (no:Int) (w:World) (hR:bq w vh 33 l.length (ap l)) (hln:l.length≤1000) (hN:bq w vn 1 nos.length (nos.map (Value.int .i64))) (hnn:nos.length≤1000):Calls Tryz.prog 92 [vh,vn,.int .i64 no].toArray w (cU w (fun v w'=>cQ w' w.heap.size 28 33 v (dh l nos no).length (ap (dh l nos no)))):=by
 refine bp Tryz.func92 rfl Tryz.ntmps92 rfl [(0,vh),(1,vn),(2,.int .i64 no)] (by simp) fun f h=>?_
 have s:=St.start w
 refine al fun K1 hK1=>?_
 refine ae ?_
 refine ac h (aj (h.ev rfl)) rfl ?_;intro f h
 refine ah ?_
 refine hK1 _ _ ?_
 refine al fun K2 hK2=>?_
 refine ae ?_
 refine cg (vs:=[]) [] h s Tryz.underlying36 cP rfl rfl (by simp) rfl rfl rfl ?_;intro f w1 v13 h s
 replace s:=s.resl (m:=(dh (l.take 0) nos no).length) (ys:=ap (dh (l.take 0) nos no)) 0 rfl rfl rfl
 refine ac h (aj (h.ev rfl)) rfl ?_;intro f h
 refine ah ?_
 refine hK2 _ _ ?_
 refine al fun K3 hK3=>?_
 refine al fun K4 hK4=>?_
 refine ae ?_
 refine ac h (ag (h.ev rfl)) rfl ?_;intro f h
 refine ac h (bc (hR.keep s.ext) Tryz.underlying36 (h.ev rfl)) rfl ?_;intro f h
 refine ac h (ag (h.ev rfl)) rfl ?_;intro f h
 refine ah ?_
 refine hK4 _ _ ?_
 refine wpIn_block ?_
 refine wpIn_loop_ghost (fun nn aa ww=>∃ k:Nat,∃ vb:Value,Sl 47 aa [(0,vh),(1,vn),(2,.int .i64 no),(7,vb),(14,vh),(15,.int .i64 (l.length:Int)),(16,.int .i64 (k:Int))]∧St w [.sl vb 28 33 (dh (l.take k) nos no).length (ap (dh (l.take k) nos no))] ww∧nn=l.length - k∧k≤l.length) (l.length - (0)) ⟨0,v13,h.only ⟨rfl,rfl,rfl,rfl,rfl,rfl,aQ rfl (by omega),trivial⟩,s.as ⟨rfl,trivial⟩,rfl,Nat.zero_le _⟩ ?_
 rintro _ f w1 ⟨k,vb,h,s,hnn,hp0⟩
 have hwl:=pY (l.take k) nos no
 rw [List.length_take] at hwl
 refine al fun K5 hK5=>?_
 refine ae ?_
 refine ac h (bN (h.ev rfl) (h.ev rfl)) rfl ?_;intro f h
 refine ah ?_
 refine hK5 _ _ ?_
 refine al fun K6 hK6=>?_
 refine bM h rfl (fun hc=>?_) (fun hc=>?_)
 ·replace hc:=of_decide_eq_true hc
  refine wpIn_skip ?_
  refine hK6 _ _ ?_
  refine al fun K7 hK7=>?_
  refine wpIn_block ?_
  refine al fun K8 hK8=>?_
  refine ae ?_
  have hkl:k<l.length:=by omega
  refine ac h (bZ (hR.keep s.ext) (k) Tryz.underlying36 cz (h.ev rfl) (h.ev rfl) (by omega) (by omega)) rfl ?_;intro f h
  refine aB ((hR.keep s.ext).el (k) (by omega) (by decide) (D:=aw (l.getD k aT)) (cL l k hkl)) h aL rfl (ak _) rfl ?_;intro f h
  refine bj (aw aT) h s cB rfl rfl ?_;intro f w1 b9 h s
  refine ax 0 h s aL rfl rfl rfl (ak _) (ak _) (aS _) ?_;intro w1 s
  refine ah ?_
  refine hK8 _ _ ?_
  refine al fun K9 hK9=>?_
  refine ae ?_
  refine ac h (aj (h.ev rfl)) rfl ?_;intro f h
  refine ah ?_
  refine hK9 _ _ ?_
  refine al fun K10 hK10=>?_
  refine al fun K11 hK11=>?_
  refine ae ?_
  refine ac h (ag (h.ev rfl)) rfl ?_;intro f h
  refine ac h (bc (hN.keep s.ext) Tryz.underlying78 (h.ev rfl)) rfl ?_;intro f h
  refine ac h (ag (h.ev rfl)) rfl ?_;intro f h
  refine ah ?_
  refine hK11 _ _ ?_
  refine wpIn_block ?_
  refine wpIn_loop_ghost (fun nn aa ww=>∃ j:Nat,Sl 47 aa [(0,vh),(1,vn),(2,.int .i64 no),(9,.pointer (some ⟨b9,0,none⟩)),(7,vb),(10,.bool (fY nos (yh no (l.getD k aT)) j)),(14,vh),(15,.int .i64 (l.length:Int)),(16,.int .i64 (k:Int)),(20,vn),(21,.int .i64 (nos.length:Int)),(22,.int .i64 (j:Int))]∧St w [.blk b9 (.cells (aw (l.getD k aT)) 28),.sl vb 28 33 (dh (l.take k) nos no).length (ap (dh (l.take k) nos no))] ww∧nn=nos.length - j∧j≤nos.length) (nos.length - (0)) ⟨0,h.only ⟨rfl,rfl,rfl,rfl,rfl,rfl,rfl,rfl,rfl,rfl,rfl,aQ rfl (by omega),trivial⟩,s.as ⟨rfl,rfl,trivial⟩,rfl,Nat.zero_le _⟩ ?_
  rintro _ f w1 ⟨j,h,s,hnn,hp0⟩
  refine al fun K12 hK12=>?_
  refine ae ?_
  refine ac h (bN (h.ev rfl) (h.ev rfl)) rfl ?_;intro f h
  refine ah ?_
  refine hK12 _ _ ?_
  refine al fun K13 hK13=>?_
  refine bM h rfl (fun hc=>?_) (fun hc=>?_)
  ·replace hc:=of_decide_eq_true hc
   refine wpIn_skip ?_
   refine hK13 _ _ ?_
   refine al fun K14 hK14=>?_
   refine wpIn_block ?_
   refine al fun K15 hK15=>?_
   refine ae ?_
   have hjl:j<nos.length:=by omega
   refine ac h (bZ (hN.keep s.ext) (j) Tryz.underlying78 C8 (h.ev rfl) (h.ev rfl) (by omega) (by omega)) rfl ?_;intro f h
   refine au ((hN.keep s.ext).el1 (j) (V:=.int .i64 (nos.getD j 0)) (Aq nos j hjl)) h bz rfl rfl ?_;intro f h
   refine ac h (aj (h.ev rfl)) rfl ?_;intro f h
   refine ah ?_
   refine hK15 _ _ ?_
   cases d0:((fY nos (yh no (l.getD k aT)) j):Bool)
   ·skip
    cases d1:(decide (nos.getD j 0=(l.getD k aT).1):Bool)
    ·skip
     refine ae ?_
     refine ac h (ag (h.ev rfl)) rfl ?_;intro f h
     refine ac h (av (.bool false) (ag (h.ev rfl)) (congrArg Value.bool d0)) rfl ?_;intro f h
     refine az h rfl rfl rfl ?_
     refine ac h (ag (h.ev rfl)) rfl ?_;intro f h
     refine az h rfl rfl rfl ?_
     refine ac h (ai aJ (h.ev rfl)) rfl ?_;intro f h
     refine az h rfl rfl rfl ?_
     refine au (am (aU.of_own s 0 rfl) 0 (aP _)) h bz rfl rfl ?_;intro f h
     refine az h rfl rfl rfl ?_
     refine ac h (av (.bool false) (bX (h.ev rfl) (h.ev rfl)) (congrArg Value.bool d1)) rfl ?_;intro f h
     refine az h rfl rfl rfl ?_
     refine ac h (ag (h.ev rfl)) rfl ?_;intro f h
     refine aA (b:=true) h rfl rfl rfl rfl ?_;intro f h
     refine aA (b:=true) h rfl rfl rfl rfl ?_;intro f h
     refine aA (b:=true) h rfl rfl rfl rfl ?_;intro f h
     refine az h rfl rfl rfl ?_
     refine ac h (aG (h.ev rfl) (h.ev rfl)) rfl ?_;intro f h
     refine ac h (aG (h.ev rfl) (h.ev rfl)) rfl ?_;intro f h
     refine ac h (aj (h.ev rfl)) rfl ?_;intro f h
     refine ah ?_
     refine bF ?_
     refine hK14 _ _ ?_
     refine ae ?_
     refine ac h (cf (h.ev rfl) (h.ev rfl) (by omega)) rfl ?_;intro f h
     refine ac h (ag (h.ev rfl)) rfl ?_;intro f h
     refine ah ?_
     refine bQ ?_
     exact ⟨_,by omega,⟨j+1,h.only ⟨rfl,rfl,rfl,rfl,rfl,congrArg (fun b=>some (Value.bool b)) (D5 hjl d0 d1).symm,rfl,rfl,rfl,rfl,rfl,aQ rfl (by omega),trivial⟩,St.as s ⟨rfl,rfl,trivial⟩,rfl,by omega⟩⟩
    ·skip
     cases d2:(decide (nos.getD j 0≠no):Bool)
     ·skip
      refine ae ?_
      refine ac h (ag (h.ev rfl)) rfl ?_;intro f h
      refine ac h (av (.bool false) (ag (h.ev rfl)) (congrArg Value.bool d0)) rfl ?_;intro f h
      refine az h rfl rfl rfl ?_
      refine ac h (ag (h.ev rfl)) rfl ?_;intro f h
      refine az h rfl rfl rfl ?_
      refine ac h (ai aJ (h.ev rfl)) rfl ?_;intro f h
      refine az h rfl rfl rfl ?_
      refine au (am (aU.of_own s 0 rfl) 0 (aP _)) h bz rfl rfl ?_;intro f h
      refine az h rfl rfl rfl ?_
      refine ac h (av (.bool true) (bX (h.ev rfl) (h.ev rfl)) (congrArg Value.bool d1)) rfl ?_;intro f h
      refine az h rfl rfl rfl ?_
      refine ac h (ag (h.ev rfl)) rfl ?_;intro f h
      refine az h rfl rfl rfl ?_
      refine ac h (ag (h.ev rfl)) rfl ?_;intro f h
      refine az h rfl rfl rfl ?_
      refine ac h (ag (h.ev rfl)) rfl ?_;intro f h
      refine az h rfl rfl rfl ?_
      refine ac h (av (.bool false) (c3 (h.ev rfl) (h.ev rfl)) (congrArg Value.bool d2)) rfl ?_;intro f h
      refine az h rfl rfl rfl ?_
      refine ac h (aI (h.ev rfl) (h.ev rfl)) rfl ?_;intro f h
      refine ac h (aG (h.ev rfl) (h.ev rfl)) rfl ?_;intro f h
      refine ac h (aj (h.ev rfl)) rfl ?_;intro f h
      refine ah ?_
      refine bF ?_
      refine hK14 _ _ ?_
      refine ae ?_
      refine ac h (cf (h.ev rfl) (h.ev rfl) (by omega)) rfl ?_;intro f h
      refine ac h (ag (h.ev rfl)) rfl ?_;intro f h
      refine ah ?_
      refine bQ ?_
      exact ⟨_,by omega,⟨j+1,h.only ⟨rfl,rfl,rfl,rfl,rfl,congrArg (fun b=>some (Value.bool b)) (Eo hjl d0 d2).symm,rfl,rfl,rfl,rfl,rfl,aQ rfl (by omega),trivial⟩,St.as s ⟨rfl,rfl,trivial⟩,rfl,by omega⟩⟩
     ·skip
      refine ae ?_
      refine ac h (ag (h.ev rfl)) rfl ?_;intro f h
      refine ac h (av (.bool false) (ag (h.ev rfl)) (congrArg Value.bool d0)) rfl ?_;intro f h
      refine az h rfl rfl rfl ?_
      refine ac h (ag (h.ev rfl)) rfl ?_;intro f h
      refine az h rfl rfl rfl ?_
      refine ac h (ai aJ (h.ev rfl)) rfl ?_;intro f h
      refine az h rfl rfl rfl ?_
      refine au (am (aU.of_own s 0 rfl) 0 (aP _)) h bz rfl rfl ?_;intro f h
      refine az h rfl rfl rfl ?_
      refine ac h (av (.bool true) (bX (h.ev rfl) (h.ev rfl)) (congrArg Value.bool d1)) rfl ?_;intro f h
      refine az h rfl rfl rfl ?_
      refine ac h (ag (h.ev rfl)) rfl ?_;intro f h
      refine az h rfl rfl rfl ?_
      refine ac h (ag (h.ev rfl)) rfl ?_;intro f h
      refine az h rfl rfl rfl ?_
      refine ac h (ag (h.ev rfl)) rfl ?_;intro f h
      refine az h rfl rfl rfl ?_
      refine ac h (av (.bool true) (c3 (h.ev rfl) (h.ev rfl)) (congrArg Value.bool d2)) rfl ?_;intro f h
      refine az h rfl rfl rfl ?_
      refine ac h (aI (h.ev rfl) (h.ev rfl)) rfl ?_;intro f h
      refine ac h (aG (h.ev rfl) (h.ev rfl)) rfl ?_;intro f h
      refine ac h (aj (h.ev rfl)) rfl ?_;intro f h
      refine ah ?_
      refine bF ?_
      refine hK14 _ _ ?_
      refine ae ?_
      refine ac h (cf (h.ev rfl) (h.ev rfl) (by omega)) rfl ?_;intro f h
      refine ac h (ag (h.ev rfl)) rfl ?_;intro f h
      refine ah ?_
      refine bQ ?_
      exact ⟨_,by omega,⟨j+1,h.only ⟨rfl,rfl,rfl,rfl,rfl,congrArg (fun b=>some (Value.bool b)) (Eg hjl d1 d2).symm,rfl,rfl,rfl,rfl,rfl,aQ rfl (by omega),trivial⟩,St.as s ⟨rfl,rfl,trivial⟩,rfl,by omega⟩⟩
   ·skip
    refine ae ?_
    refine ac h (ag (h.ev rfl)) rfl ?_;intro f h
    refine ac h (av (.bool true) (ag (h.ev rfl)) (congrArg Value.bool d0)) rfl ?_;intro f h
    refine aA (b:=false) h rfl rfl rfl rfl ?_;intro f h
    refine aA (b:=false) h rfl rfl rfl rfl ?_;intro f h
    refine aA (b:=false) h rfl rfl rfl rfl ?_;intro f h
    refine aA (b:=false) h rfl rfl rfl rfl ?_;intro f h
    refine aA (b:=false) h rfl rfl rfl rfl ?_;intro f h
    refine dC h rfl rfl rfl rfl ?_;intro f h
    refine dC h rfl rfl rfl rfl ?_;intro f h
    refine dC h rfl rfl rfl rfl ?_;intro f h
    refine aA (b:=false) h rfl rfl rfl rfl ?_;intro f h
    refine ac h (aI (h.ev rfl) (h.ev rfl)) rfl ?_;intro f h
    refine ac h (aj (h.ev rfl)) rfl ?_;intro f h
    refine ah ?_
    refine bF ?_
    refine hK14 _ _ ?_
    refine ae ?_
    refine ac h (cf (h.ev rfl) (h.ev rfl) (by omega)) rfl ?_;intro f h
    refine ac h (ag (h.ev rfl)) rfl ?_;intro f h
    refine ah ?_
    refine bQ ?_
    exact ⟨_,by omega,⟨j+1,h.only ⟨rfl,rfl,rfl,rfl,rfl,congrArg (fun b=>some (Value.bool b)) (Ea hjl d0).symm,rfl,rfl,rfl,rfl,rfl,aQ rfl (by omega),trivial⟩,St.as s ⟨rfl,rfl,trivial⟩,rfl,by omega⟩⟩
  ·replace hc:=of_decide_eq_false hc
   refine wpIn_exit ?_
   refine bJ ?_
   refine bJ ?_
   refine cC ?_
   refine hK10 _ _ ?_
   refine al fun K16 hK16=>?_
   cases hgr:(ib nos no (l.getD k aT):Bool)
   ·skip
    refine ae ?_
    have hje:=x7 (no:=no) (x:=(l.getD k aT)) (show j=nos.length by omega)
    refine ac h (av (.bool false) (ag (h.ev rfl)) (congrArg Value.bool (hje.trans hgr))) rfl ?_;intro f h
    refine ac h (av (.bool true) (bh (h.ev rfl)) rfl) rfl ?_;intro f h
    refine ah ?_
    refine hK16 _ _ ?_
    refine wpIn_cond_true (h.ev rfl) ?_
    refine ae ?_
    refine ac h (ag (h.ev rfl)) rfl ?_;intro f h
    refine ar 0 h s aL rfl rfl (ak _) rfl ?_;intro f h
    refine cg (vs:=[.agg (aw (l.getD k aT))]) [.tmp 42] h s Tryz.underlying36 cP rfl rfl (eS _) rfl rfl rfl ?_;intro f w1 v43 h s
    refine cZ 2 0 h s Tryz.underlying36 cP rfl rfl rfl rfl (by decide) (by rw [c0];exact aS _) (by unfold maxLen;omega) (by omega) rfl ?_;intro f w1 v44 h s
    replace s:=s.pick _ (List.sublist_cons_self _ _)
    replace s:=s.resl (m:=(dh (l.take (k+1)) nos no).length) (ys:=ap (dh (l.take (k+1)) nos no)) 1 rfl (by rw [tv hkl hgr,List.length_append];rfl) (by rw [tv hkl hgr,c0,gJ])
    refine ac h (aj (h.ev rfl)) rfl ?_;intro f h
    refine ah ?_
    refine bF ?_
    refine hK7 _ _ ?_
    refine ae ?_
    refine ac h (cf (h.ev rfl) (h.ev rfl) (by omega)) rfl ?_;intro f h
    refine ac h (ag (h.ev rfl)) rfl ?_;intro f h
    refine ah ?_
    refine bQ ?_
    exact ⟨_,by omega,⟨k+1,v44,h.only ⟨rfl,rfl,rfl,rfl,rfl,rfl,aQ rfl (by omega),trivial⟩,St.as (s.pick _ (List.sublist_append_right [_] _)) ⟨rfl,trivial⟩,rfl,by omega⟩⟩
   ·skip
    refine ae ?_
    have hje:=x7 (no:=no) (x:=(l.getD k aT)) (show j=nos.length by omega)
    refine ac h (av (.bool true) (ag (h.ev rfl)) (congrArg Value.bool (hje.trans hgr))) rfl ?_;intro f h
    refine ac h (av (.bool false) (bh (h.ev rfl)) rfl) rfl ?_;intro f h
    refine ah ?_
    refine hK16 _ _ ?_
    refine wpIn_cond_false (h.ev rfl) ?_
    refine wpIn_skip ?_
    refine bF ?_
    refine hK7 _ _ ?_
    refine ae ?_
    refine ac h (cf (h.ev rfl) (h.ev rfl) (by omega)) rfl ?_;intro f h
    refine ac h (ag (h.ev rfl)) rfl ?_;intro f h
    refine ah ?_
    refine bQ ?_
    exact ⟨_,by omega,⟨k+1,vb,h.only ⟨rfl,rfl,rfl,rfl,rfl,rfl,aQ rfl (by omega),trivial⟩,St.as (s.pick _ (List.sublist_append_right [_] _)) ⟨fH (by rw [tH hkl hgr]) (by rw [tH hkl hgr]),trivial⟩,rfl,by omega⟩⟩
 ·replace hc:=of_decide_eq_false hc
  refine wpIn_exit ?_
  refine bJ ?_
  refine bJ ?_
  refine cC ?_
  refine hK3 _ _ ?_
  refine al fun K17 hK17=>?_
  refine ae ?_
  refine ac h (ag (h.ev rfl)) rfl ?_;intro f h
  refine ac h (aj (h.ev rfl)) rfl ?_;intro f h
  refine ah ?_
  refine hK17 _ _ ?_
  refine wpIn_ret ?_
  exact bf rfl h s rfl ((by obtain rfl:k=l.length:=(by omega);rw [List.take_length] at s;exact(s.getSl 0 rfl)))
set_option maxHeartbeats 1000000 in
theorem uj (n:Nd) (vs vf:Value) (nos:List Int) (vn:Value) (w:World) (hRs:bq w vs 33 n.sc.length (ap n.sc)) (hRf:bq w vf 33 n.fg.length (ap n.fg)) (hns:n.sc.length≤900) (hnf:n.fg.length≤900) (hN:bq w vn 1 nos.length (nos.map (Value.int .i64))) (hnn:nos.length≤1000):Calls Tryz.prog 59 [.agg (aC n.me n.pr vs vf),vn].toArray w (cU w (DX w 28 n.me (yj n nos) (ky (dh n.sc nos n.me.1) n.me) (dh n.fg nos n.me.1))):=by
 have hwl:=pY n.sc nos n.me.1
 refine bp Tryz.func59 rfl Tryz.ntmps59 rfl [(0,.agg (aC n.me n.pr vs vf)),(1,vn)] (by simp) fun f h=>?_
 have s:=St.start w
 refine al fun K1 hK1=>?_
 refine ae ?_
 refine bV (aC n.me n.pr vs vf) h s rfl rfl rfl ?_;intro f w1 b2 h s
 refine bj (aC aT aT a8 a8) h s ea rfl rfl ?_;intro f w1 b4 h s
 refine ah ?_
 refine hK1 _ _ ?_
 refine al fun K2 hK2=>?_
 refine ae ?_
 refine ac h (ai bD (h.ev rfl)) rfl ?_;intro f h
 refine au (V:=vs) (am (aU.of_own s 1 rfl) 66 (bL _ _ _ _)) h bE rfl rfl ?_;intro f h
 refine ac h (ag (h.ev rfl)) rfl ?_;intro f h
 refine ac h (ai aR (h.ev rfl)) rfl ?_;intro f h
 refine ac h (ai aJ (h.ev rfl)) rfl ?_;intro f h
 refine au (am (aU.of_own s 1 rfl) 0 (bO _ _ _ _)) h bz rfl rfl ?_;intro f h
 refine aH h s oq (eO n.sc vs nos vn n.me.1 _ (hRs.keep s.ext) (by omega) (hN.keep s.ext) hnn) rfl rfl ?_;intro f w1 v11 hT hE h sq;replace s:=s.sl_new hE hT
 refine ac h (ai bD (h.ev rfl)) rfl ?_;intro f h
 refine bg 2 h s bE rfl rfl rfl (by rw [aq];omega) (aX (s.getSl 0 rfl)) ?_;intro w1 s
 replace s:=s.recell (D:=aC n.me n.pr v11 vf) 2 rfl (ek _ _ _ _ _)
 refine ah ?_
 refine hK2 _ _ ?_
 refine al fun K3 hK3=>?_
 refine ae ?_
 refine ac h (ai cR (h.ev rfl)) rfl ?_;intro f h
 refine au (V:=vf) (am (aU.of_own s 2 rfl) 67 (cT _ _ _ _)) h bE rfl rfl ?_;intro f h
 refine ac h (ag (h.ev rfl)) rfl ?_;intro f h
 refine ac h (ai aR (h.ev rfl)) rfl ?_;intro f h
 refine ac h (ai aJ (h.ev rfl)) rfl ?_;intro f h
 refine au (am (aU.of_own s 2 rfl) 0 (bO _ _ _ _)) h bz rfl rfl ?_;intro f h
 refine aH h s oq (eO n.fg vf nos vn n.me.1 _ (hRf.keep s.ext) (by omega) (hN.keep s.ext) hnn) rfl rfl ?_;intro f w1 v19 hT hE h sq;replace s:=s.sl_new hE hT
 refine ac h (ai cR (h.ev rfl)) rfl ?_;intro f h
 refine bg 3 h s bE rfl rfl rfl (by rw [aq];omega) (aX (s.getSl 0 rfl)) ?_;intro w1 s
 replace s:=s.recell (D:=aC n.me n.pr v11 v19) 3 rfl (iz _ _ _ _ _)
 refine ah ?_
 refine hK3 _ _ ?_
 refine al fun K4 hK4=>?_
 refine al fun K5 hK5=>?_
 refine ae ?_
 refine ac h (ai bD (h.ev rfl)) rfl ?_;intro f h
 refine au (V:=v11) (am (aU.of_own s 3 rfl) 66 (bL _ _ _ _)) h bE rfl rfl ?_;intro f h
 refine cK 1 h s Tryz.underlying36 rfl rfl rfl ?_;intro f h
 refine ac h (bX (h.ev rfl) (h.ev rfl)) rfl ?_;intro f h
 refine ah ?_
 refine hK5 _ _ ?_
 refine bM h rfl (fun hc=>?_) (fun hc=>?_)
 ·have h0:(dh n.sc nos n.me.1).length=0:=by have:=of_decide_eq_true hc;omega
  refine ae ?_
  refine ac h (ai bD (h.ev rfl)) rfl ?_;intro f h
  refine au (V:=v11) (am (aU.of_own s 3 rfl) 66 (bL _ _ _ _)) h bE rfl rfl ?_;intro f h
  refine ac h (ai aR (h.ev rfl)) rfl ?_;intro f h
  refine aB (aU.subL (aU.of_own s 3 rfl) 0 33 (D:=aw n.me) (bT _ _ _ _)) h aL rfl (ak _) rfl ?_;intro f h
  refine cg (vs:=[.agg (aw n.me)]) [.tmp 28] h s Tryz.underlying36 cP rfl rfl (eS _) rfl rfl rfl ?_;intro f w1 v29 h s
  refine cZ 2 0 h s Tryz.underlying36 cP rfl rfl rfl rfl (by decide) (by rw [c0];exact aS _) (by unfold maxLen;omega) (by omega) rfl ?_;intro f w1 v30 h s
  replace s:=s.pick _ (List.sublist_cons_self _ _)
  replace s:=s.resl (m:=[n.me].length) (ys:=ap [n.me]) 1 rfl (by rw [h0];rfl) (by rw [List.eq_nil_of_length_eq_zero h0,c0,cM];rfl)
  refine ac h (ai bD (h.ev rfl)) rfl ?_;intro f h
  refine bg 3 h s bE rfl rfl rfl (by rw [aq];omega) (aX (s.getSl 1 rfl)) ?_;intro w1 s
  replace s:=s.recell (D:=aC n.me n.pr v30 v19) 3 rfl (ek _ _ _ _ _)
  refine ah ?_
  refine hK4 _ _ ?_
  refine al fun K6 hK6=>?_
  refine al fun K7 hK7=>?_
  cases q0:(!decide (n.pr=de):Bool)
  ·skip
   refine ae ?_
   refine ac h (ai bR (h.ev rfl)) rfl ?_;intro f h
   refine aB (aU.subL (aU.of_own s 3 rfl) 33 33 (D:=aw n.pr) (cb _ _ _ _)) h aL rfl (ak _) rfl ?_;intro f h
   refine aH h s fv (cY n.pr _) rfl rfl ?_;intro f w1 v9 hT hE h s;obtain rfl:=hT
   refine ac h (av (.bool false) (bh (h.ev rfl)) (congrArg Value.bool q0)) rfl ?_;intro f h
   refine ac h (ag (h.ev rfl)) rfl ?_;intro f h
   refine aA (b:=true) h rfl rfl rfl rfl ?_;intro f h
   refine aA (b:=true) h rfl rfl rfl rfl ?_;intro f h
   refine aA (b:=true) h rfl rfl rfl rfl ?_;intro f h
   refine aA (b:=true) h rfl rfl rfl rfl ?_;intro f h
   refine aA (b:=true) h rfl rfl rfl rfl ?_;intro f h
   refine aA (b:=true) h rfl rfl rfl rfl ?_;intro f h
   refine aA (b:=true) h rfl rfl rfl rfl ?_;intro f h
   refine aA (b:=true) h rfl rfl rfl rfl ?_;intro f h
   refine aA (b:=true) h rfl rfl rfl rfl ?_;intro f h
   refine aA (b:=true) h rfl rfl rfl rfl ?_;intro f h
   refine ac h (aG (h.ev rfl) (h.ev rfl)) rfl ?_;intro f h
   refine ah ?_
   refine hK7 _ _ ?_
   refine wpIn_cond_false (h.ev rfl) ?_
   refine wpIn_skip ?_
   refine hK6 _ _ ?_
   refine al fun K8 hK8=>?_
   refine ae ?_
   refine ar 3 h s aZ rfl rfl (aq _ _ _ _) rfl ?_;intro f h
   refine ax 2 h s aZ rfl rfl rfl (aq _ _ _ _) (aq _ _ _ _) (a7 (aX (s.getSl 1 rfl)) (aX (s.getSl 0 rfl))) ?_;intro w1 s
   refine ah ?_
   refine hK8 _ _ ?_
   refine wpIn_ret ?_
   exact c8 2 rfl h s aZ rfl rfl (aq _ _ _ _) (kE (Ax q0) (km h0) (s.sel [1,0] rfl (by decide)))
  ·skip
   cases q1:(decide ((dh [n.pr] nos n.me.1).length=0):Bool)
   ·skip
    refine ae ?_
    refine ac h (ai bR (h.ev rfl)) rfl ?_;intro f h
    refine aB (aU.subL (aU.of_own s 3 rfl) 33 33 (D:=aw n.pr) (cb _ _ _ _)) h aL rfl (ak _) rfl ?_;intro f h
    refine aH h s fv (cY n.pr _) rfl rfl ?_;intro f w1 v9 hT hE h s;obtain rfl:=hT
    refine ac h (av (.bool true) (bh (h.ev rfl)) (congrArg Value.bool q0)) rfl ?_;intro f h
    refine ac h (ag (h.ev rfl)) rfl ?_;intro f h
    refine az h rfl rfl rfl ?_
    refine ac h (ai bR (h.ev rfl)) rfl ?_;intro f h
    refine az h rfl rfl rfl ?_
    refine aB (aU.subL (aU.of_own s 3 rfl) 33 33 (D:=aw n.pr) (cb _ _ _ _)) h aL rfl (ak _) rfl ?_;intro f h
    refine az h rfl rfl rfl ?_
    refine cg (vs:=[.agg (aw n.pr)]) [.tmp 38] h s Tryz.underlying36 cP rfl rfl (eS _) rfl rfl rfl ?_;intro f w1 v39 h s
    replace s:=s.resl (m:=[n.pr].length) (ys:=ap [n.pr]) 0 rfl rfl (by rw [c0,cM])
    refine az h rfl rfl rfl ?_
    refine ac h (ag (h.ev rfl)) rfl ?_;intro f h
    refine az h rfl rfl rfl ?_
    refine ac h (ai aR (h.ev rfl)) rfl ?_;intro f h
    refine az h rfl rfl rfl ?_
    refine ac h (ai aJ (h.ev rfl)) rfl ?_;intro f h
    refine az h rfl rfl rfl ?_
    refine au (am (aU.of_own s 4 rfl) 0 (bO _ _ _ _)) h bz rfl rfl ?_;intro f h
    refine az h rfl rfl rfl ?_
    refine aH h s oq (eO [n.pr] v39 nos vn n.me.1 _ (bq.of_own (s.getSl 0 rfl)) (by show 1≤1000;omega) (hN.keep s.ext) hnn) rfl rfl ?_;intro f w1 v44 hT hE h sq;replace s:=s.sl_new hE hT
    refine az h rfl rfl rfl ?_
    refine cK 0 h s Tryz.underlying36 rfl rfl rfl ?_;intro f h
    refine az h rfl rfl rfl ?_
    refine ac h (av (.bool false) (bX (h.ev rfl) (h.ev rfl)) (congrArg Value.bool (decide_eq_false (by have:=of_decide_eq_false q1;omega)))) rfl ?_;intro f h
    refine ac h (aI (h.ev rfl) (h.ev rfl)) rfl ?_;intro f h
    refine ah ?_
    refine hK7 _ _ ?_
    refine wpIn_cond_false (h.ev rfl) ?_
    refine wpIn_skip ?_
    refine hK6 _ _ ?_
    refine al fun K9 hK9=>?_
    refine ae ?_
    refine ar 5 h s aZ rfl rfl (aq _ _ _ _) rfl ?_;intro f h
    refine ax 4 h s aZ rfl rfl rfl (aq _ _ _ _) (aq _ _ _ _) (a7 (aX (s.getSl 3 rfl)) (aX (s.getSl 2 rfl))) ?_;intro w1 s
    refine ah ?_
    refine hK9 _ _ ?_
    refine wpIn_ret ?_
    exact c8 4 rfl h s aZ rfl rfl (aq _ _ _ _) (kE (Ah q1) (km h0) (s.sel [3,2] rfl (by decide)))
   ·skip
    refine ae ?_
    refine ac h (ai bR (h.ev rfl)) rfl ?_;intro f h
    refine aB (aU.subL (aU.of_own s 3 rfl) 33 33 (D:=aw n.pr) (cb _ _ _ _)) h aL rfl (ak _) rfl ?_;intro f h
    refine aH h s fv (cY n.pr _) rfl rfl ?_;intro f w1 v9 hT hE h s;obtain rfl:=hT
    refine ac h (av (.bool true) (bh (h.ev rfl)) (congrArg Value.bool q0)) rfl ?_;intro f h
    refine ac h (ag (h.ev rfl)) rfl ?_;intro f h
    refine az h rfl rfl rfl ?_
    refine ac h (ai bR (h.ev rfl)) rfl ?_;intro f h
    refine az h rfl rfl rfl ?_
    refine aB (aU.subL (aU.of_own s 3 rfl) 33 33 (D:=aw n.pr) (cb _ _ _ _)) h aL rfl (ak _) rfl ?_;intro f h
    refine az h rfl rfl rfl ?_
    refine cg (vs:=[.agg (aw n.pr)]) [.tmp 38] h s Tryz.underlying36 cP rfl rfl (eS _) rfl rfl rfl ?_;intro f w1 v39 h s
    replace s:=s.resl (m:=[n.pr].length) (ys:=ap [n.pr]) 0 rfl rfl (by rw [c0,cM])
    refine az h rfl rfl rfl ?_
    refine ac h (ag (h.ev rfl)) rfl ?_;intro f h
    refine az h rfl rfl rfl ?_
    refine ac h (ai aR (h.ev rfl)) rfl ?_;intro f h
    refine az h rfl rfl rfl ?_
    refine ac h (ai aJ (h.ev rfl)) rfl ?_;intro f h
    refine az h rfl rfl rfl ?_
    refine au (am (aU.of_own s 4 rfl) 0 (bO _ _ _ _)) h bz rfl rfl ?_;intro f h
    refine az h rfl rfl rfl ?_
    refine aH h s oq (eO [n.pr] v39 nos vn n.me.1 _ (bq.of_own (s.getSl 0 rfl)) (by show 1≤1000;omega) (hN.keep s.ext) hnn) rfl rfl ?_;intro f w1 v44 hT hE h sq;replace s:=s.sl_new hE hT
    refine az h rfl rfl rfl ?_
    refine cK 0 h s Tryz.underlying36 rfl rfl rfl ?_;intro f h
    refine az h rfl rfl rfl ?_
    refine ac h (av (.bool true) (bX (h.ev rfl) (h.ev rfl)) (congrArg Value.bool (decide_eq_true (by have:=of_decide_eq_true q1;omega)))) rfl ?_;intro f h
    refine ac h (aI (h.ev rfl) (h.ev rfl)) rfl ?_;intro f h
    refine ah ?_
    refine hK7 _ _ ?_
    refine wpIn_cond_true (h.ev rfl) ?_
    refine ae ?_
    refine ac h (dO mO rfl) rfl ?_;intro f h
    refine ac h (ai bR (h.ev rfl)) rfl ?_;intro f h
    refine dM 5 h s aL rfl rfl rfl (ak _) (by rw [aq];omega) (aS _) ?_;intro w1 s
    replace s:=s.recell (D:=aC n.me de v30 v19) 5 rfl (fK _ _ _ _ _)
    refine ah ?_
    refine hK6 _ _ ?_
    refine al fun K10 hK10=>?_
    refine ae ?_
    refine ar 5 h s aZ rfl rfl (aq _ _ _ _) rfl ?_;intro f h
    refine ax 4 h s aZ rfl rfl rfl (aq _ _ _ _) (aq _ _ _ _) (a7 (aX (s.getSl 3 rfl)) (aX (s.getSl 2 rfl))) ?_;intro w1 s
    refine ah ?_
    refine hK10 _ _ ?_
    refine wpIn_ret ?_
    exact c8 4 rfl h s aZ rfl rfl (aq _ _ _ _) (kE (DF q0 q1) (km h0) (s.sel [3,2] rfl (by decide)))
 ·have h0:¬ (dh n.sc nos n.me.1).length=0:=by have:=of_decide_eq_false hc;omega
  refine wpIn_skip ?_
  refine hK4 _ _ ?_
  refine al fun K11 hK11=>?_
  refine al fun K12 hK12=>?_
  cases q0:(!decide (n.pr=de):Bool)
  ·skip
   refine ae ?_
   refine ac h (ai bR (h.ev rfl)) rfl ?_;intro f h
   refine aB (aU.subL (aU.of_own s 3 rfl) 33 33 (D:=aw n.pr) (cb _ _ _ _)) h aL rfl (ak _) rfl ?_;intro f h
   refine aH h s fv (cY n.pr _) rfl rfl ?_;intro f w1 v9 hT hE h s;obtain rfl:=hT
   refine ac h (av (.bool false) (bh (h.ev rfl)) (congrArg Value.bool q0)) rfl ?_;intro f h
   refine ac h (ag (h.ev rfl)) rfl ?_;intro f h
   refine aA (b:=true) h rfl rfl rfl rfl ?_;intro f h
   refine aA (b:=true) h rfl rfl rfl rfl ?_;intro f h
   refine aA (b:=true) h rfl rfl rfl rfl ?_;intro f h
   refine aA (b:=true) h rfl rfl rfl rfl ?_;intro f h
   refine aA (b:=true) h rfl rfl rfl rfl ?_;intro f h
   refine aA (b:=true) h rfl rfl rfl rfl ?_;intro f h
   refine aA (b:=true) h rfl rfl rfl rfl ?_;intro f h
   refine aA (b:=true) h rfl rfl rfl rfl ?_;intro f h
   refine aA (b:=true) h rfl rfl rfl rfl ?_;intro f h
   refine aA (b:=true) h rfl rfl rfl rfl ?_;intro f h
   refine ac h (aG (h.ev rfl) (h.ev rfl)) rfl ?_;intro f h
   refine ah ?_
   refine hK12 _ _ ?_
   refine wpIn_cond_false (h.ev rfl) ?_
   refine wpIn_skip ?_
   refine hK11 _ _ ?_
   refine al fun K13 hK13=>?_
   refine ae ?_
   refine ar 3 h s aZ rfl rfl (aq _ _ _ _) rfl ?_;intro f h
   refine ax 2 h s aZ rfl rfl rfl (aq _ _ _ _) (aq _ _ _ _) (a7 (aX (s.getSl 1 rfl)) (aX (s.getSl 0 rfl))) ?_;intro w1 s
   refine ah ?_
   refine hK13 _ _ ?_
   refine wpIn_ret ?_
   exact c8 2 rfl h s aZ rfl rfl (aq _ _ _ _) (kE (Ax q0) (jd h0) (s.sel [1,0] rfl (by decide)))
  ·skip
   cases q1:(decide ((dh [n.pr] nos n.me.1).length=0):Bool)
   ·skip
    refine ae ?_
    refine ac h (ai bR (h.ev rfl)) rfl ?_;intro f h
    refine aB (aU.subL (aU.of_own s 3 rfl) 33 33 (D:=aw n.pr) (cb _ _ _ _)) h aL rfl (ak _) rfl ?_;intro f h
    refine aH h s fv (cY n.pr _) rfl rfl ?_;intro f w1 v9 hT hE h s;obtain rfl:=hT
    refine ac h (av (.bool true) (bh (h.ev rfl)) (congrArg Value.bool q0)) rfl ?_;intro f h
    refine ac h (ag (h.ev rfl)) rfl ?_;intro f h
    refine az h rfl rfl rfl ?_
    refine ac h (ai bR (h.ev rfl)) rfl ?_;intro f h
    refine az h rfl rfl rfl ?_
    refine aB (aU.subL (aU.of_own s 3 rfl) 33 33 (D:=aw n.pr) (cb _ _ _ _)) h aL rfl (ak _) rfl ?_;intro f h
    refine az h rfl rfl rfl ?_
    refine cg (vs:=[.agg (aw n.pr)]) [.tmp 38] h s Tryz.underlying36 cP rfl rfl (eS _) rfl rfl rfl ?_;intro f w1 v39 h s
    replace s:=s.resl (m:=[n.pr].length) (ys:=ap [n.pr]) 0 rfl rfl (by rw [c0,cM])
    refine az h rfl rfl rfl ?_
    refine ac h (ag (h.ev rfl)) rfl ?_;intro f h
    refine az h rfl rfl rfl ?_
    refine ac h (ai aR (h.ev rfl)) rfl ?_;intro f h
    refine az h rfl rfl rfl ?_
    refine ac h (ai aJ (h.ev rfl)) rfl ?_;intro f h
    refine az h rfl rfl rfl ?_
    refine au (am (aU.of_own s 4 rfl) 0 (bO _ _ _ _)) h bz rfl rfl ?_;intro f h
    refine az h rfl rfl rfl ?_
    refine aH h s oq (eO [n.pr] v39 nos vn n.me.1 _ (bq.of_own (s.getSl 0 rfl)) (by show 1≤1000;omega) (hN.keep s.ext) hnn) rfl rfl ?_;intro f w1 v44 hT hE h sq;replace s:=s.sl_new hE hT
    refine az h rfl rfl rfl ?_
    refine cK 0 h s Tryz.underlying36 rfl rfl rfl ?_;intro f h
    refine az h rfl rfl rfl ?_
    refine ac h (av (.bool false) (bX (h.ev rfl) (h.ev rfl)) (congrArg Value.bool (decide_eq_false (by have:=of_decide_eq_false q1;omega)))) rfl ?_;intro f h
    refine ac h (aI (h.ev rfl) (h.ev rfl)) rfl ?_;intro f h
    refine ah ?_
    refine hK12 _ _ ?_
    refine wpIn_cond_false (h.ev rfl) ?_
    refine wpIn_skip ?_
    refine hK11 _ _ ?_
    refine al fun K14 hK14=>?_
    refine ae ?_
    refine ar 5 h s aZ rfl rfl (aq _ _ _ _) rfl ?_;intro f h
    refine ax 4 h s aZ rfl rfl rfl (aq _ _ _ _) (aq _ _ _ _) (a7 (aX (s.getSl 3 rfl)) (aX (s.getSl 2 rfl))) ?_;intro w1 s
    refine ah ?_
    refine hK14 _ _ ?_
    refine wpIn_ret ?_
    exact c8 4 rfl h s aZ rfl rfl (aq _ _ _ _) (kE (Ah q1) (jd h0) (s.sel [3,2] rfl (by decide)))
   ·skip
    refine ae ?_
    refine ac h (ai bR (h.ev rfl)) rfl ?_;intro f h
    refine aB (aU.subL (aU.of_own s 3 rfl) 33 33 (D:=aw n.pr) (cb _ _ _ _)) h aL rfl (ak _) rfl ?_;intro f h
    refine aH h s fv (cY n.pr _) rfl rfl ?_;intro f w1 v9 hT hE h s;obtain rfl:=hT
    refine ac h (av (.bool true) (bh (h.ev rfl)) (congrArg Value.bool q0)) rfl ?_;intro f h
    refine ac h (ag (h.ev rfl)) rfl ?_;intro f h
    refine az h rfl rfl rfl ?_
    refine ac h (ai bR (h.ev rfl)) rfl ?_;intro f h
    refine az h rfl rfl rfl ?_
    refine aB (aU.subL (aU.of_own s 3 rfl) 33 33 (D:=aw n.pr) (cb _ _ _ _)) h aL rfl (ak _) rfl ?_;intro f h
    refine az h rfl rfl rfl ?_
    refine cg (vs:=[.agg (aw n.pr)]) [.tmp 38] h s Tryz.underlying36 cP rfl rfl (eS _) rfl rfl rfl ?_;intro f w1 v39 h s
    replace s:=s.resl (m:=[n.pr].length) (ys:=ap [n.pr]) 0 rfl rfl (by rw [c0,cM])
    refine az h rfl rfl rfl ?_
    refine ac h (ag (h.ev rfl)) rfl ?_;intro f h
    refine az h rfl rfl rfl ?_
    refine ac h (ai aR (h.ev rfl)) rfl ?_;intro f h
    refine az h rfl rfl rfl ?_
    refine ac h (ai aJ (h.ev rfl)) rfl ?_;intro f h
    refine az h rfl rfl rfl ?_
    refine au (am (aU.of_own s 4 rfl) 0 (bO _ _ _ _)) h bz rfl rfl ?_;intro f h
    refine az h rfl rfl rfl ?_
    refine aH h s oq (eO [n.pr] v39 nos vn n.me.1 _ (bq.of_own (s.getSl 0 rfl)) (by show 1≤1000;omega) (hN.keep s.ext) hnn) rfl rfl ?_;intro f w1 v44 hT hE h sq;replace s:=s.sl_new hE hT
    refine az h rfl rfl rfl ?_
    refine cK 0 h s Tryz.underlying36 rfl rfl rfl ?_;intro f h
    refine az h rfl rfl rfl ?_
    refine ac h (av (.bool true) (bX (h.ev rfl) (h.ev rfl)) (congrArg Value.bool (decide_eq_true (by have:=of_decide_eq_true q1;omega)))) rfl ?_;intro f h
    refine ac h (aI (h.ev rfl) (h.ev rfl)) rfl ?_;intro f h
    refine ah ?_
    refine hK12 _ _ ?_
    refine wpIn_cond_true (h.ev rfl) ?_
    refine ae ?_
    refine ac h (dO mO rfl) rfl ?_;intro f h
    refine ac h (ai bR (h.ev rfl)) rfl ?_;intro f h
    refine dM 5 h s aL rfl rfl rfl (ak _) (by rw [aq];omega) (aS _) ?_;intro w1 s
    replace s:=s.recell (D:=aC n.me de v11 v19) 5 rfl (fK _ _ _ _ _)
    refine ah ?_
    refine hK11 _ _ ?_
    refine al fun K15 hK15=>?_
    refine ae ?_
    refine ar 5 h s aZ rfl rfl (aq _ _ _ _) rfl ?_;intro f h
    refine ax 4 h s aZ rfl rfl rfl (aq _ _ _ _) (aq _ _ _ _) (a7 (aX (s.getSl 3 rfl)) (aX (s.getSl 2 rfl))) ?_;intro w1 s
    refine ah ?_
    refine hK15 _ _ ?_
    refine wpIn_ret ?_
    exact c8 4 rfl h s aZ rfl rfl (aq _ _ _ _) (kE (DF q0 q1) (jd h0) (s.sel [3,2] rfl (by decide)))
theorem lC (n:Nd) (vs vf:Value) (x:Mb) (w:World) (hRs:bq w vs 33 n.sc.length (ap n.sc)) (hRf:bq w vf 33 n.fg.length (ap n.fg)):Calls Tryz.prog 61 [.agg (aC n.me n.pr vs vf),.agg (aw x)].toArray w (cU w (is (.agg (aC n.me (gN n x) vs vf)))):=by
 refine bp Tryz.func61 rfl Tryz.ntmps61 rfl [(0,.agg (aC n.me n.pr vs vf)),(1,.agg (aw x))] (by simp) fun f h=>?_
 have s:=St.start w
 refine al fun K1 hK1=>?_
 refine ae ?_
 refine bV (aC n.me n.pr vs vf) h s rfl rfl rfl ?_;intro f w1 b2 h s
 refine bV ((aw x)) h s rfl rfl rfl ?_;intro f w1 b3 h s
 refine bj (aC aT aT a8 a8) h s ea rfl rfl ?_;intro f w1 b4 h s
 refine ah ?_
 refine hK1 _ _ ?_
 refine al fun K2 hK2=>?_
 refine al fun K3 hK3=>?_
 cases g0:(decide (x.1=n.me.1):Bool)
 ·skip
  cases g1:(decide (x.2=n.me.2):Bool)
  ·skip
   refine ae ?_
   refine ac h (ai aJ (h.ev rfl)) rfl ?_;intro f h
   refine au (am (aU.of_own s 1 rfl) 0 (aP _)) h bz rfl rfl ?_;intro f h
   refine ac h (ai aR (h.ev rfl)) rfl ?_;intro f h
   refine ac h (ai aJ (h.ev rfl)) rfl ?_;intro f h
   refine au (am (aU.of_own s 2 rfl) 0 (bO _ _ _ _)) h bz rfl rfl ?_;intro f h
   refine ac h (av (.bool false) (bX (h.ev rfl) (h.ev rfl)) (congrArg Value.bool g0)) rfl ?_;intro f h
   refine ac h (ag (h.ev rfl)) rfl ?_;intro f h
   refine az h rfl rfl rfl ?_
   refine ac h (ai bW (h.ev rfl)) rfl ?_;intro f h
   refine az h rfl rfl rfl ?_
   refine aB (aU.subL (aU.of_own s 1 rfl) 1 32 (D:=bA (_)) (cj _)) h bP rfl (by first|exact aK _|exact aF _ _) rfl ?_;intro f h
   refine az h rfl rfl rfl ?_
   refine ac h (ai aR (h.ev rfl)) rfl ?_;intro f h
   refine az h rfl rfl rfl ?_
   refine ac h (ai bW (h.ev rfl)) rfl ?_;intro f h
   refine az h rfl rfl rfl ?_
   refine aB (aU.subL (aU.of_own s 2 rfl) 1 32 (D:=bA n.me.2) (da _ _ _ _)) h bP rfl (by first|exact aK _|exact aF _ _) rfl ?_;intro f h
   refine az h rfl rfl rfl ?_
   refine ac h (av (.bool false) (dp fC (h.ev rfl) (h.ev rfl)) (congrArg Value.bool g1)) rfl ?_;intro f h
   refine ac h (aG (h.ev rfl) (h.ev rfl)) rfl ?_;intro f h
   refine ah ?_
   refine hK3 _ _ ?_
   refine wpIn_cond_false (h.ev rfl) ?_
   refine wpIn_skip ?_
   refine hK2 _ _ ?_
   refine al fun K4 hK4=>?_
   refine al fun K5 hK5=>?_
   cases q0:(decide (n.pr=de):Bool)
   ·skip
    cases q1:(nk x.2 n.pr.2 n.me.2:Bool)
    ·skip
     refine ae ?_
     refine ac h (ai bR (h.ev rfl)) rfl ?_;intro f h
     refine aB (aU.subL (aU.of_own s 2 rfl) 33 33 (D:=aw n.pr) (cb _ _ _ _)) h aL rfl (ak _) rfl ?_;intro f h
     refine aH h s fv (aO (.bool false) (cY n.pr _) (congrArg Value.bool q0)) rfl rfl ?_;intro f w1 v9 hT hE h s;obtain rfl:=hT
     refine ac h (ag (h.ev rfl)) rfl ?_;intro f h
     refine az h rfl rfl rfl ?_
     refine ac h (ai bW (h.ev rfl)) rfl ?_;intro f h
     refine az h rfl rfl rfl ?_
     refine aB (aU.subL (aU.of_own s 1 rfl) 1 32 (D:=bA (_)) (cj _)) h bP rfl (by first|exact aK _|exact aF _ _) rfl ?_;intro f h
     refine az h rfl rfl rfl ?_
     refine ac h (ai bR (h.ev rfl)) rfl ?_;intro f h
     refine az h rfl rfl rfl ?_
     refine ac h (ai bW (h.ev rfl)) rfl ?_;intro f h
     refine az h rfl rfl rfl ?_
     refine aB (aU.subL (aU.of_own s 2 rfl) 34 32 (D:=bA n.pr.2) (iO _ _ _ _)) h bP rfl (by first|exact aK _|exact aF _ _) rfl ?_;intro f h
     refine az h rfl rfl rfl ?_
     refine ac h (ai aR (h.ev rfl)) rfl ?_;intro f h
     refine az h rfl rfl rfl ?_
     refine ac h (ai bW (h.ev rfl)) rfl ?_;intro f h
     refine az h rfl rfl rfl ?_
     refine aB (aU.subL (aU.of_own s 2 rfl) 1 32 (D:=bA n.me.2) (da _ _ _ _)) h bP rfl (by first|exact aK _|exact aF _ _) rfl ?_;intro f h
     refine az h rfl rfl rfl ?_
     refine aH h s wM (aO (.bool false) (pj _ _ _ _) (congrArg Value.bool q1)) rfl rfl ?_;intro f w1 v9 hT hE h s;obtain rfl:=hT
     refine ac h (aG (h.ev rfl) (h.ev rfl)) rfl ?_;intro f h
     refine ah ?_
     refine hK5 _ _ ?_
     refine wpIn_cond_false (h.ev rfl) ?_
     refine wpIn_skip ?_
     refine hK4 _ _ ?_
     refine al fun K6 hK6=>?_
     refine ae ?_
     refine ar 2 h s aZ rfl rfl (aq _ _ _ _) rfl ?_;intro f h
     refine ax 0 h s aZ rfl rfl rfl (aq _ _ _ _) (aq _ _ _ _) (a7 (co (hRs.keep s.ext)) (co (hRf.keep s.ext))) ?_;intro w1 s
     refine ah ?_
     refine hK6 _ _ ?_
     refine wpIn_ret ?_
     exact c8 0 rfl h s aZ rfl rfl (aq _ _ _ _) (by show _=_;rw [AV q0 q1])
    ·skip
     refine ae ?_
     refine ac h (ai bR (h.ev rfl)) rfl ?_;intro f h
     refine aB (aU.subL (aU.of_own s 2 rfl) 33 33 (D:=aw n.pr) (cb _ _ _ _)) h aL rfl (ak _) rfl ?_;intro f h
     refine aH h s fv (aO (.bool false) (cY n.pr _) (congrArg Value.bool q0)) rfl rfl ?_;intro f w1 v9 hT hE h s;obtain rfl:=hT
     refine ac h (ag (h.ev rfl)) rfl ?_;intro f h
     refine az h rfl rfl rfl ?_
     refine ac h (ai bW (h.ev rfl)) rfl ?_;intro f h
     refine az h rfl rfl rfl ?_
     refine aB (aU.subL (aU.of_own s 1 rfl) 1 32 (D:=bA (_)) (cj _)) h bP rfl (by first|exact aK _|exact aF _ _) rfl ?_;intro f h
     refine az h rfl rfl rfl ?_
     refine ac h (ai bR (h.ev rfl)) rfl ?_;intro f h
     refine az h rfl rfl rfl ?_
     refine ac h (ai bW (h.ev rfl)) rfl ?_;intro f h
     refine az h rfl rfl rfl ?_
     refine aB (aU.subL (aU.of_own s 2 rfl) 34 32 (D:=bA n.pr.2) (iO _ _ _ _)) h bP rfl (by first|exact aK _|exact aF _ _) rfl ?_;intro f h
     refine az h rfl rfl rfl ?_
     refine ac h (ai aR (h.ev rfl)) rfl ?_;intro f h
     refine az h rfl rfl rfl ?_
     refine ac h (ai bW (h.ev rfl)) rfl ?_;intro f h
     refine az h rfl rfl rfl ?_
     refine aB (aU.subL (aU.of_own s 2 rfl) 1 32 (D:=bA n.me.2) (da _ _ _ _)) h bP rfl (by first|exact aK _|exact aF _ _) rfl ?_;intro f h
     refine az h rfl rfl rfl ?_
     refine aH h s wM (aO (.bool true) (pj _ _ _ _) (congrArg Value.bool q1)) rfl rfl ?_;intro f w1 v9 hT hE h s;obtain rfl:=hT
     refine ac h (aG (h.ev rfl) (h.ev rfl)) rfl ?_;intro f h
     refine ah ?_
     refine hK5 _ _ ?_
     refine wpIn_cond_true (h.ev rfl) ?_
     refine ae ?_
     refine ar 1 h s aL rfl rfl (ak _) rfl ?_;intro f h
     refine ac h (ai bR (h.ev rfl)) rfl ?_;intro f h
     refine dM 2 h s aL rfl rfl rfl (ak _) (by rw [aq];omega) (aS _) ?_;intro w1 s
     replace s:=s.recell (D:=aC n.me x vs vf) 2 rfl (fK _ _ _ _ _)
     refine ah ?_
     refine hK4 _ _ ?_
     refine al fun K7 hK7=>?_
     refine ae ?_
     refine ar 2 h s aZ rfl rfl (aq _ _ _ _) rfl ?_;intro f h
     refine ax 0 h s aZ rfl rfl rfl (aq _ _ _ _) (aq _ _ _ _) (a7 (co (hRs.keep s.ext)) (co (hRf.keep s.ext))) ?_;intro w1 s
     refine ah ?_
     refine hK7 _ _ ?_
     refine wpIn_ret ?_
     exact c8 0 rfl h s aZ rfl rfl (aq _ _ _ _) (by show _=_;rw [CS g0 g1 q0 q1])
   ·skip
    refine ae ?_
    refine ac h (ai bR (h.ev rfl)) rfl ?_;intro f h
    refine aB (aU.subL (aU.of_own s 2 rfl) 33 33 (D:=aw n.pr) (cb _ _ _ _)) h aL rfl (ak _) rfl ?_;intro f h
    refine aH h s fv (aO (.bool true) (cY n.pr _) (congrArg Value.bool q0)) rfl rfl ?_;intro f w1 v9 hT hE h s;obtain rfl:=hT
    refine ac h (ag (h.ev rfl)) rfl ?_;intro f h
    refine aA (b:=false) h rfl rfl rfl rfl ?_;intro f h
    refine aA (b:=false) h rfl rfl rfl rfl ?_;intro f h
    refine aA (b:=false) h rfl rfl rfl rfl ?_;intro f h
    refine aA (b:=false) h rfl rfl rfl rfl ?_;intro f h
    refine aA (b:=false) h rfl rfl rfl rfl ?_;intro f h
    refine aA (b:=false) h rfl rfl rfl rfl ?_;intro f h
    refine aA (b:=false) h rfl rfl rfl rfl ?_;intro f h
    refine aA (b:=false) h rfl rfl rfl rfl ?_;intro f h
    refine aA (b:=false) h rfl rfl rfl rfl ?_;intro f h
    refine ac h (aI (h.ev rfl) (h.ev rfl)) rfl ?_;intro f h
    refine ah ?_
    refine hK5 _ _ ?_
    refine wpIn_cond_true (h.ev rfl) ?_
    refine ae ?_
    refine ar 1 h s aL rfl rfl (ak _) rfl ?_;intro f h
    refine ac h (ai bR (h.ev rfl)) rfl ?_;intro f h
    refine dM 2 h s aL rfl rfl rfl (ak _) (by rw [aq];omega) (aS _) ?_;intro w1 s
    replace s:=s.recell (D:=aC n.me x vs vf) 2 rfl (fK _ _ _ _ _)
    refine ah ?_
    refine hK4 _ _ ?_
    refine al fun K8 hK8=>?_
    refine ae ?_
    refine ar 2 h s aZ rfl rfl (aq _ _ _ _) rfl ?_;intro f h
    refine ax 0 h s aZ rfl rfl rfl (aq _ _ _ _) (aq _ _ _ _) (a7 (co (hRs.keep s.ext)) (co (hRf.keep s.ext))) ?_;intro w1 s
    refine ah ?_
    refine hK8 _ _ ?_
    refine wpIn_ret ?_
    exact c8 0 rfl h s aZ rfl rfl (aq _ _ _ _) (by show _=_;rw [CH g0 g1 q0])
  ·skip
   refine ae ?_
   refine ac h (ai aJ (h.ev rfl)) rfl ?_;intro f h
   refine au (am (aU.of_own s 1 rfl) 0 (aP _)) h bz rfl rfl ?_;intro f h
   refine ac h (ai aR (h.ev rfl)) rfl ?_;intro f h
   refine ac h (ai aJ (h.ev rfl)) rfl ?_;intro f h
   refine au (am (aU.of_own s 2 rfl) 0 (bO _ _ _ _)) h bz rfl rfl ?_;intro f h
   refine ac h (av (.bool false) (bX (h.ev rfl) (h.ev rfl)) (congrArg Value.bool g0)) rfl ?_;intro f h
   refine ac h (ag (h.ev rfl)) rfl ?_;intro f h
   refine az h rfl rfl rfl ?_
   refine ac h (ai bW (h.ev rfl)) rfl ?_;intro f h
   refine az h rfl rfl rfl ?_
   refine aB (aU.subL (aU.of_own s 1 rfl) 1 32 (D:=bA (_)) (cj _)) h bP rfl (by first|exact aK _|exact aF _ _) rfl ?_;intro f h
   refine az h rfl rfl rfl ?_
   refine ac h (ai aR (h.ev rfl)) rfl ?_;intro f h
   refine az h rfl rfl rfl ?_
   refine ac h (ai bW (h.ev rfl)) rfl ?_;intro f h
   refine az h rfl rfl rfl ?_
   refine aB (aU.subL (aU.of_own s 2 rfl) 1 32 (D:=bA n.me.2) (da _ _ _ _)) h bP rfl (by first|exact aK _|exact aF _ _) rfl ?_;intro f h
   refine az h rfl rfl rfl ?_
   refine ac h (av (.bool true) (dp fC (h.ev rfl) (h.ev rfl)) (congrArg Value.bool g1)) rfl ?_;intro f h
   refine ac h (aG (h.ev rfl) (h.ev rfl)) rfl ?_;intro f h
   refine ah ?_
   refine hK3 _ _ ?_
   refine wpIn_cond_true (h.ev rfl) ?_
   refine al fun K9 hK9=>?_
   refine ae ?_
   refine ar 2 h s aZ rfl rfl (aq _ _ _ _) rfl ?_;intro f h
   refine ax 0 h s aZ rfl rfl rfl (aq _ _ _ _) (aq _ _ _ _) (a7 (co (hRs.keep s.ext)) (co (hRf.keep s.ext))) ?_;intro w1 s
   refine ah ?_
   refine hK9 _ _ ?_
   refine wpIn_ret ?_
   refine aW ?_
   exact c8 0 rfl h s aZ rfl rfl (aq _ _ _ _) (by show _=_;rw [CG g1])
 ·skip
  refine ae ?_
  refine ac h (ai aJ (h.ev rfl)) rfl ?_;intro f h
  refine au (am (aU.of_own s 1 rfl) 0 (aP _)) h bz rfl rfl ?_;intro f h
  refine ac h (ai aR (h.ev rfl)) rfl ?_;intro f h
  refine ac h (ai aJ (h.ev rfl)) rfl ?_;intro f h
  refine au (am (aU.of_own s 2 rfl) 0 (bO _ _ _ _)) h bz rfl rfl ?_;intro f h
  refine ac h (av (.bool true) (bX (h.ev rfl) (h.ev rfl)) (congrArg Value.bool g0)) rfl ?_;intro f h
  refine ac h (ag (h.ev rfl)) rfl ?_;intro f h
  refine aA (b:=false) h rfl rfl rfl rfl ?_;intro f h
  refine aA (b:=false) h rfl rfl rfl rfl ?_;intro f h
  refine aA (b:=false) h rfl rfl rfl rfl ?_;intro f h
  refine aA (b:=false) h rfl rfl rfl rfl ?_;intro f h
  refine aA (b:=false) h rfl rfl rfl rfl ?_;intro f h
  refine aA (b:=false) h rfl rfl rfl rfl ?_;intro f h
  refine ac h (aI (h.ev rfl) (h.ev rfl)) rfl ?_;intro f h
  refine ah ?_
  refine hK3 _ _ ?_
  refine wpIn_cond_true (h.ev rfl) ?_
  refine al fun K10 hK10=>?_
  refine ae ?_
  refine ar 2 h s aZ rfl rfl (aq _ _ _ _) rfl ?_;intro f h
  refine ax 0 h s aZ rfl rfl rfl (aq _ _ _ _) (aq _ _ _ _) (a7 (co (hRs.keep s.ext)) (co (hRf.keep s.ext))) ?_;intro w1 s
  refine ah ?_
  refine hK10 _ _ ?_
  refine wpIn_ret ?_
  refine aW ?_
  exact c8 0 rfl h s aZ rfl rfl (aq _ _ _ _) (by show _=_;rw [CI g0])
set_option maxHeartbeats 2000000 in
theorem lj (n:Nd) (vs vf:Value) (z:Nd) (ws wf:Value) (w:World) (hRs:bq w vs 33 n.sc.length (ap n.sc)) (hRf:bq w vf 33 n.fg.length (ap n.fg)) (hns:n.sc.length≤400) (hnf:n.fg.length≤400) (hZs:bq w ws 33 z.sc.length (ap z.sc)) (hZf:bq w wf 33 z.fg.length (ap z.fg)) (hzs:z.sc.length≤400) (hzf:z.fg.length≤400) (hz:RN z):Calls Tryz.prog 60 [.agg (aC n.me n.pr vs vf),.agg (aC z.me z.pr ws wf)].toArray w (cU w (yn w 28 n.me n.pr (dx n z) vf)):=by
 refine bp Tryz.func60 rfl Tryz.ntmps60 rfl [(0,.agg (aC n.me n.pr vs vf)),(1,.agg (aC z.me z.pr ws wf))] (by simp) fun f h=>?_
 have s:=St.start w
 refine al fun K1 hK1=>?_
 refine ae ?_
 refine bV (aC n.me n.pr vs vf) h s rfl rfl rfl ?_;intro f w1 b2 h s
 refine bV (aC z.me z.pr ws wf) h s rfl rfl rfl ?_;intro f w1 b3 h s
 refine bj (aC aT aT a8 a8) h s ea rfl rfl ?_;intro f w1 b4 h s
 refine ah ?_
 refine hK1 _ _ ?_
 refine al fun K2 hK2=>?_
 refine ae ?_
 refine cg (vs:=[]) [] h s Tryz.underlying36 cP rfl rfl (by simp) rfl rfl rfl ?_;intro f w1 v10 h s
 replace s:=s.resl (m:=([]:List Mb).length) (ys:=ap []) 0 rfl rfl rfl
 refine ac h (aj (h.ev rfl)) rfl ?_;intro f h
 refine ah ?_
 refine hK2 _ _ ?_
 refine al fun K3 hK3=>?_
 refine ae ?_
 refine ac h (ai bR (h.ev rfl)) rfl ?_;intro f h
 refine aB (aU.subL (aU.of_own s 2 rfl) 33 33 (D:=aw z.pr) (cb _ _ _ _)) h aL rfl (ak _) rfl ?_;intro f h
 refine bj (aw aT) h s cB rfl rfl ?_;intro f w1 b6 h s
 refine ax 0 h s aL rfl rfl rfl (ak _) (ak _) (aS _) ?_;intro w1 s
 refine ah ?_
 refine hK3 _ _ ?_
 refine al fun K4 hK4=>?_
 refine al fun K5 hK5=>?_
 refine wu (fun aa ww=>Sl 88 aa [(0,.agg (aC n.me n.pr vs vf)),(1,.agg (aC z.me z.pr ws wf)),(2,.pointer (some ⟨b2,0,none⟩)),(3,.pointer (some ⟨b3,0,none⟩)),(4,.pointer (some ⟨b4,0,none⟩)),(5,v10),(6,.pointer (some ⟨b6,0,none⟩)),(10,v10),(34,.bool (kV n.me z))]∧St w [.blk b6 (.cells ((aw z.pr)) 28),.sl v10 28 33 ([]:List Mb).length (ap []),.blk b4 (.cells (aC aT aT a8 a8) 42),.blk b3 (.cells (aC z.me z.pr ws wf) 42),.blk b2 (.cells (aC n.me n.pr vs vf) 42)] ww) ?_ ?_
 ·skip
  cases q0:(decide (z.pr=de):Bool)
  ·skip
   cases q1:(decide (z.pr.1≠n.me.1):Bool)
   ·skip
    refine ae ?_
    refine ar 0 h s aL rfl rfl (ak _) rfl ?_;intro f h
    refine aH h s fv (aO (.bool false) (cY z.pr _) (congrArg Value.bool q0)) rfl rfl ?_;intro f w1 v9 hT hE h s;obtain rfl:=hT
    refine ac h (av (.bool true) (bh (h.ev rfl)) rfl) rfl ?_;intro f h
    refine ac h (ag (h.ev rfl)) rfl ?_;intro f h
    refine az h rfl rfl rfl ?_
    refine ac h (ai aJ (h.ev rfl)) rfl ?_;intro f h
    refine az h rfl rfl rfl ?_
    refine au (am (aU.of_own s 0 rfl) 0 (aP _)) h bz rfl rfl ?_;intro f h
    refine az h rfl rfl rfl ?_
    refine ac h (ai aR (h.ev rfl)) rfl ?_;intro f h
    refine az h rfl rfl rfl ?_
    refine ac h (ai aJ (h.ev rfl)) rfl ?_;intro f h
    refine az h rfl rfl rfl ?_
    refine au (am (aU.of_own s 4 rfl) 0 (bO _ _ _ _)) h bz rfl rfl ?_;intro f h
    refine az h rfl rfl rfl ?_
    refine ac h (av (.bool false) (c3 (h.ev rfl) (h.ev rfl)) (congrArg Value.bool q1)) rfl ?_;intro f h
    refine ac h (aI (h.ev rfl) (h.ev rfl)) rfl ?_;intro f h
    refine ac h (ag (h.ev rfl)) rfl ?_;intro f h
    refine aA (b:=true) h rfl rfl rfl rfl ?_;intro f h
    refine aA (b:=true) h rfl rfl rfl rfl ?_;intro f h
    refine aA (b:=true) h rfl rfl rfl rfl ?_;intro f h
    refine aA (b:=true) h rfl rfl rfl rfl ?_;intro f h
    refine aA (b:=true) h rfl rfl rfl rfl ?_;intro f h
    refine aA (b:=true) h rfl rfl rfl rfl ?_;intro f h
    refine aA (b:=true) h rfl rfl rfl rfl ?_;intro f h
    refine aA (b:=true) h rfl rfl rfl rfl ?_;intro f h
    refine aA (b:=true) h rfl rfl rfl rfl ?_;intro f h
    refine ac h (aG (h.ev rfl) (h.ev rfl)) rfl ?_;intro f h
    refine ah ?_
    refine bQ ?_
    exact ⟨h.only ⟨rfl,rfl,rfl,rfl,rfl,rfl,rfl,rfl,congrArg (fun b=>some (Value.bool b)) (CB q1).symm,trivial⟩,St.as s ⟨rfl,rfl,rfl,rfl,rfl,trivial⟩⟩
   ·skip
    cases q2:(vd n.me.2 z.me.2 z.pr:Bool)
    ·skip
     refine ae ?_
     refine ar 0 h s aL rfl rfl (ak _) rfl ?_;intro f h
     refine aH h s fv (aO (.bool false) (cY z.pr _) (congrArg Value.bool q0)) rfl rfl ?_;intro f w1 v9 hT hE h s;obtain rfl:=hT
     refine ac h (av (.bool true) (bh (h.ev rfl)) rfl) rfl ?_;intro f h
     refine ac h (ag (h.ev rfl)) rfl ?_;intro f h
     refine az h rfl rfl rfl ?_
     refine ac h (ai aJ (h.ev rfl)) rfl ?_;intro f h
     refine az h rfl rfl rfl ?_
     refine au (am (aU.of_own s 0 rfl) 0 (aP _)) h bz rfl rfl ?_;intro f h
     refine az h rfl rfl rfl ?_
     refine ac h (ai aR (h.ev rfl)) rfl ?_;intro f h
     refine az h rfl rfl rfl ?_
     refine ac h (ai aJ (h.ev rfl)) rfl ?_;intro f h
     refine az h rfl rfl rfl ?_
     refine au (am (aU.of_own s 4 rfl) 0 (bO _ _ _ _)) h bz rfl rfl ?_;intro f h
     refine az h rfl rfl rfl ?_
     refine ac h (av (.bool true) (c3 (h.ev rfl) (h.ev rfl)) (congrArg Value.bool q1)) rfl ?_;intro f h
     refine ac h (aI (h.ev rfl) (h.ev rfl)) rfl ?_;intro f h
     refine ac h (ag (h.ev rfl)) rfl ?_;intro f h
     refine az h rfl rfl rfl ?_
     refine ac h (ai bW (h.ev rfl)) rfl ?_;intro f h
     refine az h rfl rfl rfl ?_
     refine aB (aU.subL (aU.of_own s 0 rfl) 1 32 (D:=bA (_)) (cj _)) h bP rfl (by first|exact aK _|exact aF _ _) rfl ?_;intro f h
     refine az h rfl rfl rfl ?_
     refine ac h (ai aR (h.ev rfl)) rfl ?_;intro f h
     refine az h rfl rfl rfl ?_
     refine ac h (ai bW (h.ev rfl)) rfl ?_;intro f h
     refine az h rfl rfl rfl ?_
     refine aB (aU.subL (aU.of_own s 4 rfl) 1 32 (D:=bA n.me.2) (da _ _ _ _)) h bP rfl (by first|exact aK _|exact aF _ _) rfl ?_;intro f h
     refine az h rfl rfl rfl ?_
     refine ac h (ai aR (h.ev rfl)) rfl ?_;intro f h
     refine az h rfl rfl rfl ?_
     refine ac h (ai bW (h.ev rfl)) rfl ?_;intro f h
     refine az h rfl rfl rfl ?_
     refine aB (aU.subL (aU.of_own s 3 rfl) 1 32 (D:=bA z.me.2) (da _ _ _ _)) h bP rfl (by first|exact aK _|exact aF _ _) rfl ?_;intro f h
     refine az h rfl rfl rfl ?_
     refine aH h s Ay (aO (.bool false) (lH z.pr n.me.2 z.me.2 _) (congrArg Value.bool q2)) rfl rfl ?_;intro f w1 v9 hT hE h s;obtain rfl:=hT
     refine ac h (aI (h.ev rfl) (h.ev rfl)) rfl ?_;intro f h
     refine ah ?_
     refine bQ ?_
     exact ⟨h.only ⟨rfl,rfl,rfl,rfl,rfl,rfl,rfl,rfl,congrArg (fun b=>some (Value.bool b)) (C0 q2).symm,trivial⟩,St.as s ⟨rfl,rfl,rfl,rfl,rfl,trivial⟩⟩
    ·skip
     refine ae ?_
     refine ar 0 h s aL rfl rfl (ak _) rfl ?_;intro f h
     refine aH h s fv (aO (.bool false) (cY z.pr _) (congrArg Value.bool q0)) rfl rfl ?_;intro f w1 v9 hT hE h s;obtain rfl:=hT
     refine ac h (av (.bool true) (bh (h.ev rfl)) rfl) rfl ?_;intro f h
     refine ac h (ag (h.ev rfl)) rfl ?_;intro f h
     refine az h rfl rfl rfl ?_
     refine ac h (ai aJ (h.ev rfl)) rfl ?_;intro f h
     refine az h rfl rfl rfl ?_
     refine au (am (aU.of_own s 0 rfl) 0 (aP _)) h bz rfl rfl ?_;intro f h
     refine az h rfl rfl rfl ?_
     refine ac h (ai aR (h.ev rfl)) rfl ?_;intro f h
     refine az h rfl rfl rfl ?_
     refine ac h (ai aJ (h.ev rfl)) rfl ?_;intro f h
     refine az h rfl rfl rfl ?_
     refine au (am (aU.of_own s 4 rfl) 0 (bO _ _ _ _)) h bz rfl rfl ?_;intro f h
     refine az h rfl rfl rfl ?_
     refine ac h (av (.bool true) (c3 (h.ev rfl) (h.ev rfl)) (congrArg Value.bool q1)) rfl ?_;intro f h
     refine ac h (aI (h.ev rfl) (h.ev rfl)) rfl ?_;intro f h
     refine ac h (ag (h.ev rfl)) rfl ?_;intro f h
     refine az h rfl rfl rfl ?_
     refine ac h (ai bW (h.ev rfl)) rfl ?_;intro f h
     refine az h rfl rfl rfl ?_
     refine aB (aU.subL (aU.of_own s 0 rfl) 1 32 (D:=bA (_)) (cj _)) h bP rfl (by first|exact aK _|exact aF _ _) rfl ?_;intro f h
     refine az h rfl rfl rfl ?_
     refine ac h (ai aR (h.ev rfl)) rfl ?_;intro f h
     refine az h rfl rfl rfl ?_
     refine ac h (ai bW (h.ev rfl)) rfl ?_;intro f h
     refine az h rfl rfl rfl ?_
     refine aB (aU.subL (aU.of_own s 4 rfl) 1 32 (D:=bA n.me.2) (da _ _ _ _)) h bP rfl (by first|exact aK _|exact aF _ _) rfl ?_;intro f h
     refine az h rfl rfl rfl ?_
     refine ac h (ai aR (h.ev rfl)) rfl ?_;intro f h
     refine az h rfl rfl rfl ?_
     refine ac h (ai bW (h.ev rfl)) rfl ?_;intro f h
     refine az h rfl rfl rfl ?_
     refine aB (aU.subL (aU.of_own s 3 rfl) 1 32 (D:=bA z.me.2) (da _ _ _ _)) h bP rfl (by first|exact aK _|exact aF _ _) rfl ?_;intro f h
     refine az h rfl rfl rfl ?_
     refine aH h s Ay (aO (.bool true) (lH z.pr n.me.2 z.me.2 _) (congrArg Value.bool q2)) rfl rfl ?_;intro f w1 v9 hT hE h s;obtain rfl:=hT
     refine ac h (aI (h.ev rfl) (h.ev rfl)) rfl ?_;intro f h
     refine ah ?_
     refine bQ ?_
     exact ⟨h.only ⟨rfl,rfl,rfl,rfl,rfl,rfl,rfl,rfl,congrArg (fun b=>some (Value.bool b)) (EJ q0 q1 q2).symm,trivial⟩,St.as s ⟨rfl,rfl,rfl,rfl,rfl,trivial⟩⟩
  ·skip
   refine ae ?_
   refine ar 0 h s aL rfl rfl (ak _) rfl ?_;intro f h
   refine aH h s fv (aO (.bool true) (cY z.pr _) (congrArg Value.bool q0)) rfl rfl ?_;intro f w1 v9 hT hE h s;obtain rfl:=hT
   refine ac h (av (.bool false) (bh (h.ev rfl)) rfl) rfl ?_;intro f h
   refine ac h (ag (h.ev rfl)) rfl ?_;intro f h
   refine aA (b:=true) h rfl rfl rfl rfl ?_;intro f h
   refine aA (b:=true) h rfl rfl rfl rfl ?_;intro f h
   refine aA (b:=true) h rfl rfl rfl rfl ?_;intro f h
   refine aA (b:=true) h rfl rfl rfl rfl ?_;intro f h
   refine aA (b:=true) h rfl rfl rfl rfl ?_;intro f h
   refine aA (b:=true) h rfl rfl rfl rfl ?_;intro f h
   refine ac h (aG (h.ev rfl) (h.ev rfl)) rfl ?_;intro f h
   refine ac h (ag (h.ev rfl)) rfl ?_;intro f h
   refine aA (b:=true) h rfl rfl rfl rfl ?_;intro f h
   refine aA (b:=true) h rfl rfl rfl rfl ?_;intro f h
   refine aA (b:=true) h rfl rfl rfl rfl ?_;intro f h
   refine aA (b:=true) h rfl rfl rfl rfl ?_;intro f h
   refine aA (b:=true) h rfl rfl rfl rfl ?_;intro f h
   refine aA (b:=true) h rfl rfl rfl rfl ?_;intro f h
   refine aA (b:=true) h rfl rfl rfl rfl ?_;intro f h
   refine aA (b:=true) h rfl rfl rfl rfl ?_;intro f h
   refine aA (b:=true) h rfl rfl rfl rfl ?_;intro f h
   refine ac h (aG (h.ev rfl) (h.ev rfl)) rfl ?_;intro f h
   refine ah ?_
   refine bQ ?_
   exact ⟨h.only ⟨rfl,rfl,rfl,rfl,rfl,rfl,rfl,rfl,congrArg (fun b=>some (Value.bool b)) (Dj q0).symm,trivial⟩,St.as s ⟨rfl,rfl,rfl,rfl,rfl,trivial⟩⟩
 rintro f w1 ⟨h,s⟩
 refine hK5 _ _ ?_
 refine wu (fun aa ww=>∃ vj:Value,Sl 88 aa [(0,.agg (aC n.me n.pr vs vf)),(1,.agg (aC z.me z.pr ws wf)),(2,.pointer (some ⟨b2,0,none⟩)),(3,.pointer (some ⟨b3,0,none⟩)),(4,.pointer (some ⟨b4,0,none⟩)),(6,.pointer (some ⟨b6,0,none⟩)),(5,vj)]∧St w [.blk b6 (.cells ((aw z.pr)) 28),.sl vj 28 33 (lO n z).length (ap (lO n z)),.blk b4 (.cells (aC aT aT a8 a8) 42),.blk b3 (.cells (aC z.me z.pr ws wf) 42),.blk b2 (.cells (aC n.me n.pr vs vf) 42)] ww) ?_ ?_
 ·skip
  refine bM h rfl (fun hc=>?_) (fun hc=>?_)
  ·refine ae ?_
   have hpl:=tk n z
   refine ac h (ag (h.ev rfl)) rfl ?_;intro f h
   refine ar 0 h s aL rfl rfl (ak _) rfl ?_;intro f h
   refine cg (vs:=[.agg (aw z.pr)]) [.tmp 36] h s Tryz.underlying36 cP rfl rfl (eS _) rfl rfl rfl ?_;intro f w1 v37 h s
   refine cZ 2 0 h s Tryz.underlying36 cP rfl rfl rfl rfl (by decide) (by rw [c0];exact aS _) (by show 0+1≤maxLen;unfold maxLen;omega) (by show (0+1)*_≤_;omega) rfl ?_;intro f w1 v38 h s
   replace s:=s.pick _ (List.sublist_cons_self _ _)
   replace s:=s.resl (m:=[z.pr].length) (ys:=ap [z.pr]) 1 rfl rfl (by rw [c0,cM];rfl)
   refine ac h (aj (h.ev rfl)) rfl ?_;intro f h
   refine ah ?_
   refine bQ ?_
   exact ⟨v38,h.only ⟨rfl,rfl,rfl,rfl,rfl,rfl,rfl,trivial⟩,St.as s ⟨rfl,fH (by rw [wV hc]) (by rw [wV hc]),rfl,rfl,rfl,trivial⟩⟩
  ·refine wpIn_skip ?_
   refine bQ ?_
   exact ⟨v10,h.only ⟨rfl,rfl,rfl,rfl,rfl,rfl,rfl,trivial⟩,St.as s ⟨rfl,fH (by rw [xA hc]) (by rw [xA hc]),rfl,rfl,rfl,trivial⟩⟩
 rintro f w1 ⟨vj,h,s⟩
 refine hK4 _ _ ?_
 refine al fun K8 hK8=>?_
 refine ae ?_
 have hpl:=tk n z
 refine ac h (ag (h.ev rfl)) rfl ?_;intro f h
 refine ac h (ai aR (h.ev rfl)) rfl ?_;intro f h
 refine aB (aU.subL (aU.of_own s 3 rfl) 0 33 (D:=aw z.me) (bT _ _ _ _)) h aL rfl (ak _) rfl ?_;intro f h
 refine cg (vs:=[.agg (aw z.me)]) [.tmp 41] h s Tryz.underlying36 cP rfl rfl (eS _) rfl rfl rfl ?_;intro f w1 v42 h s
 refine cZ 2 0 h s Tryz.underlying36 cP rfl rfl rfl rfl (by decide) (by rw [c0];exact aS _) (by unfold maxLen;omega) (by omega) rfl ?_;intro f w1 v43 h s
 replace s:=s.pick _ (List.sublist_cons_self _ _)
 replace s:=s.resl (m:=((lO n z)++[z.me]).length) (ys:=ap ((lO n z)++[z.me])) 1 rfl (by rw [List.length_append];rfl) (by rw [c0,gJ])
 refine ac h (aj (h.ev rfl)) rfl ?_;intro f h
 refine ah ?_
 refine hK8 _ _ ?_
 refine al fun K9 hK9=>?_
 refine ae ?_
 refine ac h (ag (h.ev rfl)) rfl ?_;intro f h
 refine ac h (ai bD (h.ev rfl)) rfl ?_;intro f h
 refine au (V:=ws) (am (aU.of_own s 3 rfl) 66 (bL _ _ _ _)) h bE rfl rfl ?_;intro f h
 refine eQ 1 (hZs.keep s.ext) h s Tryz.underlying36 cP rfl rfl rfl (eG _) (by rw [List.length_append];show _+1+_≤_;unfold maxLen;omega) (by rw [List.length_append];show (_+1+_)*_≤_;omega) rfl ?_;intro f w1 v47 h s
 replace s:=s.resl (m:=(c7 n z).length) (ys:=ap (c7 n z)) 1 rfl (by rw [qz];exact List.length_append.symm) (by rw [qz];exact(dz _ _).symm)
 have hrl:=vU n z
 refine ac h (aj (h.ev rfl)) rfl ?_;intro f h
 refine ah ?_
 refine hK9 _ _ ?_
 refine al fun K10 hK10=>?_
 refine ae ?_
 refine cg (vs:=[]) [] h s Tryz.underlying36 cP rfl rfl (by simp) rfl rfl rfl ?_;intro f w1 v48 h s
 refine ac h (aj (h.ev rfl)) rfl ?_;intro f h
 refine ah ?_
 refine hK10 _ _ ?_
 refine al fun K11 hK11=>?_
 refine al fun K12 hK12=>?_
 refine ae ?_
 refine ac h (ag (h.ev rfl)) rfl ?_;intro f h
 refine cK 2 h s Tryz.underlying36 rfl rfl rfl ?_;intro f h
 refine ac h (ag (h.ev rfl)) rfl ?_;intro f h
 refine ah ?_
 refine hK12 _ _ ?_
 refine wpIn_block ?_
 refine wpIn_loop_ghost (fun nn aa ww=>∃ k:Nat,∃ vb:Value,Sl 88 aa [(0,.agg (aC n.me n.pr vs vf)),(1,.agg (aC z.me z.pr ws wf)),(2,.pointer (some ⟨b2,0,none⟩)),(3,.pointer (some ⟨b3,0,none⟩)),(4,.pointer (some ⟨b4,0,none⟩)),(5,v47),(6,.pointer (some ⟨b6,0,none⟩)),(39,vj),(42,v42),(43,v43),(44,v43),(47,v47),(7,vb),(49,v47),(50,.int .i64 ((c7 n z).length:Int)),(51,.int .i64 (k:Int))]∧St w [.sl vb 28 33 (dw ((cD n.me.1 (c7 n z)).take k)).length (ap (dw ((cD n.me.1 (c7 n z)).take k))),.blk b6 (.cells ((aw z.pr)) 28),.sl v47 28 33 (c7 n z).length (ap (c7 n z)),.blk b4 (.cells (aC aT aT a8 a8) 42),.blk b3 (.cells (aC z.me z.pr ws wf) 42),.blk b2 (.cells (aC n.me n.pr vs vf) 42)] ww∧nn=(c7 n z).length - k∧k≤(cD n.me.1 (c7 n z)).length) ((c7 n z).length - (0)) ⟨0,v48,h.only ⟨rfl,rfl,rfl,rfl,rfl,rfl,rfl,rfl,rfl,rfl,rfl,rfl,rfl,rfl,rfl,aQ rfl (by omega),trivial⟩,s.as ⟨rfl,rfl,rfl,rfl,rfl,rfl,trivial⟩,rfl,Nat.zero_le _⟩ ?_
 rintro _ f w1 ⟨k,vb,h,s,hnn,hp0⟩
 have hrl9:=tg n.me.1 (c7 n z)
 have hf4:=oe ((cD n.me.1 (c7 n z)).take k)
 refine al fun K13 hK13=>?_
 refine ae ?_
 refine ac h (bN (h.ev rfl) (h.ev rfl)) rfl ?_;intro f h
 refine ah ?_
 refine hK13 _ _ ?_
 refine al fun K14 hK14=>?_
 refine bM h rfl (fun hc=>?_) (fun hc=>?_)
 ·replace hc:=of_decide_eq_true hc
  refine wpIn_skip ?_
  refine hK14 _ _ ?_
  refine al fun K15 hK15=>?_
  refine wpIn_block ?_
  refine al fun K16 hK16=>?_
  refine ae ?_
  have hkl:k<(c7 n z).length:=by omega
  refine ac h (bZ (bq.of_own (s.getSl 2 rfl)) (k) Tryz.underlying36 cz (h.ev rfl) (h.ev rfl) (by omega) (by omega)) rfl ?_;intro f h
  refine aB ((bq.of_own (s.getSl 2 rfl)).el (k) (by omega) (by decide) (D:=aw ((c7 n z).getD k aT)) (cL (c7 n z) k hkl)) h aL rfl (ak _) rfl ?_;intro f h
  refine bj (aw aT) h s cB rfl rfl ?_;intro f w1 b9 h s
  refine ax 0 h s aL rfl rfl rfl (ak _) (ak _) (aS _) ?_;intro w1 s
  refine ah ?_
  refine hK16 _ _ ?_
  refine al fun K17 hK17=>?_
  refine al fun K18 hK18=>?_
  cases s9:(decide (((c7 n z).getD k aT).1=n.me.1):Bool)
  ·skip
   refine ae ?_
   refine ac h (ai aJ (h.ev rfl)) rfl ?_;intro f h
   refine au (am (aU.of_own s 0 rfl) 0 (aP _)) h bz rfl rfl ?_;intro f h
   refine ac h (ai aR (h.ev rfl)) rfl ?_;intro f h
   refine ac h (ai aJ (h.ev rfl)) rfl ?_;intro f h
   refine au (am (aU.of_own s 6 rfl) 0 (bO _ _ _ _)) h bz rfl rfl ?_;intro f h
   refine ac h (av (.bool false) (bX (h.ev rfl) (h.ev rfl)) (congrArg Value.bool s9)) rfl ?_;intro f h
   refine ah ?_
   refine hK18 _ _ ?_
   refine wpIn_cond_false (h.ev rfl) ?_
   refine wpIn_skip ?_
   refine hK17 _ _ ?_
   refine al fun K19 hK19=>?_
   cases g1:(ia (dw ((cD n.me.1 (c7 n z)).take k)) ((c7 n z).getD k aT).1:Bool)
   ·skip
    cases g0:(decide ((dw ((cD n.me.1 (c7 n z)).take k)).length<4):Bool)
    ·skip
     refine ae ?_
     have hdm:=jR hp0 hkl s9
     have hnx:(dw ((cD n.me.1 (c7 n z)).take (k+1)))=dF (dw ((cD n.me.1 (c7 n z)).take k)) ((c7 n z).getD k aT):=by rw [fN hdm,fX hdm]
     refine ac h (ag (h.ev rfl)) rfl ?_;intro f h
     refine ac h (ai aJ (h.ev rfl)) rfl ?_;intro f h
     refine au (am (aU.of_own s 0 rfl) 0 (aP _)) h bz rfl rfl ?_;intro f h
     refine aH h s mS (ff (dw ((cD n.me.1 (c7 n z)).take k)) vb ((c7 n z).getD k aT).1 _ (bq.of_own (s.getSl 1 rfl)) (by omega)) rfl rfl ?_;intro f w1 v9 hT hE h s;obtain rfl:=hT
     refine ac h (gt kg bz (h.ev rfl) (aP _)) rfl ?_;intro f h
     refine ac h (av (.bool true) (bN (h.ev rfl) (h.ev rfl)) (congrArg Value.bool ((oU (fun x hx=>o8 hz hx)).trans (by rw [g1];rfl)))) rfl ?_;intro f h
     refine ac h (ag (h.ev rfl)) rfl ?_;intro f h
     refine az h rfl rfl rfl ?_
     refine ac h (ag (h.ev rfl)) rfl ?_;intro f h
     refine az h rfl rfl rfl ?_
     refine cK 1 h s Tryz.underlying36 rfl rfl rfl ?_;intro f h
     refine az h rfl rfl rfl ?_
     refine ac h (av (.bool false) (bN (h.ev rfl) (h.ev rfl)) (congrArg Value.bool (decide_eq_false (by have:=of_decide_eq_false g0;omega)))) rfl ?_;intro f h
     refine ac h (aI (h.ev rfl) (h.ev rfl)) rfl ?_;intro f h
     refine ah ?_
     refine hK19 _ _ ?_
     refine wpIn_cond_false (h.ev rfl) ?_
     refine wpIn_skip ?_
     refine bF ?_
     refine hK15 _ _ ?_
     refine ae ?_
     refine ac h (cf (h.ev rfl) (h.ev rfl) (by omega)) rfl ?_;intro f h
     refine ac h (ag (h.ev rfl)) rfl ?_;intro f h
     refine ah ?_
     refine bQ ?_
     have hsame:(dw ((cD n.me.1 (c7 n z)).take (k+1)))=(dw ((cD n.me.1 (c7 n z)).take k)):=by rw [hnx,kB (of_decide_eq_false g0)]
     exact ⟨_,by omega,⟨k+1,vb,h.only ⟨rfl,rfl,rfl,rfl,rfl,rfl,rfl,rfl,rfl,rfl,rfl,rfl,rfl,rfl,rfl,aQ rfl (by omega),trivial⟩,St.as (s.pick _ (List.sublist_append_right [_] _)) ⟨fH (by rw [hsame]) (by rw [hsame]),rfl,rfl,rfl,rfl,rfl,trivial⟩,rfl,hdm⟩⟩
    ·skip
     refine ae ?_
     have hdm:=jR hp0 hkl s9
     have hnx:(dw ((cD n.me.1 (c7 n z)).take (k+1)))=dF (dw ((cD n.me.1 (c7 n z)).take k)) ((c7 n z).getD k aT):=by rw [fN hdm,fX hdm]
     refine ac h (ag (h.ev rfl)) rfl ?_;intro f h
     refine ac h (ai aJ (h.ev rfl)) rfl ?_;intro f h
     refine au (am (aU.of_own s 0 rfl) 0 (aP _)) h bz rfl rfl ?_;intro f h
     refine aH h s mS (ff (dw ((cD n.me.1 (c7 n z)).take k)) vb ((c7 n z).getD k aT).1 _ (bq.of_own (s.getSl 1 rfl)) (by omega)) rfl rfl ?_;intro f w1 v9 hT hE h s;obtain rfl:=hT
     refine ac h (gt kg bz (h.ev rfl) (aP _)) rfl ?_;intro f h
     refine ac h (av (.bool true) (bN (h.ev rfl) (h.ev rfl)) (congrArg Value.bool ((oU (fun x hx=>o8 hz hx)).trans (by rw [g1];rfl)))) rfl ?_;intro f h
     refine ac h (ag (h.ev rfl)) rfl ?_;intro f h
     refine az h rfl rfl rfl ?_
     refine ac h (ag (h.ev rfl)) rfl ?_;intro f h
     refine az h rfl rfl rfl ?_
     refine cK 1 h s Tryz.underlying36 rfl rfl rfl ?_;intro f h
     refine az h rfl rfl rfl ?_
     refine ac h (av (.bool true) (bN (h.ev rfl) (h.ev rfl)) (congrArg Value.bool (decide_eq_true (by have:=of_decide_eq_true g0;omega)))) rfl ?_;intro f h
     refine ac h (aI (h.ev rfl) (h.ev rfl)) rfl ?_;intro f h
     refine ah ?_
     refine hK19 _ _ ?_
     refine wpIn_cond_true (h.ev rfl) ?_
     refine ae ?_
     refine ac h (ag (h.ev rfl)) rfl ?_;intro f h
     refine ar 0 h s aL rfl rfl (ak _) rfl ?_;intro f h
     refine cg (vs:=[.agg (aw ((c7 n z).getD k aT))]) [.tmp 73] h s Tryz.underlying36 cP rfl rfl (eS _) rfl rfl rfl ?_;intro f w1 v74 h s
     refine cZ 2 0 h s Tryz.underlying36 cP rfl rfl rfl rfl (by decide) (by rw [c0];exact aS _) (by unfold maxLen;omega) (by omega) rfl ?_;intro f w1 v75 h s
     replace s:=s.pick _ (List.sublist_cons_self _ _)
     replace s:=s.resl (m:=(dw ((cD n.me.1 (c7 n z)).take (k+1))).length) (ys:=ap (dw ((cD n.me.1 (c7 n z)).take (k+1)))) 1 rfl (by rw [hnx,qH (of_decide_eq_true g0) g1,List.length_append];rfl) (by rw [hnx,qH (of_decide_eq_true g0) g1,c0,gJ])
     refine ac h (aj (h.ev rfl)) rfl ?_;intro f h
     refine ah ?_
     refine bF ?_
     refine hK15 _ _ ?_
     refine ae ?_
     refine ac h (cf (h.ev rfl) (h.ev rfl) (by omega)) rfl ?_;intro f h
     refine ac h (ag (h.ev rfl)) rfl ?_;intro f h
     refine ah ?_
     refine bQ ?_
     exact ⟨_,by omega,⟨k+1,v75,h.only ⟨rfl,rfl,rfl,rfl,rfl,rfl,rfl,rfl,rfl,rfl,rfl,rfl,rfl,rfl,rfl,aQ rfl (by omega),trivial⟩,St.as (s.pick _ (List.sublist_append_right [_] _)) ⟨rfl,rfl,rfl,rfl,rfl,rfl,trivial⟩,rfl,hdm⟩⟩
   ·skip
    refine ae ?_
    have hdm:=jR hp0 hkl s9
    have hnx:(dw ((cD n.me.1 (c7 n z)).take (k+1)))=dF (dw ((cD n.me.1 (c7 n z)).take k)) ((c7 n z).getD k aT):=by rw [fN hdm,fX hdm]
    refine ac h (ag (h.ev rfl)) rfl ?_;intro f h
    refine ac h (ai aJ (h.ev rfl)) rfl ?_;intro f h
    refine au (am (aU.of_own s 0 rfl) 0 (aP _)) h bz rfl rfl ?_;intro f h
    refine aH h s mS (ff (dw ((cD n.me.1 (c7 n z)).take k)) vb ((c7 n z).getD k aT).1 _ (bq.of_own (s.getSl 1 rfl)) (by omega)) rfl rfl ?_;intro f w1 v9 hT hE h s;obtain rfl:=hT
    refine ac h (gt kg bz (h.ev rfl) (aP _)) rfl ?_;intro f h
    refine ac h (av (.bool false) (bN (h.ev rfl) (h.ev rfl)) (congrArg Value.bool ((oU (fun x hx=>o8 hz hx)).trans (by rw [g1];rfl)))) rfl ?_;intro f h
    refine ac h (ag (h.ev rfl)) rfl ?_;intro f h
    refine aA (b:=true) h rfl rfl rfl rfl ?_;intro f h
    refine aA (b:=true) h rfl rfl rfl rfl ?_;intro f h
    refine aA (b:=true) h rfl rfl rfl rfl ?_;intro f h
    refine ac h (aG (h.ev rfl) (h.ev rfl)) rfl ?_;intro f h
    refine ah ?_
    refine hK19 _ _ ?_
    refine wpIn_cond_false (h.ev rfl) ?_
    refine wpIn_skip ?_
    refine bF ?_
    refine hK15 _ _ ?_
    refine ae ?_
    refine ac h (cf (h.ev rfl) (h.ev rfl) (by omega)) rfl ?_;intro f h
    refine ac h (ag (h.ev rfl)) rfl ?_;intro f h
    refine ah ?_
    refine bQ ?_
    have hsame:(dw ((cD n.me.1 (c7 n z)).take (k+1)))=(dw ((cD n.me.1 (c7 n z)).take k)):=by rw [hnx,kG g1]
    exact ⟨_,by omega,⟨k+1,vb,h.only ⟨rfl,rfl,rfl,rfl,rfl,rfl,rfl,rfl,rfl,rfl,rfl,rfl,rfl,rfl,rfl,aQ rfl (by omega),trivial⟩,St.as (s.pick _ (List.sublist_append_right [_] _)) ⟨fH (by rw [hsame]) (by rw [hsame]),rfl,rfl,rfl,rfl,rfl,trivial⟩,rfl,hdm⟩⟩
  ·skip
   refine ae ?_
   refine ac h (ai aJ (h.ev rfl)) rfl ?_;intro f h
   refine au (am (aU.of_own s 0 rfl) 0 (aP _)) h bz rfl rfl ?_;intro f h
   refine ac h (ai aR (h.ev rfl)) rfl ?_;intro f h
   refine ac h (ai aJ (h.ev rfl)) rfl ?_;intro f h
   refine au (am (aU.of_own s 6 rfl) 0 (bO _ _ _ _)) h bz rfl rfl ?_;intro f h
   refine ac h (av (.bool true) (bX (h.ev rfl) (h.ev rfl)) (congrArg Value.bool s9)) rfl ?_;intro f h
   refine ah ?_
   refine hK18 _ _ ?_
   refine wpIn_cond_true (h.ev rfl) ?_
   refine wpIn_exit ?_
   refine bJ ?_
   refine pu rfl ?_
   refine bJ ?_
   refine bJ ?_
   refine cC ?_
   refine hK11 _ _ ?_
   refine al fun K20 hK20=>?_
   refine al fun K21 hK21=>?_
   refine ae ?_
   have hke:k=(cD n.me.1 (c7 n z)).length:=by first|omega|exact Nat.le_antisymm hp0 (kL (of_decide_eq_true s9) hkl)
   rw [hke,List.take_length] at s
   refine ac h (ag (h.ev rfl)) rfl ?_;intro f h
   refine cK 1 h s Tryz.underlying36 rfl rfl rfl ?_;intro f h
   refine ac h (bX (h.ev rfl) (h.ev rfl)) rfl ?_;intro f h
   refine ah ?_
   refine hK21 _ _ ?_
   refine bM h rfl (fun hc=>?_) (fun hc=>?_)
   ·have h0:(dw (cD n.me.1 (c7 n z))).length=0:=by have:=of_decide_eq_true hc;omega
    refine ae ?_
    refine ac h (ag (h.ev rfl)) rfl ?_;intro f h
    refine ac h (ai aR (h.ev rfl)) rfl ?_;intro f h
    refine aB (aU.subL (aU.of_own s 6 rfl) 0 33 (D:=aw n.me) (bT _ _ _ _)) h aL rfl (ak _) rfl ?_;intro f h
    refine cg (vs:=[.agg (aw n.me)]) [.tmp 82] h s Tryz.underlying36 cP rfl rfl (eS _) rfl rfl rfl ?_;intro f w1 v83 h s
    refine cZ 2 0 h s Tryz.underlying36 cP rfl rfl rfl rfl (by decide) (by rw [c0];exact aS _) (by unfold maxLen;omega) (by omega) rfl ?_;intro f w1 v84 h s
    replace s:=s.pick _ (List.sublist_cons_self _ _)
    replace s:=s.resl (m:=[n.me].length) (ys:=ap [n.me]) 1 rfl (by rw [h0];rfl) (by rw [List.eq_nil_of_length_eq_zero h0,c0,cM];rfl)
    refine ac h (aj (h.ev rfl)) rfl ?_;intro f h
    refine ah ?_
    refine hK20 _ _ ?_
    refine al fun K22 hK22=>?_
    refine ae ?_
    refine ac h (ag (h.ev rfl)) rfl ?_;intro f h
    refine ac h (ai bD (h.ev rfl)) rfl ?_;intro f h
    refine bg 6 h s bE rfl rfl rfl (by rw [aq];omega) (aX (s.getSl 1 rfl)) ?_;intro w1 s
    replace s:=s.recell (D:=aC n.me n.pr v84 vf) 6 rfl (ek _ _ _ _ _)
    refine ah ?_
    refine hK22 _ _ ?_
    refine al fun K23 hK23=>?_
    refine ae ?_
    refine ar 6 h s aZ rfl rfl (aq _ _ _ _) rfl ?_;intro f h
    refine ax 4 h s aZ rfl rfl rfl (aq _ _ _ _) (aq _ _ _ _) (a7 (aX (s.getSl 1 rfl)) (co (hRf.keep s.ext))) ?_;intro w1 s
    refine ah ?_
    refine hK23 _ _ ?_
    refine wpIn_ret ?_
    exact c8 4 rfl h s aZ rfl rfl (aq _ _ _ _) (lW (by rw [kf,km h0]) (s.getSl 1 rfl))
   ·have h0:¬ (dw (cD n.me.1 (c7 n z))).length=0:=by have:=of_decide_eq_false hc;omega
    refine wpIn_skip ?_
    refine hK20 _ _ ?_
    refine al fun K24 hK24=>?_
    refine ae ?_
    refine ac h (ag (h.ev rfl)) rfl ?_;intro f h
    refine ac h (ai bD (h.ev rfl)) rfl ?_;intro f h
    refine bg 6 h s bE rfl rfl rfl (by rw [aq];omega) (aX (s.getSl 1 rfl)) ?_;intro w1 s
    replace s:=s.recell (D:=aC n.me n.pr vb vf) 6 rfl (ek _ _ _ _ _)
    refine ah ?_
    refine hK24 _ _ ?_
    refine al fun K25 hK25=>?_
    refine ae ?_
    refine ar 6 h s aZ rfl rfl (aq _ _ _ _) rfl ?_;intro f h
    refine ax 4 h s aZ rfl rfl rfl (aq _ _ _ _) (aq _ _ _ _) (a7 (aX (s.getSl 1 rfl)) (co (hRf.keep s.ext))) ?_;intro w1 s
    refine ah ?_
    refine hK25 _ _ ?_
    refine wpIn_ret ?_
    exact c8 4 rfl h s aZ rfl rfl (aq _ _ _ _) (lW (by rw [kf,jd h0]) (s.getSl 1 rfl))
 ·replace hc:=of_decide_eq_false hc
  refine wpIn_exit ?_
  refine bJ ?_
  refine bJ ?_
  refine cC ?_
  refine hK11 _ _ ?_
  refine al fun K26 hK26=>?_
  refine al fun K27 hK27=>?_
  refine ae ?_
  have hke:k=(cD n.me.1 (c7 n z)).length:=by first|omega|exact Nat.le_antisymm hp0 (kL (of_decide_eq_true s9) hkl)
  rw [hke,List.take_length] at s
  refine ac h (ag (h.ev rfl)) rfl ?_;intro f h
  refine cK 0 h s Tryz.underlying36 rfl rfl rfl ?_;intro f h
  refine ac h (bX (h.ev rfl) (h.ev rfl)) rfl ?_;intro f h
  refine ah ?_
  refine hK27 _ _ ?_
  refine bM h rfl (fun hc=>?_) (fun hc=>?_)
  ·have h0:(dw (cD n.me.1 (c7 n z))).length=0:=by have:=of_decide_eq_true hc;omega
   refine ae ?_
   refine ac h (ag (h.ev rfl)) rfl ?_;intro f h
   refine ac h (ai aR (h.ev rfl)) rfl ?_;intro f h
   refine aB (aU.subL (aU.of_own s 5 rfl) 0 33 (D:=aw n.me) (bT _ _ _ _)) h aL rfl (ak _) rfl ?_;intro f h
   refine cg (vs:=[.agg (aw n.me)]) [.tmp 82] h s Tryz.underlying36 cP rfl rfl (eS _) rfl rfl rfl ?_;intro f w1 v83 h s
   refine cZ 1 0 h s Tryz.underlying36 cP rfl rfl rfl rfl (by decide) (by rw [c0];exact aS _) (by unfold maxLen;omega) (by omega) rfl ?_;intro f w1 v84 h s
   replace s:=s.pick _ (List.sublist_cons_self _ _)
   replace s:=s.resl (m:=[n.me].length) (ys:=ap [n.me]) 0 rfl (by rw [h0];rfl) (by rw [List.eq_nil_of_length_eq_zero h0,c0,cM];rfl)
   refine ac h (aj (h.ev rfl)) rfl ?_;intro f h
   refine ah ?_
   refine hK26 _ _ ?_
   refine al fun K28 hK28=>?_
   refine ae ?_
   refine ac h (ag (h.ev rfl)) rfl ?_;intro f h
   refine ac h (ai bD (h.ev rfl)) rfl ?_;intro f h
   refine bg 5 h s bE rfl rfl rfl (by rw [aq];omega) (aX (s.getSl 0 rfl)) ?_;intro w1 s
   replace s:=s.recell (D:=aC n.me n.pr v84 vf) 5 rfl (ek _ _ _ _ _)
   refine ah ?_
   refine hK28 _ _ ?_
   refine al fun K29 hK29=>?_
   refine ae ?_
   refine ar 5 h s aZ rfl rfl (aq _ _ _ _) rfl ?_;intro f h
   refine ax 3 h s aZ rfl rfl rfl (aq _ _ _ _) (aq _ _ _ _) (a7 (aX (s.getSl 0 rfl)) (co (hRf.keep s.ext))) ?_;intro w1 s
   refine ah ?_
   refine hK29 _ _ ?_
   refine wpIn_ret ?_
   exact c8 3 rfl h s aZ rfl rfl (aq _ _ _ _) (lW (by rw [kf,km h0]) (s.getSl 0 rfl))
  ·have h0:¬ (dw (cD n.me.1 (c7 n z))).length=0:=by have:=of_decide_eq_false hc;omega
   refine wpIn_skip ?_
   refine hK26 _ _ ?_
   refine al fun K30 hK30=>?_
   refine ae ?_
   refine ac h (ag (h.ev rfl)) rfl ?_;intro f h
   refine ac h (ai bD (h.ev rfl)) rfl ?_;intro f h
   refine bg 5 h s bE rfl rfl rfl (by rw [aq];omega) (aX (s.getSl 0 rfl)) ?_;intro w1 s
   replace s:=s.recell (D:=aC n.me n.pr vb vf) 5 rfl (ek _ _ _ _ _)
   refine ah ?_
   refine hK30 _ _ ?_
   refine al fun K31 hK31=>?_
   refine ae ?_
   refine ar 5 h s aZ rfl rfl (aq _ _ _ _) rfl ?_;intro f h
   refine ax 3 h s aZ rfl rfl rfl (aq _ _ _ _) (aq _ _ _ _) (a7 (aX (s.getSl 0 rfl)) (co (hRf.keep s.ext))) ?_;intro w1 s
   refine ah ?_
   refine hK31 _ _ ?_
   refine wpIn_ret ?_
   exact c8 3 rfl h s aZ rfl rfl (aq _ _ _ _) (lW (by rw [kf,jd h0]) (s.getSl 0 rfl))
set_option maxHeartbeats 4000000 in
theorem qI (L:List N3) (vo:Value) (no:Int) (w:World) (hO:dN w vo L) (hL:L.length≤40) (hb:RwB L) (hrs:RS L) (hlv:ce (aM L) no=true):Calls Tryz.prog 27 [.agg #[vo],.int .i64 no].toArray w (cU w (yi w (cS L) (fE (nds L) no))):=by
 obtain ⟨hgm,hgn⟩:=hrs.get hlv
 have hgr:=hrs.rn _ hgm
 have hgb:=hb.each _ hgm
 have hl16:=hrs.len
 have hkl2:(aE (bC L no).1).length≤700:=by simp only [aE,List.length_append,List.length_cons];omega
 refine bp Tryz.func27 rfl Tryz.ntmps27 rfl [(0,.agg #[vo]),(1,.int .i64 no)] (by simp) fun f h=>?_
 have s:=St.start w
 refine al fun K1 hK1=>?_
 refine ae ?_
 refine bV (#[vo]) h s rfl rfl rfl ?_;intro f w1 b2 h s
 refine bj (#[a8]) h s eY rfl rfl ?_;intro f w1 b4 h s
 refine ah ?_
 refine hK1 _ _ ?_
 refine al fun K2 hK2=>?_
 refine ae ?_
 refine ar 1 h s a6 rfl rfl (rfl) rfl ?_;intro f h
 refine ac h (ag (h.ev rfl)) rfl ?_;intro f h
 refine aH h s tQ (mi L vo no _ (hO.keep s.ext) hL) rfl rfl ?_;intro f w1 v9 hT hE h s;obtain rfl:=hT
 refine bj (aC aT aT a8 a8) h s ea rfl rfl ?_;intro f w1 b5 h s
 refine ax 0 h s aZ rfl rfl rfl (aq _ _ _ _) (aq _ _ _ _) (a7 (co ((dy hO.2 no).1.keep s.ext)) (co ((dy hO.2 no).2.keep s.ext))) ?_;intro w1 s
 refine ah ?_
 refine hK2 _ _ ?_
 refine al fun K3 hK3=>?_
 refine ae ?_
 refine cg (vs:=[]) [] h s Tryz.underlying78 x4 rfl rfl (by simp) rfl rfl rfl ?_;intro f w1 v14 h s
 replace s:=s.resl (m:=(fI (aM L) (bC L no).1 0).length) (ys:=List.map (Value.int .i64) (fI (aM L) (bC L no).1 0)) 0 rfl (rfl) (rfl)
 refine ac h (aj (h.ev rfl)) rfl ?_;intro f h
 refine ah ?_
 refine hK3 _ _ ?_
 refine al fun K4 hK4=>?_
 refine al fun K5 hK5=>?_
 refine ae ?_
 refine ar 1 h s aZ rfl rfl (aq _ _ _ _) rfl ?_;intro f h
 refine aH h s wY (kv (bC L no).1 (bC L no).2.1 (bC L no).2.2 _ ((dy hO.2 no).1.keep s.ext) ((dy hO.2 no).2.keep s.ext) (by omega) (by omega)) rfl rfl ?_;intro f w1 v16 hT hE h sq;replace s:=s.sl_new hE hT
 refine cK 0 h s Tryz.underlying36 rfl rfl rfl ?_;intro f h
 refine ac h (ag (h.ev rfl)) rfl ?_;intro f h
 refine ah ?_
 refine hK5 _ _ ?_
 refine wpIn_block ?_
 refine wpIn_loop_ghost (fun nn aa ww=>∃ k:Nat,∃ vb:Value,Sl 77 aa [(0,.agg #[vo]),(1,.int .i64 no),(2,.pointer (some ⟨b2,0,none⟩)),(4,.pointer (some ⟨b4,0,none⟩)),(5,.pointer (some ⟨b5,0,none⟩)),(6,vb),(16,v16),(17,.int .i64 ((aE (bC L no).1).length:Int)),(18,.int .i64 (k:Int))]∧St w [.sl v16 28 33 (aE (bC L no).1).length (ap (aE (bC L no).1)),.sl vb 3 1 (fI (aM L) (bC L no).1 k).length ((fI (aM L) (bC L no).1 k).map (Value.int .i64)),.blk b5 (.cells (qS (bC L no)) 42),.blk b4 (.cells (#[a8]) 24),.blk b2 (.cells (#[vo]) 24)] ww∧nn=(aE (bC L no).1).length - k∧k≤(aE (bC L no).1).length) ((aE (bC L no).1).length - (0)) ⟨0,v14,h.only ⟨rfl,rfl,rfl,rfl,rfl,rfl,rfl,rfl,aQ rfl (by omega),trivial⟩,s.as ⟨rfl,rfl,rfl,rfl,rfl,trivial⟩,rfl,Nat.zero_le _⟩ ?_
 rintro _ f w1 ⟨k,vb,h,s,hnn,hp0⟩
 refine al fun K6 hK6=>?_
 refine ae ?_
 refine ac h (bN (h.ev rfl) (h.ev rfl)) rfl ?_;intro f h
 refine ah ?_
 refine hK6 _ _ ?_
 refine al fun K7 hK7=>?_
 refine bM h rfl (fun hc=>?_) (fun hc=>?_)
 ·replace hc:=of_decide_eq_true hc
  refine wpIn_skip ?_
  refine hK7 _ _ ?_
  refine al fun K8 hK8=>?_
  refine wpIn_block ?_
  refine al fun K9 hK9=>?_
  refine ae ?_
  have hkl:k<(aE (bC L no).1).length:=by omega
  refine ac h (bZ (bq.of_own (s.getSl 0 rfl)) (k) Tryz.underlying36 cz (h.ev rfl) (h.ev rfl) (by omega) (by omega)) rfl ?_;intro f h
  refine aB ((bq.of_own (s.getSl 0 rfl)).el (k) (by omega) (by decide) (D:=aw ((aE (bC L no).1).getD k aT)) (cL (aE (bC L no).1) k hkl)) h aL rfl (ak _) rfl ?_;intro f h
  refine bj (aw aT) h s cB rfl rfl ?_;intro f w1 b8 h s
  refine ax 0 h s aL rfl rfl rfl (ak _) (ak _) (aS _) ?_;intro w1 s
  refine ah ?_
  refine hK9 _ _ ?_
  refine al fun K10 hK10=>?_
  cases l1:(ce (aM L) ((aE (bC L no).1).getD k aT).1:Bool)
  ·skip
   refine ae ?_
   refine ar 5 h s a6 rfl rfl (rfl) rfl ?_;intro f h
   refine ac h (ai aJ (h.ev rfl)) rfl ?_;intro f h
   refine au (am (aU.of_own s 0 rfl) 0 (aP _)) h bz rfl rfl ?_;intro f h
   refine aH h s i5 (aO (.bool false) (eg L vo ((aE (bC L no).1).getD k aT).1 _ (hO.keep s.ext) hL) (congrArg Value.bool l1)) rfl rfl ?_;intro f w1 v9 hT hE h s;obtain rfl:=hT
   refine ac h (av (.bool true) (bh (h.ev rfl)) rfl) rfl ?_;intro f h
   refine ah ?_
   refine hK10 _ _ ?_
   refine wpIn_cond_true (h.ev rfl) ?_
   refine ae ?_
   refine ac h (ag (h.ev rfl)) rfl ?_;intro f h
   refine ac h (ai aJ (h.ev rfl)) rfl ?_;intro f h
   refine au (am (aU.of_own s 0 rfl) 0 (aP _)) h bz rfl rfl ?_;intro f h
   refine cg (vs:=[.int .i64 ((aE (bC L no).1).getD k aT).1]) [.tmp 29] h s Tryz.underlying78 x4 rfl rfl (by simp [Value.cells]) rfl rfl rfl ?_;intro f w1 v30 h s
   refine cZ 3 0 h s Tryz.underlying78 x4 rfl rfl rfl rfl (by decide) (by simp [Value.oneCell',Value.cells]) (by have h9:=iW (aM L) (bC L no).1 k;unfold maxLen;omega) (by have h9:=iW (aM L) (bC L no).1 k;omega) rfl ?_;intro f w1 v31 h s
   replace s:=s.pick _ (List.sublist_cons_self _ _)
   replace s:=s.resl (m:=(fI (aM L) (bC L no).1 (k+1)).length) (ys:=List.map (Value.int .i64) (fI (aM L) (bC L no).1 (k+1))) 2 rfl (by rw [o6 hkl l1,List.length_append];rfl) (by rw [o6 hkl l1,List.map_append];simp [Value.cells])
   refine ac h (aj (h.ev rfl)) rfl ?_;intro f h
   refine ah ?_
   refine bF ?_
   refine hK8 _ _ ?_
   refine ae ?_
   refine ac h (cf (h.ev rfl) (h.ev rfl) (by omega)) rfl ?_;intro f h
   refine ac h (ag (h.ev rfl)) rfl ?_;intro f h
   refine ah ?_
   refine bQ ?_
   exact ⟨_,by omega,⟨k+1,v31,h.only ⟨rfl,rfl,rfl,rfl,rfl,rfl,rfl,rfl,aQ rfl (by omega),trivial⟩,St.as (s.pick _ (List.sublist_append_right [_] _)) ⟨rfl,rfl,rfl,rfl,rfl,trivial⟩,rfl,by omega⟩⟩
  ·skip
   refine ae ?_
   refine ar 5 h s a6 rfl rfl (rfl) rfl ?_;intro f h
   refine ac h (ai aJ (h.ev rfl)) rfl ?_;intro f h
   refine au (am (aU.of_own s 0 rfl) 0 (aP _)) h bz rfl rfl ?_;intro f h
   refine aH h s i5 (aO (.bool true) (eg L vo ((aE (bC L no).1).getD k aT).1 _ (hO.keep s.ext) hL) (congrArg Value.bool l1)) rfl rfl ?_;intro f w1 v9 hT hE h s;obtain rfl:=hT
   refine ac h (av (.bool false) (bh (h.ev rfl)) rfl) rfl ?_;intro f h
   refine ah ?_
   refine hK10 _ _ ?_
   refine wpIn_cond_false (h.ev rfl) ?_
   refine wpIn_skip ?_
   refine bF ?_
   refine hK8 _ _ ?_
   refine ae ?_
   refine ac h (cf (h.ev rfl) (h.ev rfl) (by omega)) rfl ?_;intro f h
   refine ac h (ag (h.ev rfl)) rfl ?_;intro f h
   refine ah ?_
   refine bQ ?_
   exact ⟨_,by omega,⟨k+1,vb,h.only ⟨rfl,rfl,rfl,rfl,rfl,rfl,rfl,rfl,aQ rfl (by omega),trivial⟩,St.as (s.pick _ (List.sublist_append_right [_] _)) ⟨rfl,fH (by rw [pa hkl l1]) (by rw [pa hkl l1]),rfl,rfl,rfl,trivial⟩,rfl,by omega⟩⟩
 ·replace hc:=of_decide_eq_false hc
  refine wpIn_exit ?_
  refine bJ ?_
  refine bJ ?_
  refine cC ?_
  refine hK4 _ _ ?_
  refine al fun K11 hK11=>?_
  refine ae ?_
  obtain rfl:k=(aE (bC L no).1).length:=by omega
  rw [kr] at s
  have hdw:(dJ (aM L) (bC L no).1).length≤700:=by have h9:=iW (aM L) (bC L no).1 (aE (bC L no).1).length;rw [kr] at h9;omega
  refine ar 2 h s aZ rfl rfl (aq _ _ _ _) rfl ?_;intro f h
  refine ac h (ag (h.ev rfl)) rfl ?_;intro f h
  refine aH h s CJ (uj (bC L no).1 (bC L no).2.1 (bC L no).2.2 (dJ (aM L) (bC L no).1) vb _ ((dy hO.2 no).1.keep s.ext) ((dy hO.2 no).2.keep s.ext) (by omega) (by omega) (bq.of_own (s.getSl 1 rfl)) (by omega)) rfl rfl ?_;rintro f w1 v35 ⟨du,dv,rfl,hS⟩ hE h sq;replace hS:St _ [.sl du 28 33 (rA L no).sc.length (ap (rA L no).sc),.sl dv 28 33 (rA L no).fg.length (ap (rA L no).fg)] _:=hS;replace s:=s.add hS;clear hS
  have hT1:RN (rA L no):=sm (l:=aM L) hgr
  have hT1l:=hT1.len
  have hT1f:=hT1.fg.1
  refine ax 4 h s aZ rfl rfl rfl (aq _ _ _ _) (aq _ _ _ _) (a7 (aX (s.getSl 0 rfl)) (aX (s.getSl 1 rfl))) ?_;intro w1 s
  refine ah ?_
  refine hK11 _ _ ?_
  refine al fun K12 hK12=>?_
  refine ae ?_
  refine ar 6 h s a6 rfl rfl (rfl) rfl ?_;intro f h
  refine ar 4 h s aZ rfl rfl (aq _ _ _ _) rfl ?_;intro f h
  refine aH h s qx (iv L vo ((rA L no),du,dv) _ (hO.keep s.ext) (by omega) ⟨bq.of_own (s.getSl 0 rfl),bq.of_own (s.getSl 1 rfl)⟩) rfl rfl ?_;rintro f w1 v38 ⟨vp,rfl,hOw⟩ hE h sq;replace s:=s.sl_new hE hOw;clear hOw
  obtain ⟨L1,hL1⟩:∃ x9,x9=ec L ((rA L no),du,dv):=⟨_,rfl⟩
  rw [← hL1] at s
  obtain ⟨hrs1,hm1,hi1⟩:=hrs.put (x:=((rA L no),du,dv)) hgm rfl hT1
  rw [← hL1] at hrs1 hm1 hi1
  have hln1:=hrs1.len
  have hf1:ce (aM L1) (rX L no)=true:=by rw [hm1];exact kU hgr (by rw [hgn];exact hlv)
  obtain ⟨hgm1,hgn1⟩:=hrs1.get hf1
  have hsr:RN (rB L L1 no).1:=hrs1.rn _ hgm1
  have hsl:=hsr.len
  have hsf:=hsr.fg.1
  have hp1:1≤(rA L no).sc.length:=pl _ _
  refine ax 7 h s a6 rfl rfl rfl (rfl) (rfl) (cn (aX (s.getSl 0 rfl))) ?_;intro w1 s
  refine ah ?_
  refine hK12 _ _ ?_
  refine al fun K13 hK13=>?_
  have hbs:=s.ext.le
  refine' jh 8 [1] [7] [[],[],[1],[1,2],[1,2,3],[1,2,3,4],[0,1,2,3,4,5],[],[0,1,2,3,4,5,6,7]] (is _::is _::is _::is _::is _::is _::is _::(nH (aC aT aT a8 a8) 42)::is undef::[]) (fun _=>True) h s (by kernel_rfl) (by kernel_rfl) (by kernel_rfl) (by kernel_rfl) rfl (fun _ _ h _=>h) (trivial) ⟨⟨_,rfl⟩,trivial⟩ ⟨bu _,bu _,bu _,bu _,bu _,bu _,bu _,nH.mono _ _,bu _,trivial⟩ (And.intro ?_ (And.intro ?_ (And.intro ?_ (And.intro ?_ (And.intro ?_ (And.intro ?_ (And.intro ?_ (And.intro ?_ (And.intro ?_ (trivial)))))))))) ?_
  rotate_left 7
  ·refine cr 39 rfl (by decide) (by decide) ?_
   intro f9 w2 hE hs hd9 hl
   have e2:f9.tmps.getD 2 undef=_:=di hl 2 (by kernel_rfl) (by kernel_rfl) (h.holds 2 _ rfl)
   have h:=ay [(2,_)] hs hd9 (holds_lk ⟨e2,trivial⟩)
   have s:=s.more hE
   have z:=St.start w2
   refine ar 7 h s a6 rfl rfl (rfl) rfl ?_;intro f h
   refine ah ?_
   have e9:=h.holds 39 _ rfl
   refine ⟨?_,Ext.refl _,fun h9=>absurd h9 (by decide)⟩
   refine e9.trans ?_
   exact rfl
  ·refine dQ 40 rfl (by decide) ?_
   intro f9 w2 hE hs hl
   have e5:f9.tmps.getD 5 undef=_:=di hl 5 (by kernel_rfl) (by kernel_rfl) (h.holds 5 _ rfl)
   have h:=ay [(5,_)] hs rfl (holds_lk ⟨e5,trivial⟩)
   refine ac h (ai bD (h.ev rfl)) rfl ?_;intro f h
   refine ah ?_
   have e9:=h.holds 40 _ rfl
   refine ⟨?_,rfl⟩
   refine e9.trans ?_
   exact rfl
  ·refine cr 41 rfl (by decide) (by decide) ?_
   intro f9 w2 hE hs hd9 hl
   have e40:f9.tmps.getD 40 undef=_:=cc hl 40 1 (by kernel_rfl) (by kernel_rfl)
   have h:=ay [(40,_)] hs hd9 (holds_lk ⟨e40,trivial⟩)
   have s:=s.more hE
   have z:=St.start w2
   refine au (V:=du) (am (aU.of_own s 5 rfl) 66 (bL _ _ _ _)) h bE rfl rfl ?_;intro f h
   refine ah ?_
   have e9:=h.holds 41 _ rfl
   refine ⟨?_,Ext.refl _,fun h9=>absurd h9 (by decide)⟩
   refine e9.trans ?_
   exact rfl
  ·refine cr 42 rfl (by decide) (by decide) ?_
   intro f9 w2 hE hs hd9 hl
   have e41:f9.tmps.getD 41 undef=_:=cc hl 41 2 (by kernel_rfl) (by kernel_rfl)
   have h:=ay [(41,_)] hs hd9 (holds_lk ⟨e41,trivial⟩)
   have s:=s.more hE
   have z:=St.start w2
   refine ac h (bZ (bq.of_own (s.getSl 1 rfl)) (0) Tryz.underlying36 cz (h.ev rfl) (h.ev rfl) (by omega) (by omega)) rfl ?_;intro f h
   refine ah ?_
   have e9:=h.holds 42 _ rfl
   refine ⟨?_,Ext.refl _,fun h9=>absurd h9 (by decide)⟩
   refine e9.trans ?_
   exact rfl
  ·refine cr 43 rfl (by decide) (by decide) ?_
   intro f9 w2 hE hs hd9 hl
   have e42:f9.tmps.getD 42 undef=_:=cc hl 42 3 (by kernel_rfl) (by kernel_rfl)
   have h:=ay [(42,_)] hs hd9 (holds_lk ⟨e42,trivial⟩)
   have s:=s.more hE
   have z:=St.start w2
   refine ac h (bG aJ (h.ev rfl) ((bq.of_own (s.getSl 1 rfl)).some (by omega))) rfl ?_;intro f h
   refine ah ?_
   have e9:=h.holds 43 _ rfl
   refine ⟨?_,Ext.refl _,fun h9=>absurd h9 (by decide)⟩
   refine e9.trans ?_
   exact rfl
  ·refine cr 44 rfl (by decide) (by decide) ?_
   intro f9 w2 hE hs hd9 hl
   have e43:f9.tmps.getD 43 undef=_:=cc hl 43 4 (by kernel_rfl) (by kernel_rfl)
   have h:=ay [(43,_)] hs hd9 (holds_lk ⟨e43,trivial⟩)
   have s:=s.more hE
   have z:=St.start w2
   refine au (V:=.int .i64 (rX L no)) (dt (bq.of_own (s.getSl 1 rfl)) (0*33+0) (ld (rA L no).sc 0 (by omega))) h bz rfl rfl ?_;intro f h
   refine ah ?_
   have e9:=h.holds 44 _ rfl
   refine ⟨?_,Ext.refl _,fun h9=>absurd h9 (by decide)⟩
   refine e9.trans ?_
   exact rfl
  ·refine cr 45 rfl (by decide) (by decide) ?_
   intro f9 w2 hE hs hd9 hl
   have e39:f9.tmps.getD 39 undef=_:=cc hl 39 0 (by kernel_rfl) (by kernel_rfl)
   have e44:f9.tmps.getD 44 undef=_:=cc hl 44 5 (by kernel_rfl) (by kernel_rfl)
   have h:=ay [(39,_),(44,_)] hs hd9 (holds_lk ⟨e39,e44,trivial⟩)
   have s:=s.more hE
   have z:=St.start w2
   refine aH h s tQ (mi L1 vp (rX L no) _ (⟨bq.of_own (s.getSl 0 rfl),(by rw [hL1];exact ck (fun y hy=>(hO.2 y hy).keep s.ext) ⟨bq.of_own (s.getSl 1 rfl),bq.of_own (s.getSl 2 rfl)⟩)⟩:dN _ vp L1) (by omega)) rfl rfl ?_;intro f w1 v9 hT hE h s;obtain rfl:=hT
   refine ah ?_
   have e9:=h.holds 45 _ rfl
   refine ⟨?_,hE,fun h9=>absurd h9 (by decide)⟩
   refine e9.trans ?_
   exact rfl
  ·refine cr 9 rfl (by decide) (by decide) ?_
   intro f9 w2 hE hs hd9 hl
   have h:=ay [] hs hd9 (holds_lk trivial)
   have s:=s.more hE
   have z:=St.start w2
   refine bj (aC aT aT a8 a8) h z ea rfl rfl ?_;intro f w1 b9 h z
   refine ah ?_
   exact xt (h.holds 9 _ rfl) z
  ·exact fG (by decide) (by decide)
  ·intro f9 w2 hE hs hd9 hWp hT hR hFr hDj
   obtain ⟨u9,hu9⟩:∃ v,f9.tmps.getD 9 undef=v:=⟨_,rfl⟩
   have e9:(nH (aC aT aT a8 a8) 42) u9 w2:=by rw [← hu9];exact hT 7 9 (by decide) rfl
   have k9:=hFr 7 9 (by decide) rfl;rw [hu9] at k9
   replace h:=sl_new (ops:=_) [(39,_),(40,_),(41,_),(42,_),(43,_),(44,_),(45,_),(9,u9)] h hs hd9 hR ⟨hT 0 39 (by decide) rfl,hT 1 40 (by decide) rfl,hT 2 41 (by decide) rfl,hT 3 42 (by decide) rfl,hT 4 43 (by decide) rfl,hT 5 44 (by decide) rfl,hT 6 45 (by decide) rfl,hu9,trivial⟩ (by kernel_rfl)
   obtain ⟨b9,hb9,s⟩:=qV s hE e9 k9;subst hb9
   clear hT hR hFr hDj
   refine fZ.of ?_
   refine ax 0 h s aZ rfl rfl rfl (aq _ _ _ _) (aq _ _ _ _) (a7 (co ((dy (⟨bq.of_own (s.getSl 1 rfl),(by rw [hL1];exact ck (fun y hy=>(hO.2 y hy).keep s.ext) ⟨bq.of_own (s.getSl 2 rfl),bq.of_own (s.getSl 3 rfl)⟩)⟩:dN _ vp L1).2 (rX L no)).1)) (co ((dy (⟨bq.of_own (s.getSl 1 rfl),(by rw [hL1];exact ck (fun y hy=>(hO.2 y hy).keep s.ext) ⟨bq.of_own (s.getSl 2 rfl),bq.of_own (s.getSl 3 rfl)⟩)⟩:dN _ vp L1).2 (rX L no)).2))) ?_;intro w1 s
   refine ah ?_
   refine hK13 _ _ ?_
   refine al fun K14 hK14=>?_
   refine al fun K15 hK15=>?_
   cases p0:(ce (aM L1) (rB L L1 no).1.pr.1:Bool)
   ·skip
    refine ae ?_
    refine ar 8 h s a6 rfl rfl (rfl) rfl ?_;intro f h
    refine ac h (ai bR (h.ev rfl)) rfl ?_;intro f h
    refine ac h (ai aJ (h.ev rfl)) rfl ?_;intro f h
    refine au (am (aU.of_own s 0 rfl) 33 (fS _ _ _ _)) h bz rfl rfl ?_;intro f h
    refine aH h s i5 (aO (.bool false) (eg L1 vp (rB L L1 no).1.pr.1 _ (⟨bq.of_own (s.getSl 1 rfl),(by rw [hL1];exact ck (fun y hy=>(hO.2 y hy).keep s.ext) ⟨bq.of_own (s.getSl 2 rfl),bq.of_own (s.getSl 3 rfl)⟩)⟩:dN _ vp L1) (by omega)) (congrArg Value.bool p0)) rfl rfl ?_;intro f w1 v9 hT hE h s;obtain rfl:=hT
    refine ac h (av (.bool true) (bh (h.ev rfl)) rfl) rfl ?_;intro f h
    refine ah ?_
    refine hK15 _ _ ?_
    refine wpIn_cond_true (h.ev rfl) ?_
    refine ae ?_
    refine ac h (dO mO rfl) rfl ?_;intro f h
    refine ac h (ai bR (h.ev rfl)) rfl ?_;intro f h
    refine dM 0 h s aL rfl rfl rfl (ak _) (by rw [aq];omega) (aS _) ?_;intro w1 s
    replace s:=s.recell (D:=aC (rB L L1 no).1.me de (rB L L1 no).2.1 (rB L L1 no).2.2) 0 rfl (fK _ _ _ _ _)
    refine ah ?_
    refine hK14 _ _ ?_
    refine al fun K16 hK16=>?_
    refine ae ?_
    replace s:=s.recell (D:=aC (rC L L1 no).me (rC L L1 no).pr (rB L L1 no).2.1 (rB L L1 no).2.2) 0 rfl (by show _=aC (rB L L1 no).1.me (bif ce (aM L1) (rB L L1 no).1.pr.1 then (rB L L1 no).1.pr else de) _ _;rw [p0];rfl)
    refine ar 6 h s aZ rfl rfl (aq _ _ _ _) rfl ?_;intro f h
    refine ar 0 h s aZ rfl rfl (aq _ _ _ _) rfl ?_;intro f h
    refine aH h s AX (lj (rA L no) du dv (rC L L1 no) (rB L L1 no).2.1 (rB L L1 no).2.2 _ (bq.of_own (s.getSl 2 rfl)) (bq.of_own (s.getSl 3 rfl)) (by omega) (by omega) (dy (⟨bq.of_own (s.getSl 1 rfl),(by rw [hL1];exact ck (fun y hy=>(hO.2 y hy).keep s.ext) ⟨bq.of_own (s.getSl 2 rfl),bq.of_own (s.getSl 3 rfl)⟩)⟩:dN _ vp L1).2 (rX L no)).1 (dy (⟨bq.of_own (s.getSl 1 rfl),(by rw [hL1];exact ck (fun y hy=>(hO.2 y hy).keep s.ext) ⟨bq.of_own (s.getSl 2 rfl),bq.of_own (s.getSl 3 rfl)⟩)⟩:dN _ vp L1).2 (rX L no)).2 (by show (rB L L1 no).1.sc.length≤400;omega) (by show (rB L L1 no).1.fg.length≤400;omega) (kD hsr)) rfl rfl ?_;rintro f w1 v56 ⟨fu,rfl,hOw⟩ hE h sq;replace s:=s.sl_new hE hOw;clear hOw
    refine ax 7 h s aZ rfl rfl rfl (aq _ _ _ _) (aq _ _ _ _) (a7 (aX (s.getSl 0 rfl)) (aX (s.getSl 4 rfl))) ?_;intro w1 s
    refine ah ?_
    refine hK16 _ _ ?_
    refine al fun K17 hK17=>?_
    refine ae ?_
    refine ar 9 h s a6 rfl rfl (rfl) rfl ?_;intro f h
    refine ar 7 h s aZ rfl rfl (aq _ _ _ _) rfl ?_;intro f h
    refine aH h s qx (iv L1 vp ((rD L L1 no),fu,dv) _ (⟨bq.of_own (s.getSl 2 rfl),(by rw [hL1];exact ck (fun y hy=>(hO.2 y hy).keep s.ext) ⟨bq.of_own (s.getSl 3 rfl),bq.of_own (s.getSl 4 rfl)⟩)⟩:dN _ vp L1) (by omega) ⟨bq.of_own (s.getSl 0 rfl),bq.of_own (s.getSl 4 rfl)⟩) rfl rfl ?_;rintro f w1 v59 ⟨vq,rfl,hOw⟩ hE h sq;replace s:=s.sl_new hE hOw;clear hOw
    obtain ⟨L2,hL2⟩:∃ x9,x9=ec L1 ((rD L L1 no),fu,dv):=⟨_,rfl⟩
    rw [← hL2] at s
    obtain ⟨hrs2,hm2,hi2⟩:=hrs1.put (x:=((rD L L1 no),fu,dv)) hi1 rfl (m6 hT1 (kD hsr))
    rw [← hL2] at hrs2 hm2 hi2
    have hln2:=hrs2.len
    have hp2:1≤(dx (rA L no) (rC L L1 no)).length:=pl _ _
    refine ax 10 h s a6 rfl rfl rfl (rfl) (rfl) (cn (aX (s.getSl 0 rfl))) ?_;intro w1 s
    refine ah ?_
    refine hK17 _ _ ?_
    refine al fun K18 hK18=>?_
    refine ae ?_
    refine ac h (ai bD (h.ev rfl)) rfl ?_;intro f h
    refine au (V:=fu) (am (aU.of_own s 8 rfl) 66 (bL _ _ _ _)) h bE rfl rfl ?_;intro f h
    refine ac h (bZ (bq.of_own (s.getSl 1 rfl)) (0) Tryz.underlying36 cz (h.ev rfl) (h.ev rfl) (by omega) (by omega)) rfl ?_;intro f h
    refine ac h (bG aJ (h.ev rfl) ((bq.of_own (s.getSl 1 rfl)).some (by omega))) rfl ?_;intro f h
    refine au (V:=.int .i64 (rY L L1 no)) (dt (bq.of_own (s.getSl 1 rfl)) (0*33+0) (ld (dx (rA L no) (rC L L1 no)) 0 (by omega))) h bz rfl rfl ?_;intro f h
    refine ac h (aj (h.ev rfl)) rfl ?_;intro f h
    refine ah ?_
    refine hK18 _ _ ?_
    refine al fun K19 hK19=>?_
    refine al fun K20 hK20=>?_
    cases p1:(ce (aM L2) (rY L L1 no):Bool)
    ·skip
     refine ae ?_
     refine ar 10 h s a6 rfl rfl (rfl) rfl ?_;intro f h
     refine ac h (ag (h.ev rfl)) rfl ?_;intro f h
     refine aH h s i5 (aO (.bool false) (eg L2 vq (rY L L1 no) _ (⟨bq.of_own (s.getSl 0 rfl),(by rw [hL2];exact ck (by rw [hL1];exact ck (fun y hy=>(hO.2 y hy).keep s.ext) ⟨bq.of_own (s.getSl 4 rfl),bq.of_own (s.getSl 5 rfl)⟩) ⟨bq.of_own (s.getSl 1 rfl),bq.of_own (s.getSl 5 rfl)⟩)⟩:dN _ vq L2) (by omega)) (congrArg Value.bool p1)) rfl rfl ?_;intro f w1 v9 hT hE h s;obtain rfl:=hT
     refine ah ?_
     refine hK20 _ _ ?_
     refine wpIn_cond_false (h.ev rfl) ?_
     refine wpIn_skip ?_
     refine hK19 _ _ ?_
     refine al fun K21 hK21=>?_
     refine ae ?_
     refine ar 10 h s a6 rfl rfl (rfl) rfl ?_;intro f h
     refine ax 9 h s a6 rfl rfl rfl (rfl) (rfl) (cn (aX (s.getSl 0 rfl))) ?_;intro w1 s
     refine ah ?_
     refine hK21 _ _ ?_
     refine wpIn_ret ?_
     exact c8 9 rfl h s a6 rfl rfl (rfl) (tN (by rw [kl L no hL1 hL2,p1];rfl) (fun w9 hv ha hb9 hc9 hR=>⟨hv,(by rw [hL2];exact ck (by rw [hL1];exact ck hR ⟨ha,hb9⟩) ⟨hc9,hb9⟩)⟩) (s.sel [0,4,5,1] rfl (by decide)))
    ·skip
     refine ae ?_
     refine ar 10 h s a6 rfl rfl (rfl) rfl ?_;intro f h
     refine ac h (ag (h.ev rfl)) rfl ?_;intro f h
     refine aH h s i5 (aO (.bool true) (eg L2 vq (rY L L1 no) _ (⟨bq.of_own (s.getSl 0 rfl),(by rw [hL2];exact ck (by rw [hL1];exact ck (fun y hy=>(hO.2 y hy).keep s.ext) ⟨bq.of_own (s.getSl 4 rfl),bq.of_own (s.getSl 5 rfl)⟩) ⟨bq.of_own (s.getSl 1 rfl),bq.of_own (s.getSl 5 rfl)⟩)⟩:dN _ vq L2) (by omega)) (congrArg Value.bool p1)) rfl rfl ?_;intro f w1 v9 hT hE h s;obtain rfl:=hT
     refine ah ?_
     refine hK20 _ _ ?_
     refine wpIn_cond_true (h.ev rfl) ?_
     refine mt 0 8 [[],[],[],[1,2],[],[4],[1,2,3,4,5],[0,1,2,3,4,5,6],[0,1,2,3,4,5,6,7]] [[],[],[],[],[],[],[],[],[]] [fun _=>[],fun _=>[],fun _=>[],fun _=>[],fun _=>[],fun _=>[],fun _=>[],fun v=>[.sl (wh (v 7)) 42 68 (ec L2 ((rF L L1 L2 no),(rE L L1 L2 no).2.1,(rE L L1 L2 no).2.2)).length (aD (ec L2 ((rF L L1 L2 no),(rE L L1 L2 no).2.1,(rE L L1 L2 no).2.2)))],fun _=>[]] [] [fun v=>v 0=.agg (#[vq]),fun v=>v 1=.agg (#[vq]),fun v=>v 2=.int .i64 (rY L L1 no),fun v=>v 3=.agg (qS (rE L L1 L2 no)),fun v=>v 4=.pointer (some ⟨b5,0,none⟩),fun v=>v 5=.agg (aw (rD L L1 no).me),fun v=>v 6=.agg (aC (rE L L1 L2 no).1.me (gN (rE L L1 L2 no).1 (rD L L1 no).me) (rE L L1 L2 no).2.1 (rE L L1 L2 no).2.2),fun v=>v 7=.agg #[(wh (v 7))],fun _=>True] [.sl vq 42 68 L2.length (aD L2),.sl fu 28 33 (dx (rA L no) (rC L L1 no)).length (ap (dx (rA L no) (rC L L1 no))),.blk b9 (.cells (cx (rC L L1 no) (rB L L1 no).2.1 (rB L L1 no).2.2) 42),.sl vp 42 68 L1.length (aD L1),.sl du 28 33 (rA L no).sc.length (ap (rA L no).sc),.sl dv 28 33 (rA L no).fg.length (ap (rA L no).fg),.sl v16 28 33 (aE (bC L no).1).length (ap (aE (bC L no).1)),.sl vb 3 1 (dJ (aM L) (bC L no).1).length ((dJ (aM L) (bC L no).1).map (Value.int .i64)),.blk b5 (.cells (cx (rD L L1 no) fu dv) 42),.blk b4 (.cells (#[a8]) 24),.blk b2 (.cells (#[vq]) 24)] h s rfl (by kernel_rfl) (by kernel_rfl) (by kernel_rfl) (And.intro ?_ (And.intro ?_ (And.intro ?_ (And.intro ?_ (And.intro ?_ (And.intro ?_ (And.intro ?_ (And.intro ?_ (trivial))))))))) [0,1,2,3,4,5,6,7] (by kernel_rfl) ?_
     ·intro f9 w2 vl18 E9 hs9 hd9 hl hF s
      have e2:f9.tmps.getD 2 undef=_:=cI hl 2 (by kernel_rfl) (by kernel_rfl) (h.holds 2 _ rfl)
      have h:=ay [(2,_)] (hs9.trans h.size) (hd9.trans h.defers) (holds_lk ⟨e2,trivial⟩)
      replace s:St w (.sl vq 42 68 L2.length (aD L2)::.sl fu 28 33 (dx (rA L no) (rC L L1 no)).length (ap (dx (rA L no) (rC L L1 no)))::.blk b9 (.cells (cx (rC L L1 no) (rB L L1 no).2.1 (rB L L1 no).2.2) 42)::.sl vp 42 68 L1.length (aD L1)::.sl du 28 33 (rA L no).sc.length (ap (rA L no).sc)::.sl dv 28 33 (rA L no).fg.length (ap (rA L no).fg)::.sl v16 28 33 (aE (bC L no).1).length (ap (aE (bC L no).1))::.sl vb 3 1 (dJ (aM L) (bC L no).1).length ((dJ (aM L) (bC L no).1).map (Value.int .i64))::.blk b5 (.cells (cx (rD L L1 no) fu dv) 42)::.blk b4 (.cells (#[a8]) 24)::.blk b2 (.cells (#[vq]) 24)::E9) _:=s
      refine ar 10 h s a6 rfl rfl (rfl) rfl ?_;intro f h
      exact ah ⟨_,bi 68 rfl (h.holds 68 _ rfl),rfl,s⟩
     ·intro f9 w2 vl18 E9 hs9 hd9 hl hF s
      have e2:f9.tmps.getD 2 undef=_:=cI hl 2 (by kernel_rfl) (by kernel_rfl) (h.holds 2 _ rfl)
      have h:=ay [(2,_)] (hs9.trans h.size) (hd9.trans h.defers) (holds_lk ⟨e2,trivial⟩)
      replace s:St w (.sl vq 42 68 L2.length (aD L2)::.sl fu 28 33 (dx (rA L no) (rC L L1 no)).length (ap (dx (rA L no) (rC L L1 no)))::.blk b9 (.cells (cx (rC L L1 no) (rB L L1 no).2.1 (rB L L1 no).2.2) 42)::.sl vp 42 68 L1.length (aD L1)::.sl du 28 33 (rA L no).sc.length (ap (rA L no).sc)::.sl dv 28 33 (rA L no).fg.length (ap (rA L no).fg)::.sl v16 28 33 (aE (bC L no).1).length (ap (aE (bC L no).1))::.sl vb 3 1 (dJ (aM L) (bC L no).1).length ((dJ (aM L) (bC L no).1).map (Value.int .i64))::.blk b5 (.cells (cx (rD L L1 no) fu dv) 42)::.blk b4 (.cells (#[a8]) 24)::.blk b2 (.cells (#[vq]) 24)::E9) _:=s
      refine ar 10 h s a6 rfl rfl (rfl) rfl ?_;intro f h
      exact ah ⟨_,bi 69 rfl (h.holds 69 _ rfl),rfl,s⟩
     ·intro f9 w2 vl18 E9 hs9 hd9 hl hF s
      have e10:f9.tmps.getD 10 undef=_:=cI hl 10 (by kernel_rfl) (by kernel_rfl) (h.holds 10 _ rfl)
      have h:=ay [(10,_)] (hs9.trans h.size) (hd9.trans h.defers) (holds_lk ⟨e10,trivial⟩)
      replace s:St w (.sl vq 42 68 L2.length (aD L2)::.sl fu 28 33 (dx (rA L no) (rC L L1 no)).length (ap (dx (rA L no) (rC L L1 no)))::.blk b9 (.cells (cx (rC L L1 no) (rB L L1 no).2.1 (rB L L1 no).2.2) 42)::.sl vp 42 68 L1.length (aD L1)::.sl du 28 33 (rA L no).sc.length (ap (rA L no).sc)::.sl dv 28 33 (rA L no).fg.length (ap (rA L no).fg)::.sl v16 28 33 (aE (bC L no).1).length (ap (aE (bC L no).1))::.sl vb 3 1 (dJ (aM L) (bC L no).1).length ((dJ (aM L) (bC L no).1).map (Value.int .i64))::.blk b5 (.cells (cx (rD L L1 no) fu dv) 42)::.blk b4 (.cells (#[a8]) 24)::.blk b2 (.cells (#[vq]) 24)::E9) _:=s
      refine ac h (ag (h.ev rfl)) rfl ?_;intro f h
      exact ah ⟨_,bi 70 rfl (h.holds 70 _ rfl),rfl,s⟩
     ·intro f9 w2 vl18 E9 hs9 hd9 hl hF s
      have e69:f9.tmps.getD 69 undef=.agg (#[vq]):=(br hl 69 1 (by kernel_rfl) (by kernel_rfl)).trans (hF 1 (by decide))
      have e70:f9.tmps.getD 70 undef=.int .i64 (rY L L1 no):=(br hl 70 2 (by kernel_rfl) (by kernel_rfl)).trans (hF 2 (by decide))
      have h:=ay [(69,.agg (#[vq])),(70,.int .i64 (rY L L1 no))] (hs9.trans h.size) (hd9.trans h.defers) (holds_lk ⟨e69,e70,trivial⟩)
      replace s:St w (.sl vq 42 68 L2.length (aD L2)::.sl fu 28 33 (dx (rA L no) (rC L L1 no)).length (ap (dx (rA L no) (rC L L1 no)))::.blk b9 (.cells (cx (rC L L1 no) (rB L L1 no).2.1 (rB L L1 no).2.2) 42)::.sl vp 42 68 L1.length (aD L1)::.sl du 28 33 (rA L no).sc.length (ap (rA L no).sc)::.sl dv 28 33 (rA L no).fg.length (ap (rA L no).fg)::.sl v16 28 33 (aE (bC L no).1).length (ap (aE (bC L no).1))::.sl vb 3 1 (dJ (aM L) (bC L no).1).length ((dJ (aM L) (bC L no).1).map (Value.int .i64))::.blk b5 (.cells (cx (rD L L1 no) fu dv) 42)::.blk b4 (.cells (#[a8]) 24)::.blk b2 (.cells (#[vq]) 24)::E9) _:=s
      refine aH h s tQ (mi L2 vq (rY L L1 no) _ (⟨bq.of_own (s.getSl 0 rfl),(by rw [hL2];exact ck (by rw [hL1];exact ck (fun y hy=>(hO.2 y hy).keep s.ext) ⟨bq.of_own (s.getSl 4 rfl),bq.of_own (s.getSl 5 rfl)⟩) ⟨bq.of_own (s.getSl 1 rfl),bq.of_own (s.getSl 5 rfl)⟩)⟩:dN _ vq L2) (by omega)) rfl rfl ?_;intro f w1 v9 hT hE h s;obtain rfl:=hT
      exact ah ⟨_,bi 71 rfl (h.holds 71 _ rfl),rfl,s⟩
     ·intro f9 w2 vl18 E9 hs9 hd9 hl hF s
      have e5:f9.tmps.getD 5 undef=_:=cI hl 5 (by kernel_rfl) (by kernel_rfl) (h.holds 5 _ rfl)
      have h:=ay [(5,_)] (hs9.trans h.size) (hd9.trans h.defers) (holds_lk ⟨e5,trivial⟩)
      replace s:St w (.sl vq 42 68 L2.length (aD L2)::.sl fu 28 33 (dx (rA L no) (rC L L1 no)).length (ap (dx (rA L no) (rC L L1 no)))::.blk b9 (.cells (cx (rC L L1 no) (rB L L1 no).2.1 (rB L L1 no).2.2) 42)::.sl vp 42 68 L1.length (aD L1)::.sl du 28 33 (rA L no).sc.length (ap (rA L no).sc)::.sl dv 28 33 (rA L no).fg.length (ap (rA L no).fg)::.sl v16 28 33 (aE (bC L no).1).length (ap (aE (bC L no).1))::.sl vb 3 1 (dJ (aM L) (bC L no).1).length ((dJ (aM L) (bC L no).1).map (Value.int .i64))::.blk b5 (.cells (cx (rD L L1 no) fu dv) 42)::.blk b4 (.cells (#[a8]) 24)::.blk b2 (.cells (#[vq]) 24)::E9) _:=s
      refine ac h (ai aR (h.ev rfl)) rfl ?_;intro f h
      exact ah ⟨_,bi 72 rfl (h.holds 72 _ rfl),rfl,s⟩
     ·intro f9 w2 vl18 E9 hs9 hd9 hl hF s
      have e72:f9.tmps.getD 72 undef=.pointer (some ⟨b5,0,none⟩):=(br hl 72 4 (by kernel_rfl) (by kernel_rfl)).trans (hF 4 (by decide))
      have h:=ay [(72,.pointer (some ⟨b5,0,none⟩))] (hs9.trans h.size) (hd9.trans h.defers) (holds_lk ⟨e72,trivial⟩)
      replace s:St w (.sl vq 42 68 L2.length (aD L2)::.sl fu 28 33 (dx (rA L no) (rC L L1 no)).length (ap (dx (rA L no) (rC L L1 no)))::.blk b9 (.cells (cx (rC L L1 no) (rB L L1 no).2.1 (rB L L1 no).2.2) 42)::.sl vp 42 68 L1.length (aD L1)::.sl du 28 33 (rA L no).sc.length (ap (rA L no).sc)::.sl dv 28 33 (rA L no).fg.length (ap (rA L no).fg)::.sl v16 28 33 (aE (bC L no).1).length (ap (aE (bC L no).1))::.sl vb 3 1 (dJ (aM L) (bC L no).1).length ((dJ (aM L) (bC L no).1).map (Value.int .i64))::.blk b5 (.cells (cx (rD L L1 no) fu dv) 42)::.blk b4 (.cells (#[a8]) 24)::.blk b2 (.cells (#[vq]) 24)::E9) _:=s
      refine aB (aU.subL (aU.of_own s 8 rfl) 0 33 (D:=aw (rD L L1 no).me) (bT _ _ _ _)) h aL rfl (ak _) rfl ?_;intro f h
      exact ah ⟨_,bi 73 rfl (h.holds 73 _ rfl),rfl,s⟩
     ·intro f9 w2 vl18 E9 hs9 hd9 hl hF s
      have e71:f9.tmps.getD 71 undef=.agg (qS (rE L L1 L2 no)):=(br hl 71 3 (by kernel_rfl) (by kernel_rfl)).trans (hF 3 (by decide))
      have e73:f9.tmps.getD 73 undef=.agg (aw (rD L L1 no).me):=(br hl 73 5 (by kernel_rfl) (by kernel_rfl)).trans (hF 5 (by decide))
      have h:=ay [(71,.agg (qS (rE L L1 L2 no))),(73,.agg (aw (rD L L1 no).me))] (hs9.trans h.size) (hd9.trans h.defers) (holds_lk ⟨e71,e73,trivial⟩)
      replace s:St w (.sl vq 42 68 L2.length (aD L2)::.sl fu 28 33 (dx (rA L no) (rC L L1 no)).length (ap (dx (rA L no) (rC L L1 no)))::.blk b9 (.cells (cx (rC L L1 no) (rB L L1 no).2.1 (rB L L1 no).2.2) 42)::.sl vp 42 68 L1.length (aD L1)::.sl du 28 33 (rA L no).sc.length (ap (rA L no).sc)::.sl dv 28 33 (rA L no).fg.length (ap (rA L no).fg)::.sl v16 28 33 (aE (bC L no).1).length (ap (aE (bC L no).1))::.sl vb 3 1 (dJ (aM L) (bC L no).1).length ((dJ (aM L) (bC L no).1).map (Value.int .i64))::.blk b5 (.cells (cx (rD L L1 no) fu dv) 42)::.blk b4 (.cells (#[a8]) 24)::.blk b2 (.cells (#[vq]) 24)::E9) _:=s
      refine aH h s AP (lC (rE L L1 L2 no).1 (rE L L1 L2 no).2.1 (rE L L1 L2 no).2.2 (rD L L1 no).me _ (dy (⟨bq.of_own (s.getSl 0 rfl),(by rw [hL2];exact ck (by rw [hL1];exact ck (fun y hy=>(hO.2 y hy).keep s.ext) ⟨bq.of_own (s.getSl 4 rfl),bq.of_own (s.getSl 5 rfl)⟩) ⟨bq.of_own (s.getSl 1 rfl),bq.of_own (s.getSl 5 rfl)⟩)⟩:dN _ vq L2).2 (rY L L1 no)).1 (dy (⟨bq.of_own (s.getSl 0 rfl),(by rw [hL2];exact ck (by rw [hL1];exact ck (fun y hy=>(hO.2 y hy).keep s.ext) ⟨bq.of_own (s.getSl 4 rfl),bq.of_own (s.getSl 5 rfl)⟩) ⟨bq.of_own (s.getSl 1 rfl),bq.of_own (s.getSl 5 rfl)⟩)⟩:dN _ vq L2).2 (rY L L1 no)).2) rfl rfl ?_;intro f w1 v9 hT hE h s;obtain rfl:=hT
      exact ah ⟨_,bi 74 rfl (h.holds 74 _ rfl),rfl,s⟩
     ·intro f9 w2 vl18 E9 hs9 hd9 hl hF s
      have e68:f9.tmps.getD 68 undef=.agg (#[vq]):=(br hl 68 0 (by kernel_rfl) (by kernel_rfl)).trans (hF 0 (by decide))
      have e74:f9.tmps.getD 74 undef=.agg (aC (rE L L1 L2 no).1.me (gN (rE L L1 L2 no).1 (rD L L1 no).me) (rE L L1 L2 no).2.1 (rE L L1 L2 no).2.2):=(br hl 74 6 (by kernel_rfl) (by kernel_rfl)).trans (hF 6 (by decide))
      have h:=ay [(68,.agg (#[vq])),(74,.agg (aC (rE L L1 L2 no).1.me (gN (rE L L1 L2 no).1 (rD L L1 no).me) (rE L L1 L2 no).2.1 (rE L L1 L2 no).2.2))] (hs9.trans h.size) (hd9.trans h.defers) (holds_lk ⟨e68,e74,trivial⟩)
      replace s:St w (.sl vq 42 68 L2.length (aD L2)::.sl fu 28 33 (dx (rA L no) (rC L L1 no)).length (ap (dx (rA L no) (rC L L1 no)))::.blk b9 (.cells (cx (rC L L1 no) (rB L L1 no).2.1 (rB L L1 no).2.2) 42)::.sl vp 42 68 L1.length (aD L1)::.sl du 28 33 (rA L no).sc.length (ap (rA L no).sc)::.sl dv 28 33 (rA L no).fg.length (ap (rA L no).fg)::.sl v16 28 33 (aE (bC L no).1).length (ap (aE (bC L no).1))::.sl vb 3 1 (dJ (aM L) (bC L no).1).length ((dJ (aM L) (bC L no).1).map (Value.int .i64))::.blk b5 (.cells (cx (rD L L1 no) fu dv) 42)::.blk b4 (.cells (#[a8]) 24)::.blk b2 (.cells (#[vq]) 24)::E9) _:=s
      refine aH h s qx (iv L2 vq ((rF L L1 L2 no),(rE L L1 L2 no).2.1,(rE L L1 L2 no).2.2) _ (⟨bq.of_own (s.getSl 0 rfl),(by rw [hL2];exact ck (by rw [hL1];exact ck (fun y hy=>(hO.2 y hy).keep s.ext) ⟨bq.of_own (s.getSl 4 rfl),bq.of_own (s.getSl 5 rfl)⟩) ⟨bq.of_own (s.getSl 1 rfl),bq.of_own (s.getSl 5 rfl)⟩)⟩:dN _ vq L2) (by omega) ⟨(dy (⟨bq.of_own (s.getSl 0 rfl),(by rw [hL2];exact ck (by rw [hL1];exact ck (fun y hy=>(hO.2 y hy).keep s.ext) ⟨bq.of_own (s.getSl 4 rfl),bq.of_own (s.getSl 5 rfl)⟩) ⟨bq.of_own (s.getSl 1 rfl),bq.of_own (s.getSl 5 rfl)⟩)⟩:dN _ vq L2).2 (rY L L1 no)).1,(dy (⟨bq.of_own (s.getSl 0 rfl),(by rw [hL2];exact ck (by rw [hL1];exact ck (fun y hy=>(hO.2 y hy).keep s.ext) ⟨bq.of_own (s.getSl 4 rfl),bq.of_own (s.getSl 5 rfl)⟩) ⟨bq.of_own (s.getSl 1 rfl),bq.of_own (s.getSl 5 rfl)⟩)⟩:dN _ vq L2).2 (rY L L1 no)).2⟩) rfl rfl ?_;rintro f w1 v75 ⟨vr,hv9,hOw⟩ hE h sq;replace s:=s.sl_new hE hOw
      have h0v:vr=wh v75:=by rw [hv9];exact(xX (bq.of_own hOw)).symm
      clear hOw
      subst h0v
      exact ah ⟨_,bi 75 rfl (h.holds 75 _ rfl),hv9,s⟩
     intro f w1 vl18 hs9 hd9 hv hr hF s
     replace hv:=fun i d h9=>hv i d (show Nat.blt i 8=true from h9)
     replace h:=nf 8 (ops:=_) [(68,.agg (#[vq])),(69,.agg (#[vq])),(70,.int .i64 (rY L L1 no)),(71,.agg (qS (rE L L1 L2 no))),(72,.pointer (some ⟨b5,0,none⟩)),(73,.agg (aw (rD L L1 no).me)),(74,.agg (aC (rE L L1 L2 no).1.me (gN (rE L L1 L2 no).1 (rD L L1 no).me) (rE L L1 L2 no).2.1 (rE L L1 L2 no).2.2)),(75,.agg #[(wh (vl18 7))])] h hs9 hd9 hr ⟨(hv 0 68 rfl rfl).trans (hF 0 (by kernel_rfl)),(hv 1 69 rfl rfl).trans (hF 1 (by kernel_rfl)),(hv 2 70 rfl rfl).trans (hF 2 (by kernel_rfl)),(hv 3 71 rfl rfl).trans (hF 3 (by kernel_rfl)),(hv 4 72 rfl rfl).trans (hF 4 (by kernel_rfl)),(hv 5 73 rfl rfl).trans (hF 5 (by kernel_rfl)),(hv 6 74 rfl rfl).trans (hF 6 (by kernel_rfl)),(hv 7 75 rfl rfl).trans (hF 7 (by kernel_rfl)),trivial⟩ (by kernel_rfl)
     replace s:St w [.sl (wh (vl18 7)) 42 68 (ec L2 ((rF L L1 L2 no),(rE L L1 L2 no).2.1,(rE L L1 L2 no).2.2)).length (aD (ec L2 ((rF L L1 L2 no),(rE L L1 L2 no).2.1,(rE L L1 L2 no).2.2))),.sl vq 42 68 L2.length (aD L2),.sl fu 28 33 (dx (rA L no) (rC L L1 no)).length (ap (dx (rA L no) (rC L L1 no))),.blk b9 (.cells (cx (rC L L1 no) (rB L L1 no).2.1 (rB L L1 no).2.2) 42),.sl vp 42 68 L1.length (aD L1),.sl du 28 33 (rA L no).sc.length (ap (rA L no).sc),.sl dv 28 33 (rA L no).fg.length (ap (rA L no).fg),.sl v16 28 33 (aE (bC L no).1).length (ap (aE (bC L no).1)),.sl vb 3 1 (dJ (aM L) (bC L no).1).length ((dJ (aM L) (bC L no).1).map (Value.int .i64)),.blk b5 (.cells (cx (rD L L1 no) fu dv) 42),.blk b4 (.cells (#[a8]) 24),.blk b2 (.cells (#[vq]) 24)] _:=s
     refine ax 11 h s a6 rfl rfl rfl (rfl) (rfl) (cn (aX (s.getSl 0 rfl))) ?_;intro w1 s
     refine ah ?_
     refine hK19 _ _ ?_
     refine al fun K22 hK22=>?_
     refine ae ?_
     refine ar 11 h s a6 rfl rfl (rfl) rfl ?_;intro f h
     refine ax 10 h s a6 rfl rfl rfl (rfl) (rfl) (cn (aX (s.getSl 0 rfl))) ?_;intro w1 s
     refine ah ?_
     refine hK22 _ _ ?_
     refine wpIn_ret ?_
     exact c8 10 rfl h s a6 rfl rfl (rfl) (tN (by rw [kl L no hL1 hL2,p1,fF,← gZ];rfl) (fun w9 hv ha hb9 hc9 hR=>⟨hv,by have hx9:∀ x∈L2,jX w9 x:=(by rw [hL2];exact ck (by rw [hL1];exact ck hR ⟨ha,hb9⟩) ⟨hc9,hb9⟩);exact ck hx9 ⟨(dy hx9 (rY L L1 no)).1,(dy hx9 (rY L L1 no)).2⟩⟩) (s.sel [0,5,6,2] rfl (by decide)))
   ·skip
    refine ae ?_
    refine ar 8 h s a6 rfl rfl (rfl) rfl ?_;intro f h
    refine ac h (ai bR (h.ev rfl)) rfl ?_;intro f h
    refine ac h (ai aJ (h.ev rfl)) rfl ?_;intro f h
    refine au (am (aU.of_own s 0 rfl) 33 (fS _ _ _ _)) h bz rfl rfl ?_;intro f h
    refine aH h s i5 (aO (.bool true) (eg L1 vp (rB L L1 no).1.pr.1 _ (⟨bq.of_own (s.getSl 1 rfl),(by rw [hL1];exact ck (fun y hy=>(hO.2 y hy).keep s.ext) ⟨bq.of_own (s.getSl 2 rfl),bq.of_own (s.getSl 3 rfl)⟩)⟩:dN _ vp L1) (by omega)) (congrArg Value.bool p0)) rfl rfl ?_;intro f w1 v9 hT hE h s;obtain rfl:=hT
    refine ac h (av (.bool false) (bh (h.ev rfl)) rfl) rfl ?_;intro f h
    refine ah ?_
    refine hK15 _ _ ?_
    refine wpIn_cond_false (h.ev rfl) ?_
    refine wpIn_skip ?_
    refine hK14 _ _ ?_
    refine al fun K23 hK23=>?_
    refine ae ?_
    replace s:=s.recell (D:=aC (rC L L1 no).me (rC L L1 no).pr (rB L L1 no).2.1 (rB L L1 no).2.2) 0 rfl (by show _=aC (rB L L1 no).1.me (bif ce (aM L1) (rB L L1 no).1.pr.1 then (rB L L1 no).1.pr else de) _ _;rw [p0];rfl)
    refine ar 6 h s aZ rfl rfl (aq _ _ _ _) rfl ?_;intro f h
    refine ar 0 h s aZ rfl rfl (aq _ _ _ _) rfl ?_;intro f h
    refine aH h s AX (lj (rA L no) du dv (rC L L1 no) (rB L L1 no).2.1 (rB L L1 no).2.2 _ (bq.of_own (s.getSl 2 rfl)) (bq.of_own (s.getSl 3 rfl)) (by omega) (by omega) (dy (⟨bq.of_own (s.getSl 1 rfl),(by rw [hL1];exact ck (fun y hy=>(hO.2 y hy).keep s.ext) ⟨bq.of_own (s.getSl 2 rfl),bq.of_own (s.getSl 3 rfl)⟩)⟩:dN _ vp L1).2 (rX L no)).1 (dy (⟨bq.of_own (s.getSl 1 rfl),(by rw [hL1];exact ck (fun y hy=>(hO.2 y hy).keep s.ext) ⟨bq.of_own (s.getSl 2 rfl),bq.of_own (s.getSl 3 rfl)⟩)⟩:dN _ vp L1).2 (rX L no)).2 (by show (rB L L1 no).1.sc.length≤400;omega) (by show (rB L L1 no).1.fg.length≤400;omega) (kD hsr)) rfl rfl ?_;rintro f w1 v56 ⟨fu,rfl,hOw⟩ hE h sq;replace s:=s.sl_new hE hOw;clear hOw
    refine ax 7 h s aZ rfl rfl rfl (aq _ _ _ _) (aq _ _ _ _) (a7 (aX (s.getSl 0 rfl)) (aX (s.getSl 4 rfl))) ?_;intro w1 s
    refine ah ?_
    refine hK23 _ _ ?_
    refine al fun K24 hK24=>?_
    refine ae ?_
    refine ar 9 h s a6 rfl rfl (rfl) rfl ?_;intro f h
    refine ar 7 h s aZ rfl rfl (aq _ _ _ _) rfl ?_;intro f h
    refine aH h s qx (iv L1 vp ((rD L L1 no),fu,dv) _ (⟨bq.of_own (s.getSl 2 rfl),(by rw [hL1];exact ck (fun y hy=>(hO.2 y hy).keep s.ext) ⟨bq.of_own (s.getSl 3 rfl),bq.of_own (s.getSl 4 rfl)⟩)⟩:dN _ vp L1) (by omega) ⟨bq.of_own (s.getSl 0 rfl),bq.of_own (s.getSl 4 rfl)⟩) rfl rfl ?_;rintro f w1 v59 ⟨vq,rfl,hOw⟩ hE h sq;replace s:=s.sl_new hE hOw;clear hOw
    obtain ⟨L2,hL2⟩:∃ x9,x9=ec L1 ((rD L L1 no),fu,dv):=⟨_,rfl⟩
    rw [← hL2] at s
    obtain ⟨hrs2,hm2,hi2⟩:=hrs1.put (x:=((rD L L1 no),fu,dv)) hi1 rfl (m6 hT1 (kD hsr))
    rw [← hL2] at hrs2 hm2 hi2
    have hln2:=hrs2.len
    have hp2:1≤(dx (rA L no) (rC L L1 no)).length:=pl _ _
    refine ax 10 h s a6 rfl rfl rfl (rfl) (rfl) (cn (aX (s.getSl 0 rfl))) ?_;intro w1 s
    refine ah ?_
    refine hK24 _ _ ?_
    refine al fun K25 hK25=>?_
    refine ae ?_
    refine ac h (ai bD (h.ev rfl)) rfl ?_;intro f h
    refine au (V:=fu) (am (aU.of_own s 8 rfl) 66 (bL _ _ _ _)) h bE rfl rfl ?_;intro f h
    refine ac h (bZ (bq.of_own (s.getSl 1 rfl)) (0) Tryz.underlying36 cz (h.ev rfl) (h.ev rfl) (by omega) (by omega)) rfl ?_;intro f h
    refine ac h (bG aJ (h.ev rfl) ((bq.of_own (s.getSl 1 rfl)).some (by omega))) rfl ?_;intro f h
    refine au (V:=.int .i64 (rY L L1 no)) (dt (bq.of_own (s.getSl 1 rfl)) (0*33+0) (ld (dx (rA L no) (rC L L1 no)) 0 (by omega))) h bz rfl rfl ?_;intro f h
    refine ac h (aj (h.ev rfl)) rfl ?_;intro f h
    refine ah ?_
    refine hK25 _ _ ?_
    refine al fun K26 hK26=>?_
    refine al fun K27 hK27=>?_
    cases p1:(ce (aM L2) (rY L L1 no):Bool)
    ·skip
     refine ae ?_
     refine ar 10 h s a6 rfl rfl (rfl) rfl ?_;intro f h
     refine ac h (ag (h.ev rfl)) rfl ?_;intro f h
     refine aH h s i5 (aO (.bool false) (eg L2 vq (rY L L1 no) _ (⟨bq.of_own (s.getSl 0 rfl),(by rw [hL2];exact ck (by rw [hL1];exact ck (fun y hy=>(hO.2 y hy).keep s.ext) ⟨bq.of_own (s.getSl 4 rfl),bq.of_own (s.getSl 5 rfl)⟩) ⟨bq.of_own (s.getSl 1 rfl),bq.of_own (s.getSl 5 rfl)⟩)⟩:dN _ vq L2) (by omega)) (congrArg Value.bool p1)) rfl rfl ?_;intro f w1 v9 hT hE h s;obtain rfl:=hT
     refine ah ?_
     refine hK27 _ _ ?_
     refine wpIn_cond_false (h.ev rfl) ?_
     refine wpIn_skip ?_
     refine hK26 _ _ ?_
     refine al fun K28 hK28=>?_
     refine ae ?_
     refine ar 10 h s a6 rfl rfl (rfl) rfl ?_;intro f h
     refine ax 9 h s a6 rfl rfl rfl (rfl) (rfl) (cn (aX (s.getSl 0 rfl))) ?_;intro w1 s
     refine ah ?_
     refine hK28 _ _ ?_
     refine wpIn_ret ?_
     exact c8 9 rfl h s a6 rfl rfl (rfl) (tN (by rw [kl L no hL1 hL2,p1];rfl) (fun w9 hv ha hb9 hc9 hR=>⟨hv,(by rw [hL2];exact ck (by rw [hL1];exact ck hR ⟨ha,hb9⟩) ⟨hc9,hb9⟩)⟩) (s.sel [0,4,5,1] rfl (by decide)))
    ·skip
     refine ae ?_
     refine ar 10 h s a6 rfl rfl (rfl) rfl ?_;intro f h
     refine ac h (ag (h.ev rfl)) rfl ?_;intro f h
     refine aH h s i5 (aO (.bool true) (eg L2 vq (rY L L1 no) _ (⟨bq.of_own (s.getSl 0 rfl),(by rw [hL2];exact ck (by rw [hL1];exact ck (fun y hy=>(hO.2 y hy).keep s.ext) ⟨bq.of_own (s.getSl 4 rfl),bq.of_own (s.getSl 5 rfl)⟩) ⟨bq.of_own (s.getSl 1 rfl),bq.of_own (s.getSl 5 rfl)⟩)⟩:dN _ vq L2) (by omega)) (congrArg Value.bool p1)) rfl rfl ?_;intro f w1 v9 hT hE h s;obtain rfl:=hT
     refine ah ?_
     refine hK27 _ _ ?_
     refine wpIn_cond_true (h.ev rfl) ?_
     refine mt 0 8 [[],[],[],[1,2],[],[4],[1,2,3,4,5],[0,1,2,3,4,5,6],[0,1,2,3,4,5,6,7]] [[],[],[],[],[],[],[],[],[]] [fun _=>[],fun _=>[],fun _=>[],fun _=>[],fun _=>[],fun _=>[],fun _=>[],fun v=>[.sl (wh (v 7)) 42 68 (ec L2 ((rF L L1 L2 no),(rE L L1 L2 no).2.1,(rE L L1 L2 no).2.2)).length (aD (ec L2 ((rF L L1 L2 no),(rE L L1 L2 no).2.1,(rE L L1 L2 no).2.2)))],fun _=>[]] [] [fun v=>v 0=.agg (#[vq]),fun v=>v 1=.agg (#[vq]),fun v=>v 2=.int .i64 (rY L L1 no),fun v=>v 3=.agg (qS (rE L L1 L2 no)),fun v=>v 4=.pointer (some ⟨b5,0,none⟩),fun v=>v 5=.agg (aw (rD L L1 no).me),fun v=>v 6=.agg (aC (rE L L1 L2 no).1.me (gN (rE L L1 L2 no).1 (rD L L1 no).me) (rE L L1 L2 no).2.1 (rE L L1 L2 no).2.2),fun v=>v 7=.agg #[(wh (v 7))],fun _=>True] [.sl vq 42 68 L2.length (aD L2),.sl fu 28 33 (dx (rA L no) (rC L L1 no)).length (ap (dx (rA L no) (rC L L1 no))),.blk b9 (.cells (cx (rC L L1 no) (rB L L1 no).2.1 (rB L L1 no).2.2) 42),.sl vp 42 68 L1.length (aD L1),.sl du 28 33 (rA L no).sc.length (ap (rA L no).sc),.sl dv 28 33 (rA L no).fg.length (ap (rA L no).fg),.sl v16 28 33 (aE (bC L no).1).length (ap (aE (bC L no).1)),.sl vb 3 1 (dJ (aM L) (bC L no).1).length ((dJ (aM L) (bC L no).1).map (Value.int .i64)),.blk b5 (.cells (cx (rD L L1 no) fu dv) 42),.blk b4 (.cells (#[a8]) 24),.blk b2 (.cells (#[vq]) 24)] h s rfl (by kernel_rfl) (by kernel_rfl) (by kernel_rfl) (And.intro ?_ (And.intro ?_ (And.intro ?_ (And.intro ?_ (And.intro ?_ (And.intro ?_ (And.intro ?_ (And.intro ?_ (trivial))))))))) [0,1,2,3,4,5,6,7] (by kernel_rfl) ?_
     ·intro f9 w2 vl18 E9 hs9 hd9 hl hF s
      have e2:f9.tmps.getD 2 undef=_:=cI hl 2 (by kernel_rfl) (by kernel_rfl) (h.holds 2 _ rfl)
      have h:=ay [(2,_)] (hs9.trans h.size) (hd9.trans h.defers) (holds_lk ⟨e2,trivial⟩)
      replace s:St w (.sl vq 42 68 L2.length (aD L2)::.sl fu 28 33 (dx (rA L no) (rC L L1 no)).length (ap (dx (rA L no) (rC L L1 no)))::.blk b9 (.cells (cx (rC L L1 no) (rB L L1 no).2.1 (rB L L1 no).2.2) 42)::.sl vp 42 68 L1.length (aD L1)::.sl du 28 33 (rA L no).sc.length (ap (rA L no).sc)::.sl dv 28 33 (rA L no).fg.length (ap (rA L no).fg)::.sl v16 28 33 (aE (bC L no).1).length (ap (aE (bC L no).1))::.sl vb 3 1 (dJ (aM L) (bC L no).1).length ((dJ (aM L) (bC L no).1).map (Value.int .i64))::.blk b5 (.cells (cx (rD L L1 no) fu dv) 42)::.blk b4 (.cells (#[a8]) 24)::.blk b2 (.cells (#[vq]) 24)::E9) _:=s
      refine ar 10 h s a6 rfl rfl (rfl) rfl ?_;intro f h
      exact ah ⟨_,bi 68 rfl (h.holds 68 _ rfl),rfl,s⟩
     ·intro f9 w2 vl18 E9 hs9 hd9 hl hF s
      have e2:f9.tmps.getD 2 undef=_:=cI hl 2 (by kernel_rfl) (by kernel_rfl) (h.holds 2 _ rfl)
      have h:=ay [(2,_)] (hs9.trans h.size) (hd9.trans h.defers) (holds_lk ⟨e2,trivial⟩)
      replace s:St w (.sl vq 42 68 L2.length (aD L2)::.sl fu 28 33 (dx (rA L no) (rC L L1 no)).length (ap (dx (rA L no) (rC L L1 no)))::.blk b9 (.cells (cx (rC L L1 no) (rB L L1 no).2.1 (rB L L1 no).2.2) 42)::.sl vp 42 68 L1.length (aD L1)::.sl du 28 33 (rA L no).sc.length (ap (rA L no).sc)::.sl dv 28 33 (rA L no).fg.length (ap (rA L no).fg)::.sl v16 28 33 (aE (bC L no).1).length (ap (aE (bC L no).1))::.sl vb 3 1 (dJ (aM L) (bC L no).1).length ((dJ (aM L) (bC L no).1).map (Value.int .i64))::.blk b5 (.cells (cx (rD L L1 no) fu dv) 42)::.blk b4 (.cells (#[a8]) 24)::.blk b2 (.cells (#[vq]) 24)::E9) _:=s
      refine ar 10 h s a6 rfl rfl (rfl) rfl ?_;intro f h
      exact ah ⟨_,bi 69 rfl (h.holds 69 _ rfl),rfl,s⟩
     ·intro f9 w2 vl18 E9 hs9 hd9 hl hF s
      have e10:f9.tmps.getD 10 undef=_:=cI hl 10 (by kernel_rfl) (by kernel_rfl) (h.holds 10 _ rfl)
      have h:=ay [(10,_)] (hs9.trans h.size) (hd9.trans h.defers) (holds_lk ⟨e10,trivial⟩)
      replace s:St w (.sl vq 42 68 L2.length (aD L2)::.sl fu 28 33 (dx (rA L no) (rC L L1 no)).length (ap (dx (rA L no) (rC L L1 no)))::.blk b9 (.cells (cx (rC L L1 no) (rB L L1 no).2.1 (rB L L1 no).2.2) 42)::.sl vp 42 68 L1.length (aD L1)::.sl du 28 33 (rA L no).sc.length (ap (rA L no).sc)::.sl dv 28 33 (rA L no).fg.length (ap (rA L no).fg)::.sl v16 28 33 (aE (bC L no).1).length (ap (aE (bC L no).1))::.sl vb 3 1 (dJ (aM L) (bC L no).1).length ((dJ (aM L) (bC L no).1).map (Value.int .i64))::.blk b5 (.cells (cx (rD L L1 no) fu dv) 42)::.blk b4 (.cells (#[a8]) 24)::.blk b2 (.cells (#[vq]) 24)::E9) _:=s
      refine ac h (ag (h.ev rfl)) rfl ?_;intro f h
      exact ah ⟨_,bi 70 rfl (h.holds 70 _ rfl),rfl,s⟩
     ·intro f9 w2 vl18 E9 hs9 hd9 hl hF s
      have e69:f9.tmps.getD 69 undef=.agg (#[vq]):=(br hl 69 1 (by kernel_rfl) (by kernel_rfl)).trans (hF 1 (by decide))
      have e70:f9.tmps.getD 70 undef=.int .i64 (rY L L1 no):=(br hl 70 2 (by kernel_rfl) (by kernel_rfl)).trans (hF 2 (by decide))
      have h:=ay [(69,.agg (#[vq])),(70,.int .i64 (rY L L1 no))] (hs9.trans h.size) (hd9.trans h.defers) (holds_lk ⟨e69,e70,trivial⟩)
      replace s:St w (.sl vq 42 68 L2.length (aD L2)::.sl fu 28 33 (dx (rA L no) (rC L L1 no)).length (ap (dx (rA L no) (rC L L1 no)))::.blk b9 (.cells (cx (rC L L1 no) (rB L L1 no).2.1 (rB L L1 no).2.2) 42)::.sl vp 42 68 L1.length (aD L1)::.sl du 28 33 (rA L no).sc.length (ap (rA L no).sc)::.sl dv 28 33 (rA L no).fg.length (ap (rA L no).fg)::.sl v16 28 33 (aE (bC L no).1).length (ap (aE (bC L no).1))::.sl vb 3 1 (dJ (aM L) (bC L no).1).length ((dJ (aM L) (bC L no).1).map (Value.int .i64))::.blk b5 (.cells (cx (rD L L1 no) fu dv) 42)::.blk b4 (.cells (#[a8]) 24)::.blk b2 (.cells (#[vq]) 24)::E9) _:=s
      refine aH h s tQ (mi L2 vq (rY L L1 no) _ (⟨bq.of_own (s.getSl 0 rfl),(by rw [hL2];exact ck (by rw [hL1];exact ck (fun y hy=>(hO.2 y hy).keep s.ext) ⟨bq.of_own (s.getSl 4 rfl),bq.of_own (s.getSl 5 rfl)⟩) ⟨bq.of_own (s.getSl 1 rfl),bq.of_own (s.getSl 5 rfl)⟩)⟩:dN _ vq L2) (by omega)) rfl rfl ?_;intro f w1 v9 hT hE h s;obtain rfl:=hT
      exact ah ⟨_,bi 71 rfl (h.holds 71 _ rfl),rfl,s⟩
     ·intro f9 w2 vl18 E9 hs9 hd9 hl hF s
      have e5:f9.tmps.getD 5 undef=_:=cI hl 5 (by kernel_rfl) (by kernel_rfl) (h.holds 5 _ rfl)
      have h:=ay [(5,_)] (hs9.trans h.size) (hd9.trans h.defers) (holds_lk ⟨e5,trivial⟩)
      replace s:St w (.sl vq 42 68 L2.length (aD L2)::.sl fu 28 33 (dx (rA L no) (rC L L1 no)).length (ap (dx (rA L no) (rC L L1 no)))::.blk b9 (.cells (cx (rC L L1 no) (rB L L1 no).2.1 (rB L L1 no).2.2) 42)::.sl vp 42 68 L1.length (aD L1)::.sl du 28 33 (rA L no).sc.length (ap (rA L no).sc)::.sl dv 28 33 (rA L no).fg.length (ap (rA L no).fg)::.sl v16 28 33 (aE (bC L no).1).length (ap (aE (bC L no).1))::.sl vb 3 1 (dJ (aM L) (bC L no).1).length ((dJ (aM L) (bC L no).1).map (Value.int .i64))::.blk b5 (.cells (cx (rD L L1 no) fu dv) 42)::.blk b4 (.cells (#[a8]) 24)::.blk b2 (.cells (#[vq]) 24)::E9) _:=s
      refine ac h (ai aR (h.ev rfl)) rfl ?_;intro f h
      exact ah ⟨_,bi 72 rfl (h.holds 72 _ rfl),rfl,s⟩
     ·intro f9 w2 vl18 E9 hs9 hd9 hl hF s
      have e72:f9.tmps.getD 72 undef=.pointer (some ⟨b5,0,none⟩):=(br hl 72 4 (by kernel_rfl) (by kernel_rfl)).trans (hF 4 (by decide))
      have h:=ay [(72,.pointer (some ⟨b5,0,none⟩))] (hs9.trans h.size) (hd9.trans h.defers) (holds_lk ⟨e72,trivial⟩)
      replace s:St w (.sl vq 42 68 L2.length (aD L2)::.sl fu 28 33 (dx (rA L no) (rC L L1 no)).length (ap (dx (rA L no) (rC L L1 no)))::.blk b9 (.cells (cx (rC L L1 no) (rB L L1 no).2.1 (rB L L1 no).2.2) 42)::.sl vp 42 68 L1.length (aD L1)::.sl du 28 33 (rA L no).sc.length (ap (rA L no).sc)::.sl dv 28 33 (rA L no).fg.length (ap (rA L no).fg)::.sl v16 28 33 (aE (bC L no).1).length (ap (aE (bC L no).1))::.sl vb 3 1 (dJ (aM L) (bC L no).1).length ((dJ (aM L) (bC L no).1).map (Value.int .i64))::.blk b5 (.cells (cx (rD L L1 no) fu dv) 42)::.blk b4 (.cells (#[a8]) 24)::.blk b2 (.cells (#[vq]) 24)::E9) _:=s
      refine aB (aU.subL (aU.of_own s 8 rfl) 0 33 (D:=aw (rD L L1 no).me) (bT _ _ _ _)) h aL rfl (ak _) rfl ?_;intro f h
      exact ah ⟨_,bi 73 rfl (h.holds 73 _ rfl),rfl,s⟩
     ·intro f9 w2 vl18 E9 hs9 hd9 hl hF s
      have e71:f9.tmps.getD 71 undef=.agg (qS (rE L L1 L2 no)):=(br hl 71 3 (by kernel_rfl) (by kernel_rfl)).trans (hF 3 (by decide))
      have e73:f9.tmps.getD 73 undef=.agg (aw (rD L L1 no).me):=(br hl 73 5 (by kernel_rfl) (by kernel_rfl)).trans (hF 5 (by decide))
      have h:=ay [(71,.agg (qS (rE L L1 L2 no))),(73,.agg (aw (rD L L1 no).me))] (hs9.trans h.size) (hd9.trans h.defers) (holds_lk ⟨e71,e73,trivial⟩)
      replace s:St w (.sl vq 42 68 L2.length (aD L2)::.sl fu 28 33 (dx (rA L no) (rC L L1 no)).length (ap (dx (rA L no) (rC L L1 no)))::.blk b9 (.cells (cx (rC L L1 no) (rB L L1 no).2.1 (rB L L1 no).2.2) 42)::.sl vp 42 68 L1.length (aD L1)::.sl du 28 33 (rA L no).sc.length (ap (rA L no).sc)::.sl dv 28 33 (rA L no).fg.length (ap (rA L no).fg)::.sl v16 28 33 (aE (bC L no).1).length (ap (aE (bC L no).1))::.sl vb 3 1 (dJ (aM L) (bC L no).1).length ((dJ (aM L) (bC L no).1).map (Value.int .i64))::.blk b5 (.cells (cx (rD L L1 no) fu dv) 42)::.blk b4 (.cells (#[a8]) 24)::.blk b2 (.cells (#[vq]) 24)::E9) _:=s
      refine aH h s AP (lC (rE L L1 L2 no).1 (rE L L1 L2 no).2.1 (rE L L1 L2 no).2.2 (rD L L1 no).me _ (dy (⟨bq.of_own (s.getSl 0 rfl),(by rw [hL2];exact ck (by rw [hL1];exact ck (fun y hy=>(hO.2 y hy).keep s.ext) ⟨bq.of_own (s.getSl 4 rfl),bq.of_own (s.getSl 5 rfl)⟩) ⟨bq.of_own (s.getSl 1 rfl),bq.of_own (s.getSl 5 rfl)⟩)⟩:dN _ vq L2).2 (rY L L1 no)).1 (dy (⟨bq.of_own (s.getSl 0 rfl),(by rw [hL2];exact ck (by rw [hL1];exact ck (fun y hy=>(hO.2 y hy).keep s.ext) ⟨bq.of_own (s.getSl 4 rfl),bq.of_own (s.getSl 5 rfl)⟩) ⟨bq.of_own (s.getSl 1 rfl),bq.of_own (s.getSl 5 rfl)⟩)⟩:dN _ vq L2).2 (rY L L1 no)).2) rfl rfl ?_;intro f w1 v9 hT hE h s;obtain rfl:=hT
      exact ah ⟨_,bi 74 rfl (h.holds 74 _ rfl),rfl,s⟩
     ·intro f9 w2 vl18 E9 hs9 hd9 hl hF s
      have e68:f9.tmps.getD 68 undef=.agg (#[vq]):=(br hl 68 0 (by kernel_rfl) (by kernel_rfl)).trans (hF 0 (by decide))
      have e74:f9.tmps.getD 74 undef=.agg (aC (rE L L1 L2 no).1.me (gN (rE L L1 L2 no).1 (rD L L1 no).me) (rE L L1 L2 no).2.1 (rE L L1 L2 no).2.2):=(br hl 74 6 (by kernel_rfl) (by kernel_rfl)).trans (hF 6 (by decide))
      have h:=ay [(68,.agg (#[vq])),(74,.agg (aC (rE L L1 L2 no).1.me (gN (rE L L1 L2 no).1 (rD L L1 no).me) (rE L L1 L2 no).2.1 (rE L L1 L2 no).2.2))] (hs9.trans h.size) (hd9.trans h.defers) (holds_lk ⟨e68,e74,trivial⟩)
      replace s:St w (.sl vq 42 68 L2.length (aD L2)::.sl fu 28 33 (dx (rA L no) (rC L L1 no)).length (ap (dx (rA L no) (rC L L1 no)))::.blk b9 (.cells (cx (rC L L1 no) (rB L L1 no).2.1 (rB L L1 no).2.2) 42)::.sl vp 42 68 L1.length (aD L1)::.sl du 28 33 (rA L no).sc.length (ap (rA L no).sc)::.sl dv 28 33 (rA L no).fg.length (ap (rA L no).fg)::.sl v16 28 33 (aE (bC L no).1).length (ap (aE (bC L no).1))::.sl vb 3 1 (dJ (aM L) (bC L no).1).length ((dJ (aM L) (bC L no).1).map (Value.int .i64))::.blk b5 (.cells (cx (rD L L1 no) fu dv) 42)::.blk b4 (.cells (#[a8]) 24)::.blk b2 (.cells (#[vq]) 24)::E9) _:=s
      refine aH h s qx (iv L2 vq ((rF L L1 L2 no),(rE L L1 L2 no).2.1,(rE L L1 L2 no).2.2) _ (⟨bq.of_own (s.getSl 0 rfl),(by rw [hL2];exact ck (by rw [hL1];exact ck (fun y hy=>(hO.2 y hy).keep s.ext) ⟨bq.of_own (s.getSl 4 rfl),bq.of_own (s.getSl 5 rfl)⟩) ⟨bq.of_own (s.getSl 1 rfl),bq.of_own (s.getSl 5 rfl)⟩)⟩:dN _ vq L2) (by omega) ⟨(dy (⟨bq.of_own (s.getSl 0 rfl),(by rw [hL2];exact ck (by rw [hL1];exact ck (fun y hy=>(hO.2 y hy).keep s.ext) ⟨bq.of_own (s.getSl 4 rfl),bq.of_own (s.getSl 5 rfl)⟩) ⟨bq.of_own (s.getSl 1 rfl),bq.of_own (s.getSl 5 rfl)⟩)⟩:dN _ vq L2).2 (rY L L1 no)).1,(dy (⟨bq.of_own (s.getSl 0 rfl),(by rw [hL2];exact ck (by rw [hL1];exact ck (fun y hy=>(hO.2 y hy).keep s.ext) ⟨bq.of_own (s.getSl 4 rfl),bq.of_own (s.getSl 5 rfl)⟩) ⟨bq.of_own (s.getSl 1 rfl),bq.of_own (s.getSl 5 rfl)⟩)⟩:dN _ vq L2).2 (rY L L1 no)).2⟩) rfl rfl ?_;rintro f w1 v75 ⟨vr,hv9,hOw⟩ hE h sq;replace s:=s.sl_new hE hOw
      have h0v:vr=wh v75:=by rw [hv9];exact(xX (bq.of_own hOw)).symm
      clear hOw
      subst h0v
      exact ah ⟨_,bi 75 rfl (h.holds 75 _ rfl),hv9,s⟩
     intro f w1 vl18 hs9 hd9 hv hr hF s
     replace hv:=fun i d h9=>hv i d (show Nat.blt i 8=true from h9)
     replace h:=nf 8 (ops:=_) [(68,.agg (#[vq])),(69,.agg (#[vq])),(70,.int .i64 (rY L L1 no)),(71,.agg (qS (rE L L1 L2 no))),(72,.pointer (some ⟨b5,0,none⟩)),(73,.agg (aw (rD L L1 no).me)),(74,.agg (aC (rE L L1 L2 no).1.me (gN (rE L L1 L2 no).1 (rD L L1 no).me) (rE L L1 L2 no).2.1 (rE L L1 L2 no).2.2)),(75,.agg #[(wh (vl18 7))])] h hs9 hd9 hr ⟨(hv 0 68 rfl rfl).trans (hF 0 (by kernel_rfl)),(hv 1 69 rfl rfl).trans (hF 1 (by kernel_rfl)),(hv 2 70 rfl rfl).trans (hF 2 (by kernel_rfl)),(hv 3 71 rfl rfl).trans (hF 3 (by kernel_rfl)),(hv 4 72 rfl rfl).trans (hF 4 (by kernel_rfl)),(hv 5 73 rfl rfl).trans (hF 5 (by kernel_rfl)),(hv 6 74 rfl rfl).trans (hF 6 (by kernel_rfl)),(hv 7 75 rfl rfl).trans (hF 7 (by kernel_rfl)),trivial⟩ (by kernel_rfl)
     replace s:St w [.sl (wh (vl18 7)) 42 68 (ec L2 ((rF L L1 L2 no),(rE L L1 L2 no).2.1,(rE L L1 L2 no).2.2)).length (aD (ec L2 ((rF L L1 L2 no),(rE L L1 L2 no).2.1,(rE L L1 L2 no).2.2))),.sl vq 42 68 L2.length (aD L2),.sl fu 28 33 (dx (rA L no) (rC L L1 no)).length (ap (dx (rA L no) (rC L L1 no))),.blk b9 (.cells (cx (rC L L1 no) (rB L L1 no).2.1 (rB L L1 no).2.2) 42),.sl vp 42 68 L1.length (aD L1),.sl du 28 33 (rA L no).sc.length (ap (rA L no).sc),.sl dv 28 33 (rA L no).fg.length (ap (rA L no).fg),.sl v16 28 33 (aE (bC L no).1).length (ap (aE (bC L no).1)),.sl vb 3 1 (dJ (aM L) (bC L no).1).length ((dJ (aM L) (bC L no).1).map (Value.int .i64)),.blk b5 (.cells (cx (rD L L1 no) fu dv) 42),.blk b4 (.cells (#[a8]) 24),.blk b2 (.cells (#[vq]) 24)] _:=s
     refine ax 11 h s a6 rfl rfl rfl (rfl) (rfl) (cn (aX (s.getSl 0 rfl))) ?_;intro w1 s
     refine ah ?_
     refine hK26 _ _ ?_
     refine al fun K29 hK29=>?_
     refine ae ?_
     refine ar 11 h s a6 rfl rfl (rfl) rfl ?_;intro f h
     refine ax 10 h s a6 rfl rfl rfl (rfl) (rfl) (cn (aX (s.getSl 0 rfl))) ?_;intro w1 s
     refine ah ?_
     refine hK29 _ _ ?_
     refine wpIn_ret ?_
     exact c8 10 rfl h s a6 rfl rfl (rfl) (tN (by rw [kl L no hL1 hL2,p1,fF,← gZ];rfl) (fun w9 hv ha hb9 hc9 hR=>⟨hv,by have hx9:∀ x∈L2,jX w9 x:=(by rw [hL2];exact ck (by rw [hL1];exact ck hR ⟨ha,hb9⟩) ⟨hc9,hb9⟩);exact ck hx9 ⟨(dy hx9 (rY L L1 no)).1,(dy hx9 (rY L L1 no)).2⟩⟩) (s.sel [0,5,6,2] rfl (by decide)))
set_option maxHeartbeats 1000000 in
theorem ua (L:List N3) (vo:Value) (w:World) (hO:dN w vo L) (hL:L.length≤40) (hrs:RS L):Calls Tryz.prog 26 [.agg #[vo]].toArray w (cU w (yi w (fun w9=>dN w9 vo L) (gU (nds L)))):=by
 have hl16:=hrs.len
 have hml:(aM L).length=L.length:=List.length_map _
 refine bp Tryz.func26 rfl Tryz.ntmps26 rfl [(0,.agg #[vo])] (by simp) fun f h=>?_
 have s:=St.start w
 refine al fun K1 hK1=>?_
 refine ae ?_
 refine bV (#[vo]) h s rfl rfl rfl ?_;intro f w1 b1 h s
 refine bj (#[a8]) h s eY rfl rfl ?_;intro f w1 b2 h s
 refine ah ?_
 refine hK1 _ _ ?_
 refine al fun K2 hK2=>?_
 refine al fun K3 hK3=>?_
 refine ae ?_
 refine ar 1 h s a6 rfl rfl (rfl) rfl ?_;intro f h
 refine aH h s sG (ge L vo _ (hO.keep s.ext) hL) rfl rfl ?_;intro f w1 v6 hT hE h sq;replace s:=s.sl_new hE hT
 replace s:=s.grp0 (S:=fun w9=>dN w9 vo L→dN w9 vo L) (fun _ h=>h)
 refine cK 1 h s Tryz.underlying36 rfl rfl rfl ?_;intro f h
 refine ac h (ag (h.ev rfl)) rfl ?_;intro f h
 refine ah ?_
 refine hK3 _ _ ?_
 refine wpIn_block ?_
 refine wpIn_loop_ghost (fun nn aa ww=>∃ k:Nat,∃ vc:Value,∃ Lc:List N3,∃ kc:List Nat,Sl 18 aa [(0,.agg #[vo]),(1,.pointer (some ⟨b1,0,none⟩)),(2,.pointer (some ⟨b2,0,none⟩)),(6,v6),(7,.int .i64 ((aM L).length:Int)),(8,.int .i64 (k:Int))]∧St w [(.grp kc (fun w9=>dN w9 vo L→dN w9 vc Lc)),.sl v6 28 33 (aM L).length (ap (aM L)),.blk b2 (.cells (#[a8]) 24),.blk b1 (.cells (#[vc]) 24)] ww∧nn=(aM L).length - k∧k≤(aM L).length∧RS Lc∧aM Lc=aM L∧nds Lc=lK (nds L) k) ((aM L).length - (0)) ⟨0,vo,L,[],h.only ⟨rfl,rfl,rfl,rfl,rfl,aQ rfl (by omega),trivial⟩,s.as ⟨rfl,rfl,rfl,rfl,trivial⟩,rfl,Nat.zero_le _,hrs,rfl,rfl⟩ ?_
 rintro _ f w1 ⟨k,vc,Lc,kc,h,s,hnn,hp0,hp1,hp2,hp3⟩
 refine al fun K4 hK4=>?_
 refine ae ?_
 refine ac h (bN (h.ev rfl) (h.ev rfl)) rfl ?_;intro f h
 refine ah ?_
 refine hK4 _ _ ?_
 refine al fun K5 hK5=>?_
 refine bM h rfl (fun hc=>?_) (fun hc=>?_)
 ·replace hc:=of_decide_eq_true hc
  refine wpIn_skip ?_
  refine hK5 _ _ ?_
  refine al fun K6 hK6=>?_
  refine wpIn_block ?_
  refine al fun K7 hK7=>?_
  refine ae ?_
  have hkl:k<(aM L).length:=by omega
  have hcl:Lc.length=L.length:=by have h9:=congrArg List.length hp2;simpa [aM] using h9
  refine ac h (bZ (bq.of_own (s.getSl 1 rfl)) (k) Tryz.underlying36 cz (h.ev rfl) (h.ev rfl) (by omega) (by omega)) rfl ?_;intro f h
  refine aB ((bq.of_own (s.getSl 1 rfl)).el (k) (by omega) (by decide) (D:=aw ((aM L).getD k aT)) (cL (aM L) k hkl)) h aL rfl (ak _) rfl ?_;intro f h
  refine bj (aw aT) h s cB rfl rfl ?_;intro f w1 b4 h s
  refine ax 0 h s aL rfl rfl rfl (ak _) (ak _) (aS _) ?_;intro w1 s
  refine ah ?_
  refine hK7 _ _ ?_
  refine ae ?_
  refine ar 4 h s a6 rfl rfl (rfl) rfl ?_;intro f h
  refine ac h (ai aJ (h.ev rfl)) rfl ?_;intro f h
  refine au (am (aU.of_own s 0 rfl) 0 (aP _)) h bz rfl rfl ?_;intro f h
  refine aH h s AC (qI Lc vc ((aM L).getD k aT).1 _ ((s.getG 1 rfl) (hO.keep s.ext)) (by omega) hp1.rb hp1 (by rw [hp2];exact(fj hrs.nos).2 ⟨_,eA hkl,rfl⟩)) rfl rfl ?_;rintro f w1 v15 ⟨vn,Ln,kn,rfl,hnd,hG⟩ hE h sq;replace s:=s.add hG;clear hG
  replace s:=s.sel [0,2,1,3,4,5] rfl (by decide)
  replace s:=s.merge (S:=fun w9=>dN w9 vo L→dN w9 vn Ln) (fun w9 h1 h2 hR=>h1 (h2 hR).2)
  obtain ⟨hq1,hq2⟩:=pd hp1 (by rw [hp2];exact(fj hrs.nos).2 ⟨_,eA hkl,rfl⟩) hnd
  refine ax 4 h s a6 rfl rfl rfl (rfl) (rfl) (cn (co (((s.getG 0 rfl) (hO.keep s.ext)).1))) ?_;intro w1 s
  refine ah ?_
  refine bF ?_
  refine hK6 _ _ ?_
  refine ae ?_
  refine ac h (cf (h.ev rfl) (h.ev rfl) (by omega)) rfl ?_;intro f h
  refine ac h (ag (h.ev rfl)) rfl ?_;intro f h
  refine ah ?_
  refine bQ ?_
  exact ⟨_,by omega,⟨k+1,vn,Ln,kn++kc,h.only ⟨rfl,rfl,rfl,rfl,rfl,aQ rfl (by omega),trivial⟩,St.as (s.pick _ (List.Sublist.cons_cons _ (List.Sublist.cons _ (List.Sublist.cons_cons _ (List.Sublist.cons_cons _ (List.Sublist.cons_cons _ (List.nil_sublist _))))))) ⟨rfl,rfl,rfl,rfl,trivial⟩,rfl,by omega,hq1,hq2.trans hp2,by rw [hnd,hp3,kN hkl]⟩⟩
 ·replace hc:=of_decide_eq_false hc
  refine wpIn_exit ?_
  refine bJ ?_
  refine bJ ?_
  refine cC ?_
  refine hK2 _ _ ?_
  refine al fun K8 hK8=>?_
  refine ae ?_
  refine ar 3 h s a6 rfl rfl (rfl) rfl ?_;intro f h
  refine ax 2 h s a6 rfl rfl rfl (rfl) (rfl) (cn (co (((s.getG 0 rfl) (hO.keep s.ext)).1))) ?_;intro w1 s
  refine ah ?_
  refine hK8 _ _ ?_
  refine wpIn_ret ?_
  exact c8 2 rfl h s a6 rfl rfl (rfl) (⟨vc,Lc,kc,rfl,hp3.trans (mG (by omega)),(s.sel [0] rfl (by decide))⟩)
end Go.Proofs.YthggibfkgofncaaGreat
