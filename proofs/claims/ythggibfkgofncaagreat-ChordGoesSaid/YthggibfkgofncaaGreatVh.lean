/- What Leave of the reference of chord answers. -/
import Derived.Test.YthggibfkgofncaaGreatVe
set_option linter.unusedVariables false
set_option linter.unusedSimpArgs false
set_option linter.unusedSectionVars false
namespace Go.Proofs.YthggibfkgofncaaGreat
open Go.RowKit
set_option maxHeartbeats 1000000 in
theorem eC (l:List Mb) (vh:Value) (nos:List Int) (vn:Value) (no:Int) (w:World) (hR:bX w vh 33 l.length (ar l)) (hln:l.length≤1000) (hN:bX w vn 1 nos.length (nos.map (Value.int .i64))) (hnn:nos.length≤1000):Calls Tryz.prog 92 [vh,vn,.int .i64 no].toArray w (cU w (fun v w'=>cS w' w.heap.size 28 33 v (cK l nos no).length (ar (cK l nos no)))):=by
 refine bq Tryz.func92 rfl Tryz.ntmps92 rfl [(0,vh),(1,vn),(2,.int .i64 no)] (by simp) fun f h=>?_
 have s:=St.start w
 refine al fun K1 hK1=>?_
 refine ae ?_
 refine ac h (ak (h.ev rfl)) rfl ?_;intro f h
 refine ah ?_
 refine hK1 _ _ ?_
 refine al fun K2 hK2=>?_
 refine ae ?_
 refine cm (vs:=[]) [] h s Tryz.underlying36 c8 rfl rfl (by simp) rfl rfl rfl ?_;intro f w1 v13 h s
 replace s:=s.resl (m:=(cK (l.take 0) nos no).length) (ys:=ar (cK (l.take 0) nos no)) 0 rfl rfl rfl
 refine ac h (ak (h.ev rfl)) rfl ?_;intro f h
 refine ah ?_
 refine hK2 _ _ ?_
 refine al fun K3 hK3=>?_
 refine al fun K4 hK4=>?_
 refine ae ?_
 refine ac h (ag (h.ev rfl)) rfl ?_;intro f h
 refine ac h (a8 (hR.keep s.ext) Tryz.underlying36 (h.ev rfl)) rfl ?_;intro f h
 refine ac h (ag (h.ev rfl)) rfl ?_;intro f h
 refine ah ?_
 refine hK4 _ _ ?_
 refine wpIn_block ?_
 refine wpIn_loop_ghost (fun nn aa ww=>∃ k:Nat,∃ vb:Value,Sl 47 aa [(0,vh),(1,vn),(2,.int .i64 no),(7,vb),(14,vh),(15,.int .i64 (l.length:Int)),(16,.int .i64 (k:Int))]∧St w [.sl vb 28 33 (cK (l.take k) nos no).length (ar (cK (l.take k) nos no))] ww∧nn=l.length - k∧k≤l.length) (l.length - (0)) ⟨0,v13,h.only ⟨rfl,rfl,rfl,rfl,rfl,rfl,aO rfl (by omega),trivial⟩,s.as ⟨rfl,trivial⟩,rfl,Nat.zero_le _⟩ ?_
 rintro _ f w1 ⟨k,vb,h,s,hnn,hp0⟩
 have hwl:=jP (l.take k) nos no
 rw [List.length_take] at hwl
 refine al fun K5 hK5=>?_
 refine ae ?_
 refine ac h (bS (h.ev rfl) (h.ev rfl)) rfl ?_;intro f h
 refine ah ?_
 refine hK5 _ _ ?_
 refine al fun K6 hK6=>?_
 refine bK h rfl (fun hc=>?_) (fun hc=>?_)
 ·replace hc:=of_decide_eq_true hc
  refine wpIn_skip ?_
  refine hK6 _ _ ?_
  refine al fun K7 hK7=>?_
  refine wpIn_block ?_
  refine al fun K8 hK8=>?_
  refine ae ?_
  have hkl:k<l.length:=by omega
  refine ac h (cc (hR.keep s.ext) (k) Tryz.underlying36 cD (h.ev rfl) (h.ev rfl) (by omega) (by omega)) rfl ?_;intro f h
  refine ax ((hR.keep s.ext).el (k) (by omega) (by decide) (D:=av (l.getD k aZ)) (cI l k hkl)) h aC rfl (aj _) rfl ?_;intro f h
  refine bf (av aZ) h s cB rfl rfl ?_;intro f w1 b9 h s
  refine az 0 h s aC rfl rfl rfl (aj _) (aj _) (aS _) ?_;intro w1 s
  refine ah ?_
  refine hK8 _ _ ?_
  refine al fun K9 hK9=>?_
  refine ae ?_
  refine ac h (ak (h.ev rfl)) rfl ?_;intro f h
  refine ah ?_
  refine hK9 _ _ ?_
  refine al fun K10 hK10=>?_
  refine al fun K11 hK11=>?_
  refine ae ?_
  refine ac h (ag (h.ev rfl)) rfl ?_;intro f h
  refine ac h (a8 (hN.keep s.ext) Tryz.underlying78 (h.ev rfl)) rfl ?_;intro f h
  refine ac h (ag (h.ev rfl)) rfl ?_;intro f h
  refine ah ?_
  refine hK11 _ _ ?_
  refine wpIn_block ?_
  refine wpIn_loop_ghost (fun nn aa ww=>∃ j:Nat,Sl 47 aa [(0,vh),(1,vn),(2,.int .i64 no),(9,.pointer (some ⟨b9,0,none⟩)),(7,vb),(10,.bool (fK nos (xu no (l.getD k aZ)) j)),(14,vh),(15,.int .i64 (l.length:Int)),(16,.int .i64 (k:Int)),(20,vn),(21,.int .i64 (nos.length:Int)),(22,.int .i64 (j:Int))]∧St w [.blk b9 (.cells (av (l.getD k aZ)) 28),.sl vb 28 33 (cK (l.take k) nos no).length (ar (cK (l.take k) nos no))] ww∧nn=nos.length - j∧j≤nos.length) (nos.length - (0)) ⟨0,h.only ⟨rfl,rfl,rfl,rfl,rfl,rfl,rfl,rfl,rfl,rfl,rfl,aO rfl (by omega),trivial⟩,s.as ⟨rfl,rfl,trivial⟩,rfl,Nat.zero_le _⟩ ?_
  rintro _ f w1 ⟨j,h,s,hnn,hp0⟩
  refine al fun K12 hK12=>?_
  refine ae ?_
  refine ac h (bS (h.ev rfl) (h.ev rfl)) rfl ?_;intro f h
  refine ah ?_
  refine hK12 _ _ ?_
  refine al fun K13 hK13=>?_
  refine bK h rfl (fun hc=>?_) (fun hc=>?_)
  ·replace hc:=of_decide_eq_true hc
   refine wpIn_skip ?_
   refine hK13 _ _ ?_
   refine al fun K14 hK14=>?_
   refine wpIn_block ?_
   refine al fun K15 hK15=>?_
   refine ae ?_
   have hjl:j<nos.length:=by omega
   refine ac h (cc (hN.keep s.ext) (j) Tryz.underlying78 BW (h.ev rfl) (h.ev rfl) (by omega) (by omega)) rfl ?_;intro f h
   refine aq ((hN.keep s.ext).el1 (j) (V:=.int .i64 (nos.getD j 0)) (zY nos j hjl)) h bw rfl rfl ?_;intro f h
   refine ac h (ak (h.ev rfl)) rfl ?_;intro f h
   refine ah ?_
   refine hK15 _ _ ?_
   cases d0:((fK nos (xu no (l.getD k aZ)) j):Bool)
   ·skip
    cases d1:(decide (nos.getD j 0=(l.getD k aZ).1):Bool)
    ·skip
     refine ae ?_
     refine ac h (ag (h.ev rfl)) rfl ?_;intro f h
     refine ac h (aw (.bool false) (ag (h.ev rfl)) (congrArg Value.bool d0)) rfl ?_;intro f h
     refine aA h rfl rfl rfl ?_
     refine ac h (ag (h.ev rfl)) rfl ?_;intro f h
     refine aA h rfl rfl rfl ?_
     refine ac h (ai aH (h.ev rfl)) rfl ?_;intro f h
     refine aA h rfl rfl rfl ?_
     refine aq (am (aL.of_own s 0 rfl) 0 (aP _)) h bw rfl rfl ?_;intro f h
     refine aA h rfl rfl rfl ?_
     refine ac h (aw (.bool false) (bU (h.ev rfl) (h.ev rfl)) (congrArg Value.bool d1)) rfl ?_;intro f h
     refine aA h rfl rfl rfl ?_
     refine ac h (ag (h.ev rfl)) rfl ?_;intro f h
     refine aB (b:=true) h rfl rfl rfl rfl ?_;intro f h
     refine aB (b:=true) h rfl rfl rfl rfl ?_;intro f h
     refine aB (b:=true) h rfl rfl rfl rfl ?_;intro f h
     refine aA h rfl rfl rfl ?_
     refine ac h (aF (h.ev rfl) (h.ev rfl)) rfl ?_;intro f h
     refine ac h (aF (h.ev rfl) (h.ev rfl)) rfl ?_;intro f h
     refine ac h (ak (h.ev rfl)) rfl ?_;intro f h
     refine ah ?_
     refine bF ?_
     refine hK14 _ _ ?_
     refine ae ?_
     refine ac h (ce (h.ev rfl) (h.ev rfl) (by omega)) rfl ?_;intro f h
     refine ac h (ag (h.ev rfl)) rfl ?_;intro f h
     refine ah ?_
     refine bT ?_
     exact ⟨_,by omega,⟨j+1,h.only ⟨rfl,rfl,rfl,rfl,rfl,congrArg (fun b=>some (Value.bool b)) (DW hjl d0 d1).symm,rfl,rfl,rfl,rfl,rfl,aO rfl (by omega),trivial⟩,St.as s ⟨rfl,rfl,trivial⟩,rfl,by omega⟩⟩
    ·skip
     cases d2:(decide (nos.getD j 0≠no):Bool)
     ·skip
      refine ae ?_
      refine ac h (ag (h.ev rfl)) rfl ?_;intro f h
      refine ac h (aw (.bool false) (ag (h.ev rfl)) (congrArg Value.bool d0)) rfl ?_;intro f h
      refine aA h rfl rfl rfl ?_
      refine ac h (ag (h.ev rfl)) rfl ?_;intro f h
      refine aA h rfl rfl rfl ?_
      refine ac h (ai aH (h.ev rfl)) rfl ?_;intro f h
      refine aA h rfl rfl rfl ?_
      refine aq (am (aL.of_own s 0 rfl) 0 (aP _)) h bw rfl rfl ?_;intro f h
      refine aA h rfl rfl rfl ?_
      refine ac h (aw (.bool true) (bU (h.ev rfl) (h.ev rfl)) (congrArg Value.bool d1)) rfl ?_;intro f h
      refine aA h rfl rfl rfl ?_
      refine ac h (ag (h.ev rfl)) rfl ?_;intro f h
      refine aA h rfl rfl rfl ?_
      refine ac h (ag (h.ev rfl)) rfl ?_;intro f h
      refine aA h rfl rfl rfl ?_
      refine ac h (ag (h.ev rfl)) rfl ?_;intro f h
      refine aA h rfl rfl rfl ?_
      refine ac h (aw (.bool false) (cy (h.ev rfl) (h.ev rfl)) (congrArg Value.bool d2)) rfl ?_;intro f h
      refine aA h rfl rfl rfl ?_
      refine ac h (aD (h.ev rfl) (h.ev rfl)) rfl ?_;intro f h
      refine ac h (aF (h.ev rfl) (h.ev rfl)) rfl ?_;intro f h
      refine ac h (ak (h.ev rfl)) rfl ?_;intro f h
      refine ah ?_
      refine bF ?_
      refine hK14 _ _ ?_
      refine ae ?_
      refine ac h (ce (h.ev rfl) (h.ev rfl) (by omega)) rfl ?_;intro f h
      refine ac h (ag (h.ev rfl)) rfl ?_;intro f h
      refine ah ?_
      refine bT ?_
      exact ⟨_,by omega,⟨j+1,h.only ⟨rfl,rfl,rfl,rfl,rfl,congrArg (fun b=>some (Value.bool b)) (DE hjl d0 d2).symm,rfl,rfl,rfl,rfl,rfl,aO rfl (by omega),trivial⟩,St.as s ⟨rfl,rfl,trivial⟩,rfl,by omega⟩⟩
     ·skip
      refine ae ?_
      refine ac h (ag (h.ev rfl)) rfl ?_;intro f h
      refine ac h (aw (.bool false) (ag (h.ev rfl)) (congrArg Value.bool d0)) rfl ?_;intro f h
      refine aA h rfl rfl rfl ?_
      refine ac h (ag (h.ev rfl)) rfl ?_;intro f h
      refine aA h rfl rfl rfl ?_
      refine ac h (ai aH (h.ev rfl)) rfl ?_;intro f h
      refine aA h rfl rfl rfl ?_
      refine aq (am (aL.of_own s 0 rfl) 0 (aP _)) h bw rfl rfl ?_;intro f h
      refine aA h rfl rfl rfl ?_
      refine ac h (aw (.bool true) (bU (h.ev rfl) (h.ev rfl)) (congrArg Value.bool d1)) rfl ?_;intro f h
      refine aA h rfl rfl rfl ?_
      refine ac h (ag (h.ev rfl)) rfl ?_;intro f h
      refine aA h rfl rfl rfl ?_
      refine ac h (ag (h.ev rfl)) rfl ?_;intro f h
      refine aA h rfl rfl rfl ?_
      refine ac h (ag (h.ev rfl)) rfl ?_;intro f h
      refine aA h rfl rfl rfl ?_
      refine ac h (aw (.bool true) (cy (h.ev rfl) (h.ev rfl)) (congrArg Value.bool d2)) rfl ?_;intro f h
      refine aA h rfl rfl rfl ?_
      refine ac h (aD (h.ev rfl) (h.ev rfl)) rfl ?_;intro f h
      refine ac h (aF (h.ev rfl) (h.ev rfl)) rfl ?_;intro f h
      refine ac h (ak (h.ev rfl)) rfl ?_;intro f h
      refine ah ?_
      refine bF ?_
      refine hK14 _ _ ?_
      refine ae ?_
      refine ac h (ce (h.ev rfl) (h.ev rfl) (by omega)) rfl ?_;intro f h
      refine ac h (ag (h.ev rfl)) rfl ?_;intro f h
      refine ah ?_
      refine bT ?_
      exact ⟨_,by omega,⟨j+1,h.only ⟨rfl,rfl,rfl,rfl,rfl,congrArg (fun b=>some (Value.bool b)) (Dr hjl d1 d2).symm,rfl,rfl,rfl,rfl,rfl,aO rfl (by omega),trivial⟩,St.as s ⟨rfl,rfl,trivial⟩,rfl,by omega⟩⟩
   ·skip
    refine ae ?_
    refine ac h (ag (h.ev rfl)) rfl ?_;intro f h
    refine ac h (aw (.bool true) (ag (h.ev rfl)) (congrArg Value.bool d0)) rfl ?_;intro f h
    refine aB (b:=false) h rfl rfl rfl rfl ?_;intro f h
    refine aB (b:=false) h rfl rfl rfl rfl ?_;intro f h
    refine aB (b:=false) h rfl rfl rfl rfl ?_;intro f h
    refine aB (b:=false) h rfl rfl rfl rfl ?_;intro f h
    refine aB (b:=false) h rfl rfl rfl rfl ?_;intro f h
    refine dp h rfl rfl rfl rfl ?_;intro f h
    refine dp h rfl rfl rfl rfl ?_;intro f h
    refine dp h rfl rfl rfl rfl ?_;intro f h
    refine aB (b:=false) h rfl rfl rfl rfl ?_;intro f h
    refine ac h (aD (h.ev rfl) (h.ev rfl)) rfl ?_;intro f h
    refine ac h (ak (h.ev rfl)) rfl ?_;intro f h
    refine ah ?_
    refine bF ?_
    refine hK14 _ _ ?_
    refine ae ?_
    refine ac h (ce (h.ev rfl) (h.ev rfl) (by omega)) rfl ?_;intro f h
    refine ac h (ag (h.ev rfl)) rfl ?_;intro f h
    refine ah ?_
    refine bT ?_
    exact ⟨_,by omega,⟨j+1,h.only ⟨rfl,rfl,rfl,rfl,rfl,congrArg (fun b=>some (Value.bool b)) (Dq hjl d0).symm,rfl,rfl,rfl,rfl,rfl,aO rfl (by omega),trivial⟩,St.as s ⟨rfl,rfl,trivial⟩,rfl,by omega⟩⟩
  ·replace hc:=of_decide_eq_false hc
   refine wpIn_exit ?_
   refine bJ ?_
   refine bJ ?_
   refine cC ?_
   refine hK10 _ _ ?_
   refine al fun K16 hK16=>?_
   cases hgr:(ij nos no (l.getD k aZ):Bool)
   ·skip
    refine ae ?_
    have hje:=wl (no:=no) (x:=(l.getD k aZ)) (show j=nos.length by omega)
    refine ac h (aw (.bool false) (ag (h.ev rfl)) (congrArg Value.bool (hje.trans hgr))) rfl ?_;intro f h
    refine ac h (aw (.bool true) (bB (h.ev rfl)) rfl) rfl ?_;intro f h
    refine ah ?_
    refine hK16 _ _ ?_
    refine wpIn_cond_true (h.ev rfl) ?_
    refine ae ?_
    refine ac h (ag (h.ev rfl)) rfl ?_;intro f h
    refine au 0 h s aC rfl rfl (aj _) rfl ?_;intro f h
    refine cm (vs:=[.agg (av (l.getD k aZ))]) [.tmp 42] h s Tryz.underlying36 c8 rfl rfl (eI _) rfl rfl rfl ?_;intro f w1 v43 h s
    refine dP 2 0 h s Tryz.underlying36 c8 rfl rfl rfl rfl (by decide) (by rw [dh];exact aS _) (by unfold maxLen;omega) (by omega) rfl ?_;intro f w1 v44 h s
    replace s:=s.pick _ (List.sublist_cons_self _ _)
    replace s:=s.resl (m:=(cK (l.take (k+1)) nos no).length) (ys:=ar (cK (l.take (k+1)) nos no)) 1 rfl (by rw [rd hkl hgr,List.length_append];rfl) (by rw [rd hkl hgr,dh,gA])
    refine ac h (ak (h.ev rfl)) rfl ?_;intro f h
    refine ah ?_
    refine bF ?_
    refine hK7 _ _ ?_
    refine ae ?_
    refine ac h (ce (h.ev rfl) (h.ev rfl) (by omega)) rfl ?_;intro f h
    refine ac h (ag (h.ev rfl)) rfl ?_;intro f h
    refine ah ?_
    refine bT ?_
    exact ⟨_,by omega,⟨k+1,v44,h.only ⟨rfl,rfl,rfl,rfl,rfl,rfl,aO rfl (by omega),trivial⟩,St.as (s.pick _ (List.sublist_append_right [_] _)) ⟨rfl,trivial⟩,rfl,by omega⟩⟩
   ·skip
    refine ae ?_
    have hje:=wl (no:=no) (x:=(l.getD k aZ)) (show j=nos.length by omega)
    refine ac h (aw (.bool true) (ag (h.ev rfl)) (congrArg Value.bool (hje.trans hgr))) rfl ?_;intro f h
    refine ac h (aw (.bool false) (bB (h.ev rfl)) rfl) rfl ?_;intro f h
    refine ah ?_
    refine hK16 _ _ ?_
    refine wpIn_cond_false (h.ev rfl) ?_
    refine wpIn_skip ?_
    refine bF ?_
    refine hK7 _ _ ?_
    refine ae ?_
    refine ac h (ce (h.ev rfl) (h.ev rfl) (by omega)) rfl ?_;intro f h
    refine ac h (ag (h.ev rfl)) rfl ?_;intro f h
    refine ah ?_
    refine bT ?_
    exact ⟨_,by omega,⟨k+1,vb,h.only ⟨rfl,rfl,rfl,rfl,rfl,rfl,aO rfl (by omega),trivial⟩,St.as (s.pick _ (List.sublist_append_right [_] _)) ⟨gX (by rw [r7 hkl hgr]) (by rw [r7 hkl hgr]),trivial⟩,rfl,by omega⟩⟩
 ·replace hc:=of_decide_eq_false hc
  refine wpIn_exit ?_
  refine bJ ?_
  refine bJ ?_
  refine cC ?_
  refine hK3 _ _ ?_
  refine al fun K17 hK17=>?_
  refine ae ?_
  refine ac h (ag (h.ev rfl)) rfl ?_;intro f h
  refine ac h (ak (h.ev rfl)) rfl ?_;intro f h
  refine ah ?_
  refine hK17 _ _ ?_
  refine wpIn_ret ?_
  exact bo rfl h s rfl ((by obtain rfl:k=l.length:=(by omega);rw [List.take_length] at s;exact(s.getSl 0 rfl)))
set_option maxHeartbeats 1000000 in
theorem sX (n:Nd) (vs vf:Value) (nos:List Int) (vn:Value) (w:World) (hRs:bX w vs 33 n.sc.length (ar n.sc)) (hRf:bX w vf 33 n.fg.length (ar n.fg)) (hns:n.sc.length≤900) (hnf:n.fg.length≤900) (hN:bX w vn 1 nos.length (nos.map (Value.int .i64))) (hnn:nos.length≤1000):Calls Tryz.prog 59 [.agg (ay n.me n.pr vs vf),vn].toArray w (cU w (CE w 28 n.me (p4 n nos) (kK (cK n.sc nos n.me.1) n.me) (cK n.fg nos n.me.1))):=by
 have hwl:=jP n.sc nos n.me.1
 refine bq Tryz.func59 rfl Tryz.ntmps59 rfl [(0,.agg (ay n.me n.pr vs vf)),(1,vn)] (by simp) fun f h=>?_
 have s:=St.start w
 refine al fun K1 hK1=>?_
 refine ae ?_
 refine bV (ay n.me n.pr vs vf) h s rfl rfl rfl ?_;intro f w1 b2 h s
 refine bf (ay aZ aZ bp bp) h s dL rfl rfl ?_;intro f w1 b4 h s
 refine ah ?_
 refine hK1 _ _ ?_
 refine al fun K2 hK2=>?_
 refine ae ?_
 refine ac h (ai bC (h.ev rfl)) rfl ?_;intro f h
 refine aq (V:=vs) (am (aL.of_own s 1 rfl) 66 (bA _ _ _ _)) h bE rfl rfl ?_;intro f h
 refine ac h (ag (h.ev rfl)) rfl ?_;intro f h
 refine ac h (ai aK (h.ev rfl)) rfl ?_;intro f h
 refine ac h (ai aH (h.ev rfl)) rfl ?_;intro f h
 refine aq (am (aL.of_own s 1 rfl) 0 (bZ _ _ _ _)) h bw rfl rfl ?_;intro f h
 refine aI h s m3 (eC n.sc vs nos vn n.me.1 _ (hRs.keep s.ext) (by omega) (hN.keep s.ext) hnn) rfl rfl ?_;intro f w1 v11 hT hE h sq;replace s:=s.sl_new hE hT
 refine ac h (ai bC (h.ev rfl)) rfl ?_;intro f h
 refine br 2 h s bE rfl rfl rfl (by rw [ap];omega) (aQ (s.getSl 0 rfl)) ?_;intro w1 s
 replace s:=s.recell (D:=ay n.me n.pr v11 vf) 2 rfl (fo _ _ _ _ _)
 refine ah ?_
 refine hK2 _ _ ?_
 refine al fun K3 hK3=>?_
 refine ae ?_
 refine ac h (ai cP (h.ev rfl)) rfl ?_;intro f h
 refine aq (V:=vf) (am (aL.of_own s 2 rfl) 67 (cO _ _ _ _)) h bE rfl rfl ?_;intro f h
 refine ac h (ag (h.ev rfl)) rfl ?_;intro f h
 refine ac h (ai aK (h.ev rfl)) rfl ?_;intro f h
 refine ac h (ai aH (h.ev rfl)) rfl ?_;intro f h
 refine aq (am (aL.of_own s 2 rfl) 0 (bZ _ _ _ _)) h bw rfl rfl ?_;intro f h
 refine aI h s m3 (eC n.fg vf nos vn n.me.1 _ (hRf.keep s.ext) (by omega) (hN.keep s.ext) hnn) rfl rfl ?_;intro f w1 v19 hT hE h sq;replace s:=s.sl_new hE hT
 refine ac h (ai cP (h.ev rfl)) rfl ?_;intro f h
 refine br 3 h s bE rfl rfl rfl (by rw [ap];omega) (aQ (s.getSl 0 rfl)) ?_;intro w1 s
 replace s:=s.recell (D:=ay n.me n.pr v11 v19) 3 rfl (il _ _ _ _ _)
 refine ah ?_
 refine hK3 _ _ ?_
 refine al fun K4 hK4=>?_
 refine al fun K5 hK5=>?_
 refine ae ?_
 refine ac h (ai bC (h.ev rfl)) rfl ?_;intro f h
 refine aq (V:=v11) (am (aL.of_own s 3 rfl) 66 (bA _ _ _ _)) h bE rfl rfl ?_;intro f h
 refine cT 1 h s Tryz.underlying36 rfl rfl rfl ?_;intro f h
 refine ac h (bU (h.ev rfl) (h.ev rfl)) rfl ?_;intro f h
 refine ah ?_
 refine hK5 _ _ ?_
 refine bK h rfl (fun hc=>?_) (fun hc=>?_)
 ·have h0:(cK n.sc nos n.me.1).length=0:=by have:=of_decide_eq_true hc;omega
  refine ae ?_
  refine ac h (ai bC (h.ev rfl)) rfl ?_;intro f h
  refine aq (V:=v11) (am (aL.of_own s 3 rfl) 66 (bA _ _ _ _)) h bE rfl rfl ?_;intro f h
  refine ac h (ai aK (h.ev rfl)) rfl ?_;intro f h
  refine ax (aL.subL (aL.of_own s 3 rfl) 0 33 (D:=av n.me) (bj _ _ _ _)) h aC rfl (aj _) rfl ?_;intro f h
  refine cm (vs:=[.agg (av n.me)]) [.tmp 28] h s Tryz.underlying36 c8 rfl rfl (eI _) rfl rfl rfl ?_;intro f w1 v29 h s
  refine dP 2 0 h s Tryz.underlying36 c8 rfl rfl rfl rfl (by decide) (by rw [dh];exact aS _) (by unfold maxLen;omega) (by omega) rfl ?_;intro f w1 v30 h s
  replace s:=s.pick _ (List.sublist_cons_self _ _)
  replace s:=s.resl (m:=[n.me].length) (ys:=ar [n.me]) 1 rfl (by rw [h0];rfl) (by rw [List.eq_nil_of_length_eq_zero h0,dh,cQ];rfl)
  refine ac h (ai bC (h.ev rfl)) rfl ?_;intro f h
  refine br 3 h s bE rfl rfl rfl (by rw [ap];omega) (aQ (s.getSl 1 rfl)) ?_;intro w1 s
  replace s:=s.recell (D:=ay n.me n.pr v30 v19) 3 rfl (fo _ _ _ _ _)
  refine ah ?_
  refine hK4 _ _ ?_
  refine al fun K6 hK6=>?_
  refine al fun K7 hK7=>?_
  cases q0:(!decide (n.pr=dB):Bool)
  ·skip
   refine ae ?_
   refine ac h (ai aV (h.ev rfl)) rfl ?_;intro f h
   refine ax (aL.subL (aL.of_own s 3 rfl) 33 33 (D:=av n.pr) (bc _ _ _ _)) h aC rfl (aj _) rfl ?_;intro f h
   refine aI h s i9 (dY n.pr _) rfl rfl ?_;intro f w1 v9 hT hE h s;obtain rfl:=hT
   refine ac h (aw (.bool false) (bB (h.ev rfl)) (congrArg Value.bool q0)) rfl ?_;intro f h
   refine ac h (ag (h.ev rfl)) rfl ?_;intro f h
   refine aB (b:=true) h rfl rfl rfl rfl ?_;intro f h
   refine aB (b:=true) h rfl rfl rfl rfl ?_;intro f h
   refine aB (b:=true) h rfl rfl rfl rfl ?_;intro f h
   refine aB (b:=true) h rfl rfl rfl rfl ?_;intro f h
   refine aB (b:=true) h rfl rfl rfl rfl ?_;intro f h
   refine aB (b:=true) h rfl rfl rfl rfl ?_;intro f h
   refine aB (b:=true) h rfl rfl rfl rfl ?_;intro f h
   refine aB (b:=true) h rfl rfl rfl rfl ?_;intro f h
   refine aB (b:=true) h rfl rfl rfl rfl ?_;intro f h
   refine aB (b:=true) h rfl rfl rfl rfl ?_;intro f h
   refine ac h (aF (h.ev rfl) (h.ev rfl)) rfl ?_;intro f h
   refine ah ?_
   refine hK7 _ _ ?_
   refine wpIn_cond_false (h.ev rfl) ?_
   refine wpIn_skip ?_
   refine hK6 _ _ ?_
   refine al fun K8 hK8=>?_
   refine ae ?_
   refine au 3 h s aW rfl rfl (ap _ _ _ _) rfl ?_;intro f h
   refine az 2 h s aW rfl rfl rfl (ap _ _ _ _) (ap _ _ _ _) (a7 (aQ (s.getSl 1 rfl)) (aQ (s.getSl 0 rfl))) ?_;intro w1 s
   refine ah ?_
   refine hK8 _ _ ?_
   refine wpIn_ret ?_
   exact c5 2 rfl h s aW rfl rfl (ap _ _ _ _) (dy (zV q0) (pi h0) (s.sel [1,0] rfl (by decide)))
  ·skip
   cases q1:(decide ((cK [n.pr] nos n.me.1).length=0):Bool)
   ·skip
    refine ae ?_
    refine ac h (ai aV (h.ev rfl)) rfl ?_;intro f h
    refine ax (aL.subL (aL.of_own s 3 rfl) 33 33 (D:=av n.pr) (bc _ _ _ _)) h aC rfl (aj _) rfl ?_;intro f h
    refine aI h s i9 (dY n.pr _) rfl rfl ?_;intro f w1 v9 hT hE h s;obtain rfl:=hT
    refine ac h (aw (.bool true) (bB (h.ev rfl)) (congrArg Value.bool q0)) rfl ?_;intro f h
    refine ac h (ag (h.ev rfl)) rfl ?_;intro f h
    refine aA h rfl rfl rfl ?_
    refine ac h (ai aV (h.ev rfl)) rfl ?_;intro f h
    refine aA h rfl rfl rfl ?_
    refine ax (aL.subL (aL.of_own s 3 rfl) 33 33 (D:=av n.pr) (bc _ _ _ _)) h aC rfl (aj _) rfl ?_;intro f h
    refine aA h rfl rfl rfl ?_
    refine cm (vs:=[.agg (av n.pr)]) [.tmp 38] h s Tryz.underlying36 c8 rfl rfl (eI _) rfl rfl rfl ?_;intro f w1 v39 h s
    replace s:=s.resl (m:=[n.pr].length) (ys:=ar [n.pr]) 0 rfl rfl (by rw [dh,cQ])
    refine aA h rfl rfl rfl ?_
    refine ac h (ag (h.ev rfl)) rfl ?_;intro f h
    refine aA h rfl rfl rfl ?_
    refine ac h (ai aK (h.ev rfl)) rfl ?_;intro f h
    refine aA h rfl rfl rfl ?_
    refine ac h (ai aH (h.ev rfl)) rfl ?_;intro f h
    refine aA h rfl rfl rfl ?_
    refine aq (am (aL.of_own s 4 rfl) 0 (bZ _ _ _ _)) h bw rfl rfl ?_;intro f h
    refine aA h rfl rfl rfl ?_
    refine aI h s m3 (eC [n.pr] v39 nos vn n.me.1 _ (bX.of_own (s.getSl 0 rfl)) (by show 1≤1000;omega) (hN.keep s.ext) hnn) rfl rfl ?_;intro f w1 v44 hT hE h sq;replace s:=s.sl_new hE hT
    refine aA h rfl rfl rfl ?_
    refine cT 0 h s Tryz.underlying36 rfl rfl rfl ?_;intro f h
    refine aA h rfl rfl rfl ?_
    refine ac h (aw (.bool false) (bU (h.ev rfl) (h.ev rfl)) (congrArg Value.bool (decide_eq_false (by have:=of_decide_eq_false q1;omega)))) rfl ?_;intro f h
    refine ac h (aD (h.ev rfl) (h.ev rfl)) rfl ?_;intro f h
    refine ah ?_
    refine hK7 _ _ ?_
    refine wpIn_cond_false (h.ev rfl) ?_
    refine wpIn_skip ?_
    refine hK6 _ _ ?_
    refine al fun K9 hK9=>?_
    refine ae ?_
    refine au 5 h s aW rfl rfl (ap _ _ _ _) rfl ?_;intro f h
    refine az 4 h s aW rfl rfl rfl (ap _ _ _ _) (ap _ _ _ _) (a7 (aQ (s.getSl 3 rfl)) (aQ (s.getSl 2 rfl))) ?_;intro w1 s
    refine ah ?_
    refine hK9 _ _ ?_
    refine wpIn_ret ?_
    exact c5 4 rfl h s aW rfl rfl (ap _ _ _ _) (dy (zR q1) (pi h0) (s.sel [3,2] rfl (by decide)))
   ·skip
    refine ae ?_
    refine ac h (ai aV (h.ev rfl)) rfl ?_;intro f h
    refine ax (aL.subL (aL.of_own s 3 rfl) 33 33 (D:=av n.pr) (bc _ _ _ _)) h aC rfl (aj _) rfl ?_;intro f h
    refine aI h s i9 (dY n.pr _) rfl rfl ?_;intro f w1 v9 hT hE h s;obtain rfl:=hT
    refine ac h (aw (.bool true) (bB (h.ev rfl)) (congrArg Value.bool q0)) rfl ?_;intro f h
    refine ac h (ag (h.ev rfl)) rfl ?_;intro f h
    refine aA h rfl rfl rfl ?_
    refine ac h (ai aV (h.ev rfl)) rfl ?_;intro f h
    refine aA h rfl rfl rfl ?_
    refine ax (aL.subL (aL.of_own s 3 rfl) 33 33 (D:=av n.pr) (bc _ _ _ _)) h aC rfl (aj _) rfl ?_;intro f h
    refine aA h rfl rfl rfl ?_
    refine cm (vs:=[.agg (av n.pr)]) [.tmp 38] h s Tryz.underlying36 c8 rfl rfl (eI _) rfl rfl rfl ?_;intro f w1 v39 h s
    replace s:=s.resl (m:=[n.pr].length) (ys:=ar [n.pr]) 0 rfl rfl (by rw [dh,cQ])
    refine aA h rfl rfl rfl ?_
    refine ac h (ag (h.ev rfl)) rfl ?_;intro f h
    refine aA h rfl rfl rfl ?_
    refine ac h (ai aK (h.ev rfl)) rfl ?_;intro f h
    refine aA h rfl rfl rfl ?_
    refine ac h (ai aH (h.ev rfl)) rfl ?_;intro f h
    refine aA h rfl rfl rfl ?_
    refine aq (am (aL.of_own s 4 rfl) 0 (bZ _ _ _ _)) h bw rfl rfl ?_;intro f h
    refine aA h rfl rfl rfl ?_
    refine aI h s m3 (eC [n.pr] v39 nos vn n.me.1 _ (bX.of_own (s.getSl 0 rfl)) (by show 1≤1000;omega) (hN.keep s.ext) hnn) rfl rfl ?_;intro f w1 v44 hT hE h sq;replace s:=s.sl_new hE hT
    refine aA h rfl rfl rfl ?_
    refine cT 0 h s Tryz.underlying36 rfl rfl rfl ?_;intro f h
    refine aA h rfl rfl rfl ?_
    refine ac h (aw (.bool true) (bU (h.ev rfl) (h.ev rfl)) (congrArg Value.bool (decide_eq_true (by have:=of_decide_eq_true q1;omega)))) rfl ?_;intro f h
    refine ac h (aD (h.ev rfl) (h.ev rfl)) rfl ?_;intro f h
    refine ah ?_
    refine hK7 _ _ ?_
    refine wpIn_cond_true (h.ev rfl) ?_
    refine ae ?_
    refine ac h (dU mM rfl) rfl ?_;intro f h
    refine ac h (ai aV (h.ev rfl)) rfl ?_;intro f h
    refine dE 5 h s aC rfl rfl rfl (aj _) (by rw [ap];omega) (aS _) ?_;intro w1 s
    replace s:=s.recell (D:=ay n.me dB v30 v19) 5 rfl (ff _ _ _ _ _)
    refine ah ?_
    refine hK6 _ _ ?_
    refine al fun K10 hK10=>?_
    refine ae ?_
    refine au 5 h s aW rfl rfl (ap _ _ _ _) rfl ?_;intro f h
    refine az 4 h s aW rfl rfl rfl (ap _ _ _ _) (ap _ _ _ _) (a7 (aQ (s.getSl 3 rfl)) (aQ (s.getSl 2 rfl))) ?_;intro w1 s
    refine ah ?_
    refine hK10 _ _ ?_
    refine wpIn_ret ?_
    exact c5 4 rfl h s aW rfl rfl (ap _ _ _ _) (dy (Cz q0 q1) (pi h0) (s.sel [3,2] rfl (by decide)))
 ·have h0:¬ (cK n.sc nos n.me.1).length=0:=by have:=of_decide_eq_false hc;omega
  refine wpIn_skip ?_
  refine hK4 _ _ ?_
  refine al fun K11 hK11=>?_
  refine al fun K12 hK12=>?_
  cases q0:(!decide (n.pr=dB):Bool)
  ·skip
   refine ae ?_
   refine ac h (ai aV (h.ev rfl)) rfl ?_;intro f h
   refine ax (aL.subL (aL.of_own s 3 rfl) 33 33 (D:=av n.pr) (bc _ _ _ _)) h aC rfl (aj _) rfl ?_;intro f h
   refine aI h s i9 (dY n.pr _) rfl rfl ?_;intro f w1 v9 hT hE h s;obtain rfl:=hT
   refine ac h (aw (.bool false) (bB (h.ev rfl)) (congrArg Value.bool q0)) rfl ?_;intro f h
   refine ac h (ag (h.ev rfl)) rfl ?_;intro f h
   refine aB (b:=true) h rfl rfl rfl rfl ?_;intro f h
   refine aB (b:=true) h rfl rfl rfl rfl ?_;intro f h
   refine aB (b:=true) h rfl rfl rfl rfl ?_;intro f h
   refine aB (b:=true) h rfl rfl rfl rfl ?_;intro f h
   refine aB (b:=true) h rfl rfl rfl rfl ?_;intro f h
   refine aB (b:=true) h rfl rfl rfl rfl ?_;intro f h
   refine aB (b:=true) h rfl rfl rfl rfl ?_;intro f h
   refine aB (b:=true) h rfl rfl rfl rfl ?_;intro f h
   refine aB (b:=true) h rfl rfl rfl rfl ?_;intro f h
   refine aB (b:=true) h rfl rfl rfl rfl ?_;intro f h
   refine ac h (aF (h.ev rfl) (h.ev rfl)) rfl ?_;intro f h
   refine ah ?_
   refine hK12 _ _ ?_
   refine wpIn_cond_false (h.ev rfl) ?_
   refine wpIn_skip ?_
   refine hK11 _ _ ?_
   refine al fun K13 hK13=>?_
   refine ae ?_
   refine au 3 h s aW rfl rfl (ap _ _ _ _) rfl ?_;intro f h
   refine az 2 h s aW rfl rfl rfl (ap _ _ _ _) (ap _ _ _ _) (a7 (aQ (s.getSl 1 rfl)) (aQ (s.getSl 0 rfl))) ?_;intro w1 s
   refine ah ?_
   refine hK13 _ _ ?_
   refine wpIn_ret ?_
   exact c5 2 rfl h s aW rfl rfl (ap _ _ _ _) (dy (zV q0) (m5 h0) (s.sel [1,0] rfl (by decide)))
  ·skip
   cases q1:(decide ((cK [n.pr] nos n.me.1).length=0):Bool)
   ·skip
    refine ae ?_
    refine ac h (ai aV (h.ev rfl)) rfl ?_;intro f h
    refine ax (aL.subL (aL.of_own s 3 rfl) 33 33 (D:=av n.pr) (bc _ _ _ _)) h aC rfl (aj _) rfl ?_;intro f h
    refine aI h s i9 (dY n.pr _) rfl rfl ?_;intro f w1 v9 hT hE h s;obtain rfl:=hT
    refine ac h (aw (.bool true) (bB (h.ev rfl)) (congrArg Value.bool q0)) rfl ?_;intro f h
    refine ac h (ag (h.ev rfl)) rfl ?_;intro f h
    refine aA h rfl rfl rfl ?_
    refine ac h (ai aV (h.ev rfl)) rfl ?_;intro f h
    refine aA h rfl rfl rfl ?_
    refine ax (aL.subL (aL.of_own s 3 rfl) 33 33 (D:=av n.pr) (bc _ _ _ _)) h aC rfl (aj _) rfl ?_;intro f h
    refine aA h rfl rfl rfl ?_
    refine cm (vs:=[.agg (av n.pr)]) [.tmp 38] h s Tryz.underlying36 c8 rfl rfl (eI _) rfl rfl rfl ?_;intro f w1 v39 h s
    replace s:=s.resl (m:=[n.pr].length) (ys:=ar [n.pr]) 0 rfl rfl (by rw [dh,cQ])
    refine aA h rfl rfl rfl ?_
    refine ac h (ag (h.ev rfl)) rfl ?_;intro f h
    refine aA h rfl rfl rfl ?_
    refine ac h (ai aK (h.ev rfl)) rfl ?_;intro f h
    refine aA h rfl rfl rfl ?_
    refine ac h (ai aH (h.ev rfl)) rfl ?_;intro f h
    refine aA h rfl rfl rfl ?_
    refine aq (am (aL.of_own s 4 rfl) 0 (bZ _ _ _ _)) h bw rfl rfl ?_;intro f h
    refine aA h rfl rfl rfl ?_
    refine aI h s m3 (eC [n.pr] v39 nos vn n.me.1 _ (bX.of_own (s.getSl 0 rfl)) (by show 1≤1000;omega) (hN.keep s.ext) hnn) rfl rfl ?_;intro f w1 v44 hT hE h sq;replace s:=s.sl_new hE hT
    refine aA h rfl rfl rfl ?_
    refine cT 0 h s Tryz.underlying36 rfl rfl rfl ?_;intro f h
    refine aA h rfl rfl rfl ?_
    refine ac h (aw (.bool false) (bU (h.ev rfl) (h.ev rfl)) (congrArg Value.bool (decide_eq_false (by have:=of_decide_eq_false q1;omega)))) rfl ?_;intro f h
    refine ac h (aD (h.ev rfl) (h.ev rfl)) rfl ?_;intro f h
    refine ah ?_
    refine hK12 _ _ ?_
    refine wpIn_cond_false (h.ev rfl) ?_
    refine wpIn_skip ?_
    refine hK11 _ _ ?_
    refine al fun K14 hK14=>?_
    refine ae ?_
    refine au 5 h s aW rfl rfl (ap _ _ _ _) rfl ?_;intro f h
    refine az 4 h s aW rfl rfl rfl (ap _ _ _ _) (ap _ _ _ _) (a7 (aQ (s.getSl 3 rfl)) (aQ (s.getSl 2 rfl))) ?_;intro w1 s
    refine ah ?_
    refine hK14 _ _ ?_
    refine wpIn_ret ?_
    exact c5 4 rfl h s aW rfl rfl (ap _ _ _ _) (dy (zR q1) (m5 h0) (s.sel [3,2] rfl (by decide)))
   ·skip
    refine ae ?_
    refine ac h (ai aV (h.ev rfl)) rfl ?_;intro f h
    refine ax (aL.subL (aL.of_own s 3 rfl) 33 33 (D:=av n.pr) (bc _ _ _ _)) h aC rfl (aj _) rfl ?_;intro f h
    refine aI h s i9 (dY n.pr _) rfl rfl ?_;intro f w1 v9 hT hE h s;obtain rfl:=hT
    refine ac h (aw (.bool true) (bB (h.ev rfl)) (congrArg Value.bool q0)) rfl ?_;intro f h
    refine ac h (ag (h.ev rfl)) rfl ?_;intro f h
    refine aA h rfl rfl rfl ?_
    refine ac h (ai aV (h.ev rfl)) rfl ?_;intro f h
    refine aA h rfl rfl rfl ?_
    refine ax (aL.subL (aL.of_own s 3 rfl) 33 33 (D:=av n.pr) (bc _ _ _ _)) h aC rfl (aj _) rfl ?_;intro f h
    refine aA h rfl rfl rfl ?_
    refine cm (vs:=[.agg (av n.pr)]) [.tmp 38] h s Tryz.underlying36 c8 rfl rfl (eI _) rfl rfl rfl ?_;intro f w1 v39 h s
    replace s:=s.resl (m:=[n.pr].length) (ys:=ar [n.pr]) 0 rfl rfl (by rw [dh,cQ])
    refine aA h rfl rfl rfl ?_
    refine ac h (ag (h.ev rfl)) rfl ?_;intro f h
    refine aA h rfl rfl rfl ?_
    refine ac h (ai aK (h.ev rfl)) rfl ?_;intro f h
    refine aA h rfl rfl rfl ?_
    refine ac h (ai aH (h.ev rfl)) rfl ?_;intro f h
    refine aA h rfl rfl rfl ?_
    refine aq (am (aL.of_own s 4 rfl) 0 (bZ _ _ _ _)) h bw rfl rfl ?_;intro f h
    refine aA h rfl rfl rfl ?_
    refine aI h s m3 (eC [n.pr] v39 nos vn n.me.1 _ (bX.of_own (s.getSl 0 rfl)) (by show 1≤1000;omega) (hN.keep s.ext) hnn) rfl rfl ?_;intro f w1 v44 hT hE h sq;replace s:=s.sl_new hE hT
    refine aA h rfl rfl rfl ?_
    refine cT 0 h s Tryz.underlying36 rfl rfl rfl ?_;intro f h
    refine aA h rfl rfl rfl ?_
    refine ac h (aw (.bool true) (bU (h.ev rfl) (h.ev rfl)) (congrArg Value.bool (decide_eq_true (by have:=of_decide_eq_true q1;omega)))) rfl ?_;intro f h
    refine ac h (aD (h.ev rfl) (h.ev rfl)) rfl ?_;intro f h
    refine ah ?_
    refine hK12 _ _ ?_
    refine wpIn_cond_true (h.ev rfl) ?_
    refine ae ?_
    refine ac h (dU mM rfl) rfl ?_;intro f h
    refine ac h (ai aV (h.ev rfl)) rfl ?_;intro f h
    refine dE 5 h s aC rfl rfl rfl (aj _) (by rw [ap];omega) (aS _) ?_;intro w1 s
    replace s:=s.recell (D:=ay n.me dB v11 v19) 5 rfl (ff _ _ _ _ _)
    refine ah ?_
    refine hK11 _ _ ?_
    refine al fun K15 hK15=>?_
    refine ae ?_
    refine au 5 h s aW rfl rfl (ap _ _ _ _) rfl ?_;intro f h
    refine az 4 h s aW rfl rfl rfl (ap _ _ _ _) (ap _ _ _ _) (a7 (aQ (s.getSl 3 rfl)) (aQ (s.getSl 2 rfl))) ?_;intro w1 s
    refine ah ?_
    refine hK15 _ _ ?_
    refine wpIn_ret ?_
    exact c5 4 rfl h s aW rfl rfl (ap _ _ _ _) (dy (Cz q0 q1) (m5 h0) (s.sel [3,2] rfl (by decide)))
set_option maxHeartbeats 2000000 in
theorem ud (L:List N3) (vo:Value) (n g:Nd) (vs vf us uf:Value) (w:World) (hO:eN w vo L) (hL:L.length≤40) (hRs:bX w vs 33 n.sc.length (ar n.sc)) (hRf:bX w vf 33 n.fg.length (ar n.fg)) (hns:n.sc.length≤400) (hnf:n.fg.length≤400) (hUs:bX w us 33 g.sc.length (ar g.sc)) (hUf:bX w uf 33 g.fg.length (ar g.fg)) (hus:g.sc.length≤400):Calls Tryz.prog 66 [.agg #[vo],.agg (ay n.me n.pr vs vf),.agg (ay g.me g.pr us uf)].toArray w (cU w (CE w 28 n.me (kZ (aR L) n g) (kh (aR L) n g) (cK n.fg [g.me.1] n.me.1))):=by
 refine bq Tryz.func66 rfl Tryz.ntmps66 rfl [(0,.agg #[vo]),(1,.agg (ay n.me n.pr vs vf)),(2,.agg (ay g.me g.pr us uf))] (by simp) fun f h=>?_
 have s:=St.start w
 refine al fun K1 hK1=>?_
 refine ae ?_
 refine bV (#[vo]) h s rfl rfl rfl ?_;intro f w1 b3 h s
 refine bV (ay n.me n.pr vs vf) h s rfl rfl rfl ?_;intro f w1 b4 h s
 refine bV (ay g.me g.pr us uf) h s rfl rfl rfl ?_;intro f w1 b5 h s
 refine bf (ay aZ aZ bp bp) h s dL rfl rfl ?_;intro f w1 b6 h s
 refine ah ?_
 refine hK1 _ _ ?_
 refine al fun K2 hK2=>?_
 refine ae ?_
 refine au 2 h s aW rfl rfl (ap _ _ _ _) rfl ?_;intro f h
 refine ac h (ai aK (h.ev rfl)) rfl ?_;intro f h
 refine ac h (ai aH (h.ev rfl)) rfl ?_;intro f h
 refine aq (am (aL.of_own s 1 rfl) 0 (bZ _ _ _ _)) h bw rfl rfl ?_;intro f h
 refine cm (vs:=[.int .i64 g.me.1]) [.tmp 14] h s Tryz.underlying78 yt rfl rfl (by simp [Value.cells]) rfl rfl rfl ?_;intro f w1 v15 h s
 replace s:=s.resl (m:=[g.me.1].length) (ys:=List.map (Value.int .i64) [g.me.1]) 0 rfl (rfl) (by simp [Value.cells])
 refine aI h s CT (sX n vs vf [g.me.1] v15 _ (hRs.keep s.ext) (hRf.keep s.ext) (by omega) (by omega) (bX.of_own (s.getSl 0 rfl)) (by show 1≤1000;omega)) rfl rfl ?_;rintro f w1 v16 ⟨du,dv,rfl,hS⟩ hE h sq;replace s:=s.add hS;clear hS
 refine bf (ay aZ aZ bp bp) h s dL rfl rfl ?_;intro f w1 b7 h s
 refine az 0 h s aW rfl rfl rfl (ap _ _ _ _) (ap _ _ _ _) (a7 (aQ (s.getSl 1 rfl)) (aQ (s.getSl 2 rfl))) ?_;intro w1 s
 refine ah ?_
 refine hK2 _ _ ?_
 refine al fun K3 hK3=>?_
 refine ae ?_
 refine cm (vs:=[]) [] h s Tryz.underlying36 c8 rfl rfl (by simp) rfl rfl rfl ?_;intro f w1 v17 h s
 replace s:=s.resl (m:=(pp (aR L) n.me.1 g 0).length) (ys:=ar (pp (aR L) n.me.1 g 0)) 0 rfl (rfl) (rfl)
 refine ac h (ak (h.ev rfl)) rfl ?_;intro f h
 refine ah ?_
 refine hK3 _ _ ?_
 refine al fun K4 hK4=>?_
 refine al fun K5 hK5=>?_
 refine ae ?_
 refine ac h (ai bC (h.ev rfl)) rfl ?_;intro f h
 refine aq (V:=us) (am (aL.of_own s 6 rfl) 66 (bA _ _ _ _)) h bE rfl rfl ?_;intro f h
 refine ac h (a8 (hUs.keep s.ext) Tryz.underlying36 (h.ev rfl)) rfl ?_;intro f h
 refine ac h (ag (h.ev rfl)) rfl ?_;intro f h
 refine ah ?_
 refine hK5 _ _ ?_
 refine wpIn_block ?_
 refine wpIn_loop_ghost (fun nn aa ww=>∃ k:Nat,∃ vb:Value,Sl 87 aa [(0,.agg #[vo]),(1,.agg (ay n.me n.pr vs vf)),(2,.agg (ay g.me g.pr us uf)),(3,.pointer (some ⟨b3,0,none⟩)),(4,.pointer (some ⟨b4,0,none⟩)),(5,.pointer (some ⟨b5,0,none⟩)),(6,.pointer (some ⟨b6,0,none⟩)),(7,.pointer (some ⟨b7,0,none⟩)),(15,v15),(8,vb),(19,us),(20,.int .i64 (g.sc.length:Int)),(21,.int .i64 (k:Int))]∧St w [.sl vb 28 33 (pp (aR L) n.me.1 g k).length (ar (pp (aR L) n.me.1 g k)),.blk b7 (.cells (ay n.me (p4 n [g.me.1]) du dv) 42),.sl du 28 33 (kK (cK n.sc [g.me.1] n.me.1) n.me).length (ar (kK (cK n.sc [g.me.1] n.me.1) n.me)),.sl dv 28 33 (cK n.fg [g.me.1] n.me.1).length (ar (cK n.fg [g.me.1] n.me.1)),.sl v15 3 1 [g.me.1].length ([g.me.1].map (Value.int .i64)),.blk b6 (.cells (ay aZ aZ bp bp) 42),.blk b5 (.cells (ay g.me g.pr us uf) 42),.blk b4 (.cells (ay n.me n.pr vs vf) 42),.blk b3 (.cells (#[vo]) 24)] ww∧nn=g.sc.length - k∧k≤g.sc.length) (g.sc.length - (0)) ⟨0,v17,h.only ⟨rfl,rfl,rfl,rfl,rfl,rfl,rfl,rfl,rfl,rfl,rfl,rfl,aO rfl (by omega),trivial⟩,s.as ⟨rfl,rfl,rfl,rfl,rfl,rfl,rfl,rfl,rfl,trivial⟩,rfl,Nat.zero_le _⟩ ?_
 rintro _ f w1 ⟨k,vb,h,s,hnn,hp0⟩
 refine al fun K6 hK6=>?_
 refine ae ?_
 refine ac h (bS (h.ev rfl) (h.ev rfl)) rfl ?_;intro f h
 refine ah ?_
 refine hK6 _ _ ?_
 refine al fun K7 hK7=>?_
 refine bK h rfl (fun hc=>?_) (fun hc=>?_)
 ·replace hc:=of_decide_eq_true hc
  refine wpIn_skip ?_
  refine hK7 _ _ ?_
  refine al fun K8 hK8=>?_
  refine wpIn_block ?_
  refine al fun K9 hK9=>?_
  refine ae ?_
  have hkl:k<g.sc.length:=by omega
  refine ac h (cc (hUs.keep s.ext) (k) Tryz.underlying36 cD (h.ev rfl) (h.ev rfl) (by omega) (by omega)) rfl ?_;intro f h
  refine ax ((hUs.keep s.ext).el (k) (by omega) (by decide) (D:=av (g.sc.getD k aZ)) (cI g.sc k hkl)) h aC rfl (aj _) rfl ?_;intro f h
  refine bf (av aZ) h s cB rfl rfl ?_;intro f w1 b10 h s
  refine az 0 h s aC rfl rfl rfl (aj _) (aj _) (aS _) ?_;intro w1 s
  refine ah ?_
  refine hK9 _ _ ?_
  refine al fun K10 hK10=>?_
  cases l0:(cx (aR L) (g.sc.getD k aZ).1:Bool)
  ·skip
   refine ae ?_
   refine au 9 h s bk rfl rfl (rfl) rfl ?_;intro f h
   refine ac h (ai aH (h.ev rfl)) rfl ?_;intro f h
   refine aq (am (aL.of_own s 0 rfl) 0 (aP _)) h bw rfl rfl ?_;intro f h
   refine aI h s fi (aM (.bool false) (c3 L vo (g.sc.getD k aZ).1 _ (hO.keep s.ext) hL) (congrArg Value.bool l0)) rfl rfl ?_;intro f w1 v9 hT hE h s;obtain rfl:=hT
   refine ac h (ag (h.ev rfl)) rfl ?_;intro f h
   refine aB (b:=true) h rfl rfl rfl rfl ?_;intro f h
   refine aB (b:=true) h rfl rfl rfl rfl ?_;intro f h
   refine aB (b:=true) h rfl rfl rfl rfl ?_;intro f h
   refine aB (b:=true) h rfl rfl rfl rfl ?_;intro f h
   refine aB (b:=true) h rfl rfl rfl rfl ?_;intro f h
   refine aB (b:=true) h rfl rfl rfl rfl ?_;intro f h
   refine ac h (aF (h.ev rfl) (h.ev rfl)) rfl ?_;intro f h
   refine ah ?_
   refine hK10 _ _ ?_
   refine wpIn_cond_false (h.ev rfl) ?_
   refine wpIn_skip ?_
   refine bF ?_
   refine hK8 _ _ ?_
   refine ae ?_
   refine ac h (ce (h.ev rfl) (h.ev rfl) (by omega)) rfl ?_;intro f h
   refine ac h (ag (h.ev rfl)) rfl ?_;intro f h
   refine ah ?_
   refine bT ?_
   have e9:=zP (l:=aR L) (no:=n.me.1) hkl (by unfold tU;rw [l0];rfl)
   exact ⟨_,by omega,⟨k+1,vb,h.only ⟨rfl,rfl,rfl,rfl,rfl,rfl,rfl,rfl,rfl,rfl,rfl,rfl,aO rfl (by omega),trivial⟩,St.as (s.pick _ (List.sublist_append_right [_] _)) ⟨gX (by rw [e9]) (by rw [e9]),rfl,rfl,rfl,rfl,rfl,rfl,rfl,rfl,trivial⟩,rfl,by omega⟩⟩
  ·skip
   cases l1:(decide ((g.sc.getD k aZ).1≠n.me.1):Bool)
   ·skip
    refine ae ?_
    refine au 9 h s bk rfl rfl (rfl) rfl ?_;intro f h
    refine ac h (ai aH (h.ev rfl)) rfl ?_;intro f h
    refine aq (am (aL.of_own s 0 rfl) 0 (aP _)) h bw rfl rfl ?_;intro f h
    refine aI h s fi (aM (.bool true) (c3 L vo (g.sc.getD k aZ).1 _ (hO.keep s.ext) hL) (congrArg Value.bool l0)) rfl rfl ?_;intro f w1 v9 hT hE h s;obtain rfl:=hT
    refine ac h (ag (h.ev rfl)) rfl ?_;intro f h
    refine aA h rfl rfl rfl ?_
    refine ac h (ai aH (h.ev rfl)) rfl ?_;intro f h
    refine aA h rfl rfl rfl ?_
    refine aq (am (aL.of_own s 0 rfl) 0 (aP _)) h bw rfl rfl ?_;intro f h
    refine aA h rfl rfl rfl ?_
    refine ac h (ai aK (h.ev rfl)) rfl ?_;intro f h
    refine aA h rfl rfl rfl ?_
    refine ac h (ai aH (h.ev rfl)) rfl ?_;intro f h
    refine aA h rfl rfl rfl ?_
    refine aq (am (aL.of_own s 8 rfl) 0 (bZ _ _ _ _)) h bw rfl rfl ?_;intro f h
    refine aA h rfl rfl rfl ?_
    refine ac h (aw (.bool false) (cy (h.ev rfl) (h.ev rfl)) (congrArg Value.bool l1)) rfl ?_;intro f h
    refine ac h (aD (h.ev rfl) (h.ev rfl)) rfl ?_;intro f h
    refine ah ?_
    refine hK10 _ _ ?_
    refine wpIn_cond_false (h.ev rfl) ?_
    refine wpIn_skip ?_
    refine bF ?_
    refine hK8 _ _ ?_
    refine ae ?_
    refine ac h (ce (h.ev rfl) (h.ev rfl) (by omega)) rfl ?_;intro f h
    refine ac h (ag (h.ev rfl)) rfl ?_;intro f h
    refine ah ?_
    refine bT ?_
    have e9:=zP (l:=aR L) (no:=n.me.1) hkl (by unfold tU;rw [l0,l1];rfl)
    exact ⟨_,by omega,⟨k+1,vb,h.only ⟨rfl,rfl,rfl,rfl,rfl,rfl,rfl,rfl,rfl,rfl,rfl,rfl,aO rfl (by omega),trivial⟩,St.as (s.pick _ (List.sublist_append_right [_] _)) ⟨gX (by rw [e9]) (by rw [e9]),rfl,rfl,rfl,rfl,rfl,rfl,rfl,rfl,trivial⟩,rfl,by omega⟩⟩
   ·skip
    refine ae ?_
    refine au 9 h s bk rfl rfl (rfl) rfl ?_;intro f h
    refine ac h (ai aH (h.ev rfl)) rfl ?_;intro f h
    refine aq (am (aL.of_own s 0 rfl) 0 (aP _)) h bw rfl rfl ?_;intro f h
    refine aI h s fi (aM (.bool true) (c3 L vo (g.sc.getD k aZ).1 _ (hO.keep s.ext) hL) (congrArg Value.bool l0)) rfl rfl ?_;intro f w1 v9 hT hE h s;obtain rfl:=hT
    refine ac h (ag (h.ev rfl)) rfl ?_;intro f h
    refine aA h rfl rfl rfl ?_
    refine ac h (ai aH (h.ev rfl)) rfl ?_;intro f h
    refine aA h rfl rfl rfl ?_
    refine aq (am (aL.of_own s 0 rfl) 0 (aP _)) h bw rfl rfl ?_;intro f h
    refine aA h rfl rfl rfl ?_
    refine ac h (ai aK (h.ev rfl)) rfl ?_;intro f h
    refine aA h rfl rfl rfl ?_
    refine ac h (ai aH (h.ev rfl)) rfl ?_;intro f h
    refine aA h rfl rfl rfl ?_
    refine aq (am (aL.of_own s 8 rfl) 0 (bZ _ _ _ _)) h bw rfl rfl ?_;intro f h
    refine aA h rfl rfl rfl ?_
    refine ac h (aw (.bool true) (cy (h.ev rfl) (h.ev rfl)) (congrArg Value.bool l1)) rfl ?_;intro f h
    refine ac h (aD (h.ev rfl) (h.ev rfl)) rfl ?_;intro f h
    refine ah ?_
    refine hK10 _ _ ?_
    refine wpIn_cond_true (h.ev rfl) ?_
    refine ae ?_
    have hq:tU (aR L) n.me.1 (g.sc.getD k aZ)=true:=by unfold tU;rw [l0,l1];rfl
    refine ac h (ag (h.ev rfl)) rfl ?_;intro f h
    refine au 0 h s aC rfl rfl (aj _) rfl ?_;intro f h
    refine cm (vs:=[.agg (av (g.sc.getD k aZ))]) [.tmp 38] h s Tryz.underlying36 c8 rfl rfl (eI _) rfl rfl rfl ?_;intro f w1 v39 h s
    refine dP 2 0 h s Tryz.underlying36 c8 rfl rfl rfl rfl (by decide) (aS _) (by have h9:=wV (aR L) n.me.1 g k;unfold maxLen;omega) (by have h9:=wV (aR L) n.me.1 g k;omega) rfl ?_;intro f w1 v40 h s
    replace s:=s.pick _ (List.sublist_cons_self _ _)
    replace s:=s.resl (m:=(pp (aR L) n.me.1 g (k+1)).length) (ys:=ar (pp (aR L) n.me.1 g (k+1))) 1 rfl (by rw [zL hkl hq,List.length_append];rfl) (by rw [zL hkl hq,dh,gA])
    refine ac h (ak (h.ev rfl)) rfl ?_;intro f h
    refine ah ?_
    refine bF ?_
    refine hK8 _ _ ?_
    refine ae ?_
    refine ac h (ce (h.ev rfl) (h.ev rfl) (by omega)) rfl ?_;intro f h
    refine ac h (ag (h.ev rfl)) rfl ?_;intro f h
    refine ah ?_
    refine bT ?_
    exact ⟨_,by omega,⟨k+1,v40,h.only ⟨rfl,rfl,rfl,rfl,rfl,rfl,rfl,rfl,rfl,rfl,rfl,rfl,aO rfl (by omega),trivial⟩,St.as (s.pick _ (List.sublist_append_right [_] _)) ⟨rfl,rfl,rfl,rfl,rfl,rfl,rfl,rfl,rfl,trivial⟩,rfl,by omega⟩⟩
 ·replace hc:=of_decide_eq_false hc
  refine wpIn_exit ?_
  refine bJ ?_
  refine bJ ?_
  refine cC ?_
  refine hK4 _ _ ?_
  refine al fun K11 hK11=>?_
  refine al fun K12 hK12=>?_
  cases s0:(decide (n.sc.length=1):Bool)
  ·try have h19:=of_decide_eq_true s0
   skip
   have hbs:=s.ext.le
   refine' im 11 [0] [] [[],[0],[0,1],[0,1,2],[0,1,2,3],[0,1,2,3,4],[0,1,2,3,4,5],[0,1,2,3,4,5,6],[0,1,2,3,4,5,6,7],[0,1,2,3,4],[0,1,2,3,4,9],[0,1,2,3,4,5,6,7,8,9,10],[0,1,2,3,4,5,6,7,8,9,10,11],[0,1,2,3,4,5,6,7,8,9,10,11,12],[0,1,2,3,4,5,6,7,8,9,10,11,12,13],[0,1,2,3,4,5,6,7,8,9,10,11,12,13,14],[0,1,2,3,4,5,6,7,8,9,10,11,12,13,14,15],[0,1,2,3,4,5,6,7,8,9,10,11,12,13,14,15,16]] (is _::is _::is _::is _::is _::is _::is _::is _::is _::is _::is _::is undef::is undef::is undef::is undef::is undef::is undef::is undef::[]) (fun _=>True) h s (by kernel_rfl) (by kernel_rfl) (by kernel_rfl) (by kernel_rfl) rfl (fun _ _ h _=>h) (trivial) ⟨⟨_,rfl⟩,trivial⟩ ⟨aN _,aN _,aN _,aN _,aN _,aN _,aN _,aN _,aN _,aN _,aN _,aN _,aN _,aN _,aN _,aN _,aN _,aN _,trivial⟩ (And.intro ?_ (And.intro ?_ (And.intro ?_ (And.intro ?_ (And.intro ?_ (And.intro ?_ (And.intro ?_ (And.intro ?_ (And.intro ?_ (And.intro ?_ (And.intro ?_ (And.intro ?_ (And.intro ?_ (And.intro ?_ (And.intro ?_ (And.intro ?_ (And.intro ?_ (And.intro ?_ (trivial))))))))))))))))))) ?_
   rotate_left 11
   ·refine dQ 42 rfl (by decide) ?_
    intro f9 w2 hE hs hl
    have e4:f9.tmps.getD 4 undef=_:=cL hl 4 (by kernel_rfl) (by kernel_rfl) (h.holds 4 _ rfl)
    have h:=aE [(4,_)] hs rfl (holds_lk ⟨e4,trivial⟩)
    refine ac h (ai bC (h.ev rfl)) rfl ?_;intro f h
    refine ah ?_
    have e9:=h.holds 42 _ rfl
    refine ⟨?_,rfl⟩
    refine e9.trans ?_
    exact rfl
   ·refine bN 43 rfl (by decide) (by decide) ?_
    intro f9 w2 hE hs hd9 hl
    have e42:f9.tmps.getD 42 undef=_:=bh hl 42 0 (by kernel_rfl) (by kernel_rfl)
    have h:=aE [(42,_)] hs hd9 (holds_lk ⟨e42,trivial⟩)
    have s:=s.more hE
    have z:=St.start w2
    refine aq (V:=vs) (am (aL.of_own s 7 rfl) 66 (bA _ _ _ _)) h bE rfl rfl ?_;intro f h
    refine ah ?_
    have e9:=h.holds 43 _ rfl
    refine ⟨?_,Ext.refl _,fun h9=>absurd h9 (by decide)⟩
    refine e9.trans ?_
    exact rfl
   ·refine bN 44 rfl (by decide) (by decide) ?_
    intro f9 w2 hE hs hd9 hl
    have e43:f9.tmps.getD 43 undef=_:=bh hl 43 1 (by kernel_rfl) (by kernel_rfl)
    have h:=aE [(43,_)] hs hd9 (holds_lk ⟨e43,trivial⟩)
    have s:=s.more hE
    have z:=St.start w2
    refine ac h (a8 (hRs.keep s.ext) Tryz.underlying36 (h.ev rfl)) rfl ?_;intro f h
    refine ah ?_
    have e9:=h.holds 44 _ rfl
    refine ⟨?_,Ext.refl _,fun h9=>absurd h9 (by decide)⟩
    refine e9.trans ?_
    exact rfl
   ·refine bN 45 rfl (by decide) (by decide) ?_
    intro f9 w2 hE hs hd9 hl
    have e44:f9.tmps.getD 44 undef=_:=bh hl 44 2 (by kernel_rfl) (by kernel_rfl)
    have h:=aE [(44,_)] hs hd9 (holds_lk ⟨e44,trivial⟩)
    have s:=s.more hE
    have z:=St.start w2
    refine ac h (aw (.bool false) (bU (h.ev rfl) (h.ev rfl)) (congrArg Value.bool (decide_eq_false (by have:=of_decide_eq_false s0;omega)))) rfl ?_;intro f h
    refine ah ?_
    have e9:=h.holds 45 _ rfl
    refine ⟨?_,Ext.refl _,fun h9=>absurd h9 (by decide)⟩
    refine e9.trans ?_
    exact rfl
   ·refine bN 46 rfl (by decide) (by decide) ?_
    intro f9 w2 hE hs hd9 hl
    have e45:f9.tmps.getD 45 undef=_:=bh hl 45 3 (by kernel_rfl) (by kernel_rfl)
    have h:=aE [(45,_)] hs hd9 (holds_lk ⟨e45,trivial⟩)
    have s:=s.more hE
    have z:=St.start w2
    refine ac h (ag (h.ev rfl)) rfl ?_;intro f h
    refine ah ?_
    have e9:=h.holds 46 _ rfl
    refine ⟨?_,Ext.refl _,fun h9=>absurd h9 (by decide)⟩
    refine e9.trans ?_
    exact rfl
   ·refine bN 47 rfl (by decide) (by decide) ?_
    intro f9 w2 hE hs hd9 hl
    have e4:f9.tmps.getD 4 undef=_:=cL hl 4 (by kernel_rfl) (by kernel_rfl) (h.holds 4 _ rfl)
    have e46:f9.tmps.getD 46 undef=_:=bh hl 46 4 (by kernel_rfl) (by kernel_rfl)
    have h:=aE [(4,_),(46,_)] hs hd9 (holds_lk ⟨e4,e46,trivial⟩)
    have s:=s.more hE
    have z:=St.start w2
    refine aB (b:=true) h rfl rfl rfl rfl ?_;intro f h
    refine ah ?_
    have e9:=h.holds 47 _ rfl
    refine ⟨?_,Ext.refl _,fun h9=>absurd h9 (by decide)⟩
    refine e9.trans ?_
    exact rfl
   ·refine bN 48 rfl (by decide) (by decide) ?_
    intro f9 w2 hE hs hd9 hl
    have e47:f9.tmps.getD 47 undef=_:=bh hl 47 5 (by kernel_rfl) (by kernel_rfl)
    have e46:f9.tmps.getD 46 undef=_:=bh hl 46 4 (by kernel_rfl) (by kernel_rfl)
    have h:=aE [(47,_),(46,_)] hs hd9 (holds_lk ⟨e47,e46,trivial⟩)
    have s:=s.more hE
    have z:=St.start w2
    refine aB (b:=true) h rfl rfl rfl rfl ?_;intro f h
    refine ah ?_
    have e9:=h.holds 48 _ rfl
    refine ⟨?_,Ext.refl _,fun h9=>absurd h9 (by decide)⟩
    refine e9.trans ?_
    exact rfl
   ·refine bN 49 rfl (by decide) (by decide) ?_
    intro f9 w2 hE hs hd9 hl
    have e48:f9.tmps.getD 48 undef=_:=bh hl 48 6 (by kernel_rfl) (by kernel_rfl)
    have e46:f9.tmps.getD 46 undef=_:=bh hl 46 4 (by kernel_rfl) (by kernel_rfl)
    have h:=aE [(48,_),(46,_)] hs hd9 (holds_lk ⟨e48,e46,trivial⟩)
    have s:=s.more hE
    have z:=St.start w2
    refine aB (b:=true) h rfl rfl rfl rfl ?_;intro f h
    refine ah ?_
    have e9:=h.holds 49 _ rfl
    refine ⟨?_,Ext.refl _,fun h9=>absurd h9 (by decide)⟩
    refine e9.trans ?_
    exact rfl
   ·refine bN 50 rfl (by decide) (by decide) ?_
    intro f9 w2 hE hs hd9 hl
    have e49:f9.tmps.getD 49 undef=_:=bh hl 49 7 (by kernel_rfl) (by kernel_rfl)
    have e46:f9.tmps.getD 46 undef=_:=bh hl 46 4 (by kernel_rfl) (by kernel_rfl)
    have h:=aE [(49,_),(46,_)] hs hd9 (holds_lk ⟨e49,e46,trivial⟩)
    have s:=s.more hE
    have z:=St.start w2
    refine aB (b:=true) h rfl rfl rfl rfl ?_;intro f h
    refine ah ?_
    have e9:=h.holds 50 _ rfl
    refine ⟨?_,Ext.refl _,fun h9=>absurd h9 (by decide)⟩
    refine e9.trans ?_
    exact rfl
   ·refine bN 51 rfl (by decide) (by decide) ?_
    intro f9 w2 hE hs hd9 hl
    have e5:f9.tmps.getD 5 undef=_:=cL hl 5 (by kernel_rfl) (by kernel_rfl) (h.holds 5 _ rfl)
    have e46:f9.tmps.getD 46 undef=_:=bh hl 46 4 (by kernel_rfl) (by kernel_rfl)
    have h:=aE [(5,_),(46,_)] hs hd9 (holds_lk ⟨e5,e46,trivial⟩)
    have s:=s.more hE
    have z:=St.start w2
    refine aB (b:=true) h rfl rfl rfl rfl ?_;intro f h
    refine ah ?_
    have e9:=h.holds 51 _ rfl
    refine ⟨?_,Ext.refl _,fun h9=>absurd h9 (by decide)⟩
    refine e9.trans ?_
    exact rfl
   ·refine bN 52 rfl (by decide) (by decide) ?_
    intro f9 w2 hE hs hd9 hl
    have e51:f9.tmps.getD 51 undef=_:=bh hl 51 9 (by kernel_rfl) (by kernel_rfl)
    have e46:f9.tmps.getD 46 undef=_:=bh hl 46 4 (by kernel_rfl) (by kernel_rfl)
    have h:=aE [(51,_),(46,_)] hs hd9 (holds_lk ⟨e51,e46,trivial⟩)
    have s:=s.more hE
    have z:=St.start w2
    refine aB (b:=true) h rfl rfl rfl rfl ?_;intro f h
    refine ah ?_
    have e9:=h.holds 52 _ rfl
    refine ⟨?_,Ext.refl _,fun h9=>absurd h9 (by decide)⟩
    refine e9.trans ?_
    exact rfl
   ·exact cG (by decide) (by decide)
   ·exact cG (by decide) (by decide)
   ·exact cG (by decide) (by decide)
   ·exact cG (by decide) (by decide)
   ·exact cG (by decide) (by decide)
   ·exact cG (by decide) (by decide)
   ·exact cG (by decide) (by decide)
   ·intro f9 w2 hE hs hd9 hWp hT hR hFr hDj
    replace h:=sl_new (ops:=_) [(42,_),(43,_),(44,_),(45,_),(46,_),(47,_),(48,_),(49,_),(50,_),(51,_),(52,_)] h hs hd9 hR ⟨hT 0 42 (by decide) rfl,hT 1 43 (by decide) rfl,hT 2 44 (by decide) rfl,hT 3 45 (by decide) rfl,hT 4 46 (by decide) rfl,hT 5 47 (by decide) rfl,hT 6 48 (by decide) rfl,hT 7 49 (by decide) rfl,hT 8 50 (by decide) rfl,hT 9 51 (by decide) rfl,hT 10 52 (by decide) rfl,trivial⟩ (by kernel_rfl)
    replace s:=s.more hE
    clear hT hR hFr hDj
    refine fG.of ?_
    refine aB (b:=true) h rfl rfl rfl rfl ?_;intro f h
    refine ac h (aF (h.ev rfl) (h.ev rfl)) rfl ?_;intro f h
    refine ac h (ag (h.ev rfl)) rfl ?_;intro f h
    refine aB (b:=true) h rfl rfl rfl rfl ?_;intro f h
    refine aB (b:=true) h rfl rfl rfl rfl ?_;intro f h
    refine aB (b:=true) h rfl rfl rfl rfl ?_;intro f h
    refine ac h (aF (h.ev rfl) (h.ev rfl)) rfl ?_;intro f h
    refine ah ?_
    refine hK12 _ _ ?_
    refine wpIn_cond_false (h.ev rfl) ?_
    refine wpIn_skip ?_
    refine hK11 _ _ ?_
    refine al fun K13 hK13=>?_
    refine al fun K14 hK14=>?_
    cases q0:(decide (n.pr=g.me):Bool)
    ·skip
     refine ae ?_
     refine ac h (ai aV (h.ev rfl)) rfl ?_;intro f h
     refine ax (aL.subL (aL.of_own s 7 rfl) 33 33 (D:=av n.pr) (bc _ _ _ _)) h aC rfl (aj _) rfl ?_;intro f h
     refine ac h (ai aK (h.ev rfl)) rfl ?_;intro f h
     refine ax (aL.subL (aL.of_own s 6 rfl) 0 33 (D:=av g.me) (bj _ _ _ _)) h aC rfl (aj _) rfl ?_;intro f h
     refine ac h (aw (.bool false) (bW (eo _ _) (by kernel_rfl) (by decide) (h.ev rfl) (h.ev rfl) (decide (n.pr=g.me)) (cR _ _)) (congrArg Value.bool q0)) rfl ?_;intro f h
     refine ac h (ag (h.ev rfl)) rfl ?_;intro f h
     refine aB (b:=true) h rfl rfl rfl rfl ?_;intro f h
     refine aB (b:=true) h rfl rfl rfl rfl ?_;intro f h
     refine aB (b:=true) h rfl rfl rfl rfl ?_;intro f h
     refine aB (b:=true) h rfl rfl rfl rfl ?_;intro f h
     refine aB (b:=true) h rfl rfl rfl rfl ?_;intro f h
     refine ac h (aF (h.ev rfl) (h.ev rfl)) rfl ?_;intro f h
     refine ac h (ag (h.ev rfl)) rfl ?_;intro f h
     refine aB (b:=true) h rfl rfl rfl rfl ?_;intro f h
     refine aB (b:=true) h rfl rfl rfl rfl ?_;intro f h
     refine aB (b:=true) h rfl rfl rfl rfl ?_;intro f h
     refine aB (b:=true) h rfl rfl rfl rfl ?_;intro f h
     refine aB (b:=true) h rfl rfl rfl rfl ?_;intro f h
     refine aB (b:=true) h rfl rfl rfl rfl ?_;intro f h
     refine aB (b:=true) h rfl rfl rfl rfl ?_;intro f h
     refine ac h (aF (h.ev rfl) (h.ev rfl)) rfl ?_;intro f h
     refine ah ?_
     refine hK14 _ _ ?_
     refine wpIn_cond_false (h.ev rfl) ?_
     refine wpIn_skip ?_
     refine hK13 _ _ ?_
     refine al fun K15 hK15=>?_
     refine ae ?_
     refine au 1 h s aW rfl rfl (ap _ _ _ _) rfl ?_;intro f h
     refine az 5 h s aW rfl rfl rfl (ap _ _ _ _) (ap _ _ _ _) (a7 (aQ (s.getSl 2 rfl)) (aQ (s.getSl 3 rfl))) ?_;intro w1 s
     refine ah ?_
     refine hK15 _ _ ?_
     refine wpIn_ret ?_
     exact c5 5 rfl h s aW rfl rfl (ap _ _ _ _) (dy (by unfold kZ;rw [(show ib (aR L) n g=false from by unfold ib;rw [q0];rfl)];rfl) (by unfold kh;rw [(show g8 (aR L) n g=false from by unfold g8;rw [← dg (k:=k) (by omega),s0];rfl)];exact rfl) (s.sel [2,3] rfl (by decide)))
    ·skip
     cases q1:(cx (aR L) g.pr.1:Bool)
     ·skip
      refine ae ?_
      refine ac h (ai aV (h.ev rfl)) rfl ?_;intro f h
      refine ax (aL.subL (aL.of_own s 7 rfl) 33 33 (D:=av n.pr) (bc _ _ _ _)) h aC rfl (aj _) rfl ?_;intro f h
      refine ac h (ai aK (h.ev rfl)) rfl ?_;intro f h
      refine ax (aL.subL (aL.of_own s 6 rfl) 0 33 (D:=av g.me) (bj _ _ _ _)) h aC rfl (aj _) rfl ?_;intro f h
      refine ac h (aw (.bool true) (bW (eo _ _) (by kernel_rfl) (by decide) (h.ev rfl) (h.ev rfl) (decide (n.pr=g.me)) (cR _ _)) (congrArg Value.bool q0)) rfl ?_;intro f h
      refine ac h (ag (h.ev rfl)) rfl ?_;intro f h
      refine aA h rfl rfl rfl ?_
      refine au 8 h s bk rfl rfl (rfl) rfl ?_;intro f h
      refine aA h rfl rfl rfl ?_
      refine ac h (ai aV (h.ev rfl)) rfl ?_;intro f h
      refine aA h rfl rfl rfl ?_
      refine ac h (ai aH (h.ev rfl)) rfl ?_;intro f h
      refine aA h rfl rfl rfl ?_
      refine aq (am (aL.of_own s 6 rfl) 33 (cF _ _ _ _)) h bw rfl rfl ?_;intro f h
      refine aA h rfl rfl rfl ?_
      refine aI h s fi (aM (.bool false) (c3 L vo g.pr.1 _ (hO.keep s.ext) hL) (congrArg Value.bool q1)) rfl rfl ?_;intro f w1 v9 hT hE h s;obtain rfl:=hT
      refine ac h (aD (h.ev rfl) (h.ev rfl)) rfl ?_;intro f h
      refine ac h (ag (h.ev rfl)) rfl ?_;intro f h
      refine aB (b:=true) h rfl rfl rfl rfl ?_;intro f h
      refine aB (b:=true) h rfl rfl rfl rfl ?_;intro f h
      refine aB (b:=true) h rfl rfl rfl rfl ?_;intro f h
      refine aB (b:=true) h rfl rfl rfl rfl ?_;intro f h
      refine aB (b:=true) h rfl rfl rfl rfl ?_;intro f h
      refine aB (b:=true) h rfl rfl rfl rfl ?_;intro f h
      refine aB (b:=true) h rfl rfl rfl rfl ?_;intro f h
      refine ac h (aF (h.ev rfl) (h.ev rfl)) rfl ?_;intro f h
      refine ah ?_
      refine hK14 _ _ ?_
      refine wpIn_cond_false (h.ev rfl) ?_
      refine wpIn_skip ?_
      refine hK13 _ _ ?_
      refine al fun K16 hK16=>?_
      refine ae ?_
      refine au 1 h s aW rfl rfl (ap _ _ _ _) rfl ?_;intro f h
      refine az 5 h s aW rfl rfl rfl (ap _ _ _ _) (ap _ _ _ _) (a7 (aQ (s.getSl 2 rfl)) (aQ (s.getSl 3 rfl))) ?_;intro w1 s
      refine ah ?_
      refine hK16 _ _ ?_
      refine wpIn_ret ?_
      exact c5 5 rfl h s aW rfl rfl (ap _ _ _ _) (dy (by unfold kZ;rw [(show ib (aR L) n g=false from by unfold ib;rw [q0,q1];rfl)];rfl) (by unfold kh;rw [(show g8 (aR L) n g=false from by unfold g8;rw [← dg (k:=k) (by omega),s0];rfl)];exact rfl) (s.sel [2,3] rfl (by decide)))
     ·skip
      cases q2:(decide (g.pr.1≠n.me.1):Bool)
      ·skip
       refine ae ?_
       refine ac h (ai aV (h.ev rfl)) rfl ?_;intro f h
       refine ax (aL.subL (aL.of_own s 7 rfl) 33 33 (D:=av n.pr) (bc _ _ _ _)) h aC rfl (aj _) rfl ?_;intro f h
       refine ac h (ai aK (h.ev rfl)) rfl ?_;intro f h
       refine ax (aL.subL (aL.of_own s 6 rfl) 0 33 (D:=av g.me) (bj _ _ _ _)) h aC rfl (aj _) rfl ?_;intro f h
       refine ac h (aw (.bool true) (bW (eo _ _) (by kernel_rfl) (by decide) (h.ev rfl) (h.ev rfl) (decide (n.pr=g.me)) (cR _ _)) (congrArg Value.bool q0)) rfl ?_;intro f h
       refine ac h (ag (h.ev rfl)) rfl ?_;intro f h
       refine aA h rfl rfl rfl ?_
       refine au 8 h s bk rfl rfl (rfl) rfl ?_;intro f h
       refine aA h rfl rfl rfl ?_
       refine ac h (ai aV (h.ev rfl)) rfl ?_;intro f h
       refine aA h rfl rfl rfl ?_
       refine ac h (ai aH (h.ev rfl)) rfl ?_;intro f h
       refine aA h rfl rfl rfl ?_
       refine aq (am (aL.of_own s 6 rfl) 33 (cF _ _ _ _)) h bw rfl rfl ?_;intro f h
       refine aA h rfl rfl rfl ?_
       refine aI h s fi (aM (.bool true) (c3 L vo g.pr.1 _ (hO.keep s.ext) hL) (congrArg Value.bool q1)) rfl rfl ?_;intro f w1 v9 hT hE h s;obtain rfl:=hT
       refine ac h (aD (h.ev rfl) (h.ev rfl)) rfl ?_;intro f h
       refine ac h (ag (h.ev rfl)) rfl ?_;intro f h
       refine aA h rfl rfl rfl ?_
       refine ac h (ai aV (h.ev rfl)) rfl ?_;intro f h
       refine aA h rfl rfl rfl ?_
       refine ac h (ai aH (h.ev rfl)) rfl ?_;intro f h
       refine aA h rfl rfl rfl ?_
       refine aq (am (aL.of_own s 6 rfl) 33 (cF _ _ _ _)) h bw rfl rfl ?_;intro f h
       refine aA h rfl rfl rfl ?_
       refine ac h (ai aK (h.ev rfl)) rfl ?_;intro f h
       refine aA h rfl rfl rfl ?_
       refine ac h (ai aH (h.ev rfl)) rfl ?_;intro f h
       refine aA h rfl rfl rfl ?_
       refine aq (am (aL.of_own s 7 rfl) 0 (bZ _ _ _ _)) h bw rfl rfl ?_;intro f h
       refine aA h rfl rfl rfl ?_
       refine ac h (aw (.bool false) (cy (h.ev rfl) (h.ev rfl)) (congrArg Value.bool q2)) rfl ?_;intro f h
       refine ac h (aD (h.ev rfl) (h.ev rfl)) rfl ?_;intro f h
       refine ah ?_
       refine hK14 _ _ ?_
       refine wpIn_cond_false (h.ev rfl) ?_
       refine wpIn_skip ?_
       refine hK13 _ _ ?_
       refine al fun K17 hK17=>?_
       refine ae ?_
       refine au 1 h s aW rfl rfl (ap _ _ _ _) rfl ?_;intro f h
       refine az 5 h s aW rfl rfl rfl (ap _ _ _ _) (ap _ _ _ _) (a7 (aQ (s.getSl 2 rfl)) (aQ (s.getSl 3 rfl))) ?_;intro w1 s
       refine ah ?_
       refine hK17 _ _ ?_
       refine wpIn_ret ?_
       exact c5 5 rfl h s aW rfl rfl (ap _ _ _ _) (dy (by unfold kZ;rw [(show ib (aR L) n g=false from by unfold ib;rw [q0,q1,q2];rfl)];rfl) (by unfold kh;rw [(show g8 (aR L) n g=false from by unfold g8;rw [← dg (k:=k) (by omega),s0];rfl)];exact rfl) (s.sel [2,3] rfl (by decide)))
      ·skip
       refine ae ?_
       refine ac h (ai aV (h.ev rfl)) rfl ?_;intro f h
       refine ax (aL.subL (aL.of_own s 7 rfl) 33 33 (D:=av n.pr) (bc _ _ _ _)) h aC rfl (aj _) rfl ?_;intro f h
       refine ac h (ai aK (h.ev rfl)) rfl ?_;intro f h
       refine ax (aL.subL (aL.of_own s 6 rfl) 0 33 (D:=av g.me) (bj _ _ _ _)) h aC rfl (aj _) rfl ?_;intro f h
       refine ac h (aw (.bool true) (bW (eo _ _) (by kernel_rfl) (by decide) (h.ev rfl) (h.ev rfl) (decide (n.pr=g.me)) (cR _ _)) (congrArg Value.bool q0)) rfl ?_;intro f h
       refine ac h (ag (h.ev rfl)) rfl ?_;intro f h
       refine aA h rfl rfl rfl ?_
       refine au 8 h s bk rfl rfl (rfl) rfl ?_;intro f h
       refine aA h rfl rfl rfl ?_
       refine ac h (ai aV (h.ev rfl)) rfl ?_;intro f h
       refine aA h rfl rfl rfl ?_
       refine ac h (ai aH (h.ev rfl)) rfl ?_;intro f h
       refine aA h rfl rfl rfl ?_
       refine aq (am (aL.of_own s 6 rfl) 33 (cF _ _ _ _)) h bw rfl rfl ?_;intro f h
       refine aA h rfl rfl rfl ?_
       refine aI h s fi (aM (.bool true) (c3 L vo g.pr.1 _ (hO.keep s.ext) hL) (congrArg Value.bool q1)) rfl rfl ?_;intro f w1 v9 hT hE h s;obtain rfl:=hT
       refine ac h (aD (h.ev rfl) (h.ev rfl)) rfl ?_;intro f h
       refine ac h (ag (h.ev rfl)) rfl ?_;intro f h
       refine aA h rfl rfl rfl ?_
       refine ac h (ai aV (h.ev rfl)) rfl ?_;intro f h
       refine aA h rfl rfl rfl ?_
       refine ac h (ai aH (h.ev rfl)) rfl ?_;intro f h
       refine aA h rfl rfl rfl ?_
       refine aq (am (aL.of_own s 6 rfl) 33 (cF _ _ _ _)) h bw rfl rfl ?_;intro f h
       refine aA h rfl rfl rfl ?_
       refine ac h (ai aK (h.ev rfl)) rfl ?_;intro f h
       refine aA h rfl rfl rfl ?_
       refine ac h (ai aH (h.ev rfl)) rfl ?_;intro f h
       refine aA h rfl rfl rfl ?_
       refine aq (am (aL.of_own s 7 rfl) 0 (bZ _ _ _ _)) h bw rfl rfl ?_;intro f h
       refine aA h rfl rfl rfl ?_
       refine ac h (aw (.bool true) (cy (h.ev rfl) (h.ev rfl)) (congrArg Value.bool q2)) rfl ?_;intro f h
       refine ac h (aD (h.ev rfl) (h.ev rfl)) rfl ?_;intro f h
       refine ah ?_
       refine hK14 _ _ ?_
       refine wpIn_cond_true (h.ev rfl) ?_
       refine ae ?_
       refine ac h (ai aV (h.ev rfl)) rfl ?_;intro f h
       refine ax (aL.subL (aL.of_own s 6 rfl) 33 33 (D:=av g.pr) (bc _ _ _ _)) h aC rfl (aj _) rfl ?_;intro f h
       refine ac h (ai aV (h.ev rfl)) rfl ?_;intro f h
       refine dE 1 h s aC rfl rfl rfl (aj _) (by rw [ap];omega) (aS _) ?_;intro w1 s
       replace s:=s.recell (D:=ay n.me g.pr du dv) 1 rfl (ff _ _ _ _ _)
       refine ah ?_
       refine hK13 _ _ ?_
       refine al fun K18 hK18=>?_
       refine ae ?_
       refine au 1 h s aW rfl rfl (ap _ _ _ _) rfl ?_;intro f h
       refine az 5 h s aW rfl rfl rfl (ap _ _ _ _) (ap _ _ _ _) (a7 (aQ (s.getSl 2 rfl)) (aQ (s.getSl 3 rfl))) ?_;intro w1 s
       refine ah ?_
       refine hK18 _ _ ?_
       refine wpIn_ret ?_
       exact c5 5 rfl h s aW rfl rfl (ap _ _ _ _) (dy (by unfold kZ;rw [(show ib (aR L) n g=true from by unfold ib;rw [q0,q1,q2];rfl)];rfl) (by unfold kh;rw [(show g8 (aR L) n g=false from by unfold g8;rw [← dg (k:=k) (by omega),s0];rfl)];exact rfl) (s.sel [2,3] rfl (by decide)))
  ·try have h19:=of_decide_eq_true s0
   skip
   cases s1:(decide (n.sc.getD 0 aZ=g.me):Bool)
   ·try have h19:=of_decide_eq_true s0
    skip
    have hbs:=s.ext.le
    refine' im 11 [0] [] [[],[0],[0,1],[0,1,2],[0,1,2,3],[0,1,2,3,4],[0,1,2,3,4,5],[0,1,2,3,4,5,6],[0,1,2,3,4,5,6,7],[0,1,2,3,4],[0,1,2,3,4,9],[0,1,2,3,4,5,6,7,8,9,10],[0,1,2,3,4,5,6,7,8,9,10,11],[0,1,2,3,4,5,6,7,8,9,10,11,12],[0,1,2,3,4,5,6,7,8,9,10,11,12,13],[0,1,2,3,4,5,6,7,8,9,10,11,12,13,14],[0,1,2,3,4,5,6,7,8,9,10,11,12,13,14,15],[0,1,2,3,4,5,6,7,8,9,10,11,12,13,14,15,16]] (is _::is _::is _::is _::is _::is _::is _::is _::is _::is _::is _::is undef::is undef::is undef::is undef::is undef::is undef::is undef::[]) (fun _=>True) h s (by kernel_rfl) (by kernel_rfl) (by kernel_rfl) (by kernel_rfl) rfl (fun _ _ h _=>h) (trivial) ⟨⟨_,rfl⟩,trivial⟩ ⟨aN _,aN _,aN _,aN _,aN _,aN _,aN _,aN _,aN _,aN _,aN _,aN _,aN _,aN _,aN _,aN _,aN _,aN _,trivial⟩ (And.intro ?_ (And.intro ?_ (And.intro ?_ (And.intro ?_ (And.intro ?_ (And.intro ?_ (And.intro ?_ (And.intro ?_ (And.intro ?_ (And.intro ?_ (And.intro ?_ (And.intro ?_ (And.intro ?_ (And.intro ?_ (And.intro ?_ (And.intro ?_ (And.intro ?_ (And.intro ?_ (trivial))))))))))))))))))) ?_
    rotate_left 11
    ·refine dQ 42 rfl (by decide) ?_
     intro f9 w2 hE hs hl
     have e4:f9.tmps.getD 4 undef=_:=cL hl 4 (by kernel_rfl) (by kernel_rfl) (h.holds 4 _ rfl)
     have h:=aE [(4,_)] hs rfl (holds_lk ⟨e4,trivial⟩)
     refine ac h (ai bC (h.ev rfl)) rfl ?_;intro f h
     refine ah ?_
     have e9:=h.holds 42 _ rfl
     refine ⟨?_,rfl⟩
     refine e9.trans ?_
     exact rfl
    ·refine bN 43 rfl (by decide) (by decide) ?_
     intro f9 w2 hE hs hd9 hl
     have e42:f9.tmps.getD 42 undef=_:=bh hl 42 0 (by kernel_rfl) (by kernel_rfl)
     have h:=aE [(42,_)] hs hd9 (holds_lk ⟨e42,trivial⟩)
     have s:=s.more hE
     have z:=St.start w2
     refine aq (V:=vs) (am (aL.of_own s 7 rfl) 66 (bA _ _ _ _)) h bE rfl rfl ?_;intro f h
     refine ah ?_
     have e9:=h.holds 43 _ rfl
     refine ⟨?_,Ext.refl _,fun h9=>absurd h9 (by decide)⟩
     refine e9.trans ?_
     exact rfl
    ·refine bN 44 rfl (by decide) (by decide) ?_
     intro f9 w2 hE hs hd9 hl
     have e43:f9.tmps.getD 43 undef=_:=bh hl 43 1 (by kernel_rfl) (by kernel_rfl)
     have h:=aE [(43,_)] hs hd9 (holds_lk ⟨e43,trivial⟩)
     have s:=s.more hE
     have z:=St.start w2
     refine ac h (a8 (hRs.keep s.ext) Tryz.underlying36 (h.ev rfl)) rfl ?_;intro f h
     refine ah ?_
     have e9:=h.holds 44 _ rfl
     refine ⟨?_,Ext.refl _,fun h9=>absurd h9 (by decide)⟩
     refine e9.trans ?_
     exact rfl
    ·refine bN 45 rfl (by decide) (by decide) ?_
     intro f9 w2 hE hs hd9 hl
     have e44:f9.tmps.getD 44 undef=_:=bh hl 44 2 (by kernel_rfl) (by kernel_rfl)
     have h:=aE [(44,_)] hs hd9 (holds_lk ⟨e44,trivial⟩)
     have s:=s.more hE
     have z:=St.start w2
     refine ac h (aw (.bool true) (bU (h.ev rfl) (h.ev rfl)) (congrArg Value.bool (decide_eq_true (by have:=of_decide_eq_true s0;omega)))) rfl ?_;intro f h
     refine ah ?_
     have e9:=h.holds 45 _ rfl
     refine ⟨?_,Ext.refl _,fun h9=>absurd h9 (by decide)⟩
     refine e9.trans ?_
     exact rfl
    ·refine bN 46 rfl (by decide) (by decide) ?_
     intro f9 w2 hE hs hd9 hl
     have e45:f9.tmps.getD 45 undef=_:=bh hl 45 3 (by kernel_rfl) (by kernel_rfl)
     have h:=aE [(45,_)] hs hd9 (holds_lk ⟨e45,trivial⟩)
     have s:=s.more hE
     have z:=St.start w2
     refine ac h (ag (h.ev rfl)) rfl ?_;intro f h
     refine ah ?_
     have e9:=h.holds 46 _ rfl
     refine ⟨?_,Ext.refl _,fun h9=>absurd h9 (by decide)⟩
     refine e9.trans ?_
     exact rfl
    ·refine bN 47 rfl (by decide) (by decide) ?_
     intro f9 w2 hE hs hd9 hl
     have e4:f9.tmps.getD 4 undef=_:=cL hl 4 (by kernel_rfl) (by kernel_rfl) (h.holds 4 _ rfl)
     have e46:f9.tmps.getD 46 undef=_:=bh hl 46 4 (by kernel_rfl) (by kernel_rfl)
     have h:=aE [(4,_),(46,_)] hs hd9 (holds_lk ⟨e4,e46,trivial⟩)
     have s:=s.more hE
     have z:=St.start w2
     refine aA h rfl rfl rfl ?_
     refine ac h (ai bC (h.ev rfl)) rfl ?_;intro f h
     refine ah ?_
     have e9:=h.holds 47 _ rfl
     refine ⟨?_,Ext.refl _,fun h9=>absurd h9 (by decide)⟩
     refine e9.trans ?_
     exact rfl
    ·refine bN 48 rfl (by decide) (by decide) ?_
     intro f9 w2 hE hs hd9 hl
     have e47:f9.tmps.getD 47 undef=_:=bh hl 47 5 (by kernel_rfl) (by kernel_rfl)
     have e46:f9.tmps.getD 46 undef=_:=bh hl 46 4 (by kernel_rfl) (by kernel_rfl)
     have h:=aE [(47,_),(46,_)] hs hd9 (holds_lk ⟨e47,e46,trivial⟩)
     have s:=s.more hE
     have z:=St.start w2
     refine aA h rfl rfl rfl ?_
     refine aq (V:=vs) (am (aL.of_own s 7 rfl) 66 (bA _ _ _ _)) h bE rfl rfl ?_;intro f h
     refine ah ?_
     have e9:=h.holds 48 _ rfl
     refine ⟨?_,Ext.refl _,fun h9=>absurd h9 (by decide)⟩
     refine e9.trans ?_
     exact rfl
    ·refine bN 49 rfl (by decide) (by decide) ?_
     intro f9 w2 hE hs hd9 hl
     have e48:f9.tmps.getD 48 undef=_:=bh hl 48 6 (by kernel_rfl) (by kernel_rfl)
     have e46:f9.tmps.getD 46 undef=_:=bh hl 46 4 (by kernel_rfl) (by kernel_rfl)
     have h:=aE [(48,_),(46,_)] hs hd9 (holds_lk ⟨e48,e46,trivial⟩)
     have s:=s.more hE
     have z:=St.start w2
     refine aA h rfl rfl rfl ?_
     refine ac h (cc (hRs.keep s.ext) (0) Tryz.underlying36 cD (h.ev rfl) (h.ev rfl) (by have h9:=of_decide_eq_true s0;omega) (by omega)) rfl ?_;intro f h
     refine ah ?_
     have e9:=h.holds 49 _ rfl
     refine ⟨?_,Ext.refl _,fun h9=>absurd h9 (by decide)⟩
     refine e9.trans ?_
     exact rfl
    ·refine bN 50 rfl (by decide) (by decide) ?_
     intro f9 w2 hE hs hd9 hl
     have e49:f9.tmps.getD 49 undef=_:=bh hl 49 7 (by kernel_rfl) (by kernel_rfl)
     have e46:f9.tmps.getD 46 undef=_:=bh hl 46 4 (by kernel_rfl) (by kernel_rfl)
     have h:=aE [(49,_),(46,_)] hs hd9 (holds_lk ⟨e49,e46,trivial⟩)
     have s:=s.more hE
     have z:=St.start w2
     refine aA h rfl rfl rfl ?_
     refine ax ((hRs.keep s.ext).el (0) (by omega) (by decide) (D:=av (n.sc.getD 0 aZ)) (cI n.sc 0 (by omega))) h aC rfl (aj _) rfl ?_;intro f h
     refine ah ?_
     have e9:=h.holds 50 _ rfl
     refine ⟨?_,Ext.refl _,fun h9=>absurd h9 (by decide)⟩
     refine e9.trans ?_
     exact rfl
    ·refine bN 51 rfl (by decide) (by decide) ?_
     intro f9 w2 hE hs hd9 hl
     have e5:f9.tmps.getD 5 undef=_:=cL hl 5 (by kernel_rfl) (by kernel_rfl) (h.holds 5 _ rfl)
     have e46:f9.tmps.getD 46 undef=_:=bh hl 46 4 (by kernel_rfl) (by kernel_rfl)
     have h:=aE [(5,_),(46,_)] hs hd9 (holds_lk ⟨e5,e46,trivial⟩)
     have s:=s.more hE
     have z:=St.start w2
     refine aA h rfl rfl rfl ?_
     refine ac h (ai aK (h.ev rfl)) rfl ?_;intro f h
     refine ah ?_
     have e9:=h.holds 51 _ rfl
     refine ⟨?_,Ext.refl _,fun h9=>absurd h9 (by decide)⟩
     refine e9.trans ?_
     exact rfl
    ·refine bN 52 rfl (by decide) (by decide) ?_
     intro f9 w2 hE hs hd9 hl
     have e51:f9.tmps.getD 51 undef=_:=bh hl 51 9 (by kernel_rfl) (by kernel_rfl)
     have e46:f9.tmps.getD 46 undef=_:=bh hl 46 4 (by kernel_rfl) (by kernel_rfl)
     have h:=aE [(51,_),(46,_)] hs hd9 (holds_lk ⟨e51,e46,trivial⟩)
     have s:=s.more hE
     have z:=St.start w2
     refine aA h rfl rfl rfl ?_
     refine ax (aL.subL (aL.of_own s 6 rfl) 0 33 (D:=av g.me) (bj _ _ _ _)) h aC rfl (aj _) rfl ?_;intro f h
     refine ah ?_
     have e9:=h.holds 52 _ rfl
     refine ⟨?_,Ext.refl _,fun h9=>absurd h9 (by decide)⟩
     refine e9.trans ?_
     exact rfl
    ·exact cG (by decide) (by decide)
    ·exact cG (by decide) (by decide)
    ·exact cG (by decide) (by decide)
    ·exact cG (by decide) (by decide)
    ·exact cG (by decide) (by decide)
    ·exact cG (by decide) (by decide)
    ·exact cG (by decide) (by decide)
    ·intro f9 w2 hE hs hd9 hWp hT hR hFr hDj
     replace h:=sl_new (ops:=_) [(42,_),(43,_),(44,_),(45,_),(46,_),(47,_),(48,_),(49,_),(50,_),(51,_),(52,_)] h hs hd9 hR ⟨hT 0 42 (by decide) rfl,hT 1 43 (by decide) rfl,hT 2 44 (by decide) rfl,hT 3 45 (by decide) rfl,hT 4 46 (by decide) rfl,hT 5 47 (by decide) rfl,hT 6 48 (by decide) rfl,hT 7 49 (by decide) rfl,hT 8 50 (by decide) rfl,hT 9 51 (by decide) rfl,hT 10 52 (by decide) rfl,trivial⟩ (by kernel_rfl)
     replace s:=s.more hE
     clear hT hR hFr hDj
     refine fG.of ?_
     refine aA h rfl rfl rfl ?_
     refine ac h (aw (.bool false) (bW (eo _ _) (by kernel_rfl) (by decide) (h.ev rfl) (h.ev rfl) (decide (n.sc.getD 0 aZ=g.me)) (cR _ _)) (congrArg Value.bool s1)) rfl ?_;intro f h
     refine ac h (aD (h.ev rfl) (h.ev rfl)) rfl ?_;intro f h
     refine ac h (ag (h.ev rfl)) rfl ?_;intro f h
     refine aB (b:=true) h rfl rfl rfl rfl ?_;intro f h
     refine aB (b:=true) h rfl rfl rfl rfl ?_;intro f h
     refine aB (b:=true) h rfl rfl rfl rfl ?_;intro f h
     refine ac h (aF (h.ev rfl) (h.ev rfl)) rfl ?_;intro f h
     refine ah ?_
     refine hK12 _ _ ?_
     refine wpIn_cond_false (h.ev rfl) ?_
     refine wpIn_skip ?_
     refine hK11 _ _ ?_
     refine al fun K19 hK19=>?_
     refine al fun K20 hK20=>?_
     cases q0:(decide (n.pr=g.me):Bool)
     ·skip
      refine ae ?_
      refine ac h (ai aV (h.ev rfl)) rfl ?_;intro f h
      refine ax (aL.subL (aL.of_own s 7 rfl) 33 33 (D:=av n.pr) (bc _ _ _ _)) h aC rfl (aj _) rfl ?_;intro f h
      refine ac h (ai aK (h.ev rfl)) rfl ?_;intro f h
      refine ax (aL.subL (aL.of_own s 6 rfl) 0 33 (D:=av g.me) (bj _ _ _ _)) h aC rfl (aj _) rfl ?_;intro f h
      refine ac h (aw (.bool false) (bW (eo _ _) (by kernel_rfl) (by decide) (h.ev rfl) (h.ev rfl) (decide (n.pr=g.me)) (cR _ _)) (congrArg Value.bool q0)) rfl ?_;intro f h
      refine ac h (ag (h.ev rfl)) rfl ?_;intro f h
      refine aB (b:=true) h rfl rfl rfl rfl ?_;intro f h
      refine aB (b:=true) h rfl rfl rfl rfl ?_;intro f h
      refine aB (b:=true) h rfl rfl rfl rfl ?_;intro f h
      refine aB (b:=true) h rfl rfl rfl rfl ?_;intro f h
      refine aB (b:=true) h rfl rfl rfl rfl ?_;intro f h
      refine ac h (aF (h.ev rfl) (h.ev rfl)) rfl ?_;intro f h
      refine ac h (ag (h.ev rfl)) rfl ?_;intro f h
      refine aB (b:=true) h rfl rfl rfl rfl ?_;intro f h
      refine aB (b:=true) h rfl rfl rfl rfl ?_;intro f h
      refine aB (b:=true) h rfl rfl rfl rfl ?_;intro f h
      refine aB (b:=true) h rfl rfl rfl rfl ?_;intro f h
      refine aB (b:=true) h rfl rfl rfl rfl ?_;intro f h
      refine aB (b:=true) h rfl rfl rfl rfl ?_;intro f h
      refine aB (b:=true) h rfl rfl rfl rfl ?_;intro f h
      refine ac h (aF (h.ev rfl) (h.ev rfl)) rfl ?_;intro f h
      refine ah ?_
      refine hK20 _ _ ?_
      refine wpIn_cond_false (h.ev rfl) ?_
      refine wpIn_skip ?_
      refine hK19 _ _ ?_
      refine al fun K21 hK21=>?_
      refine ae ?_
      refine au 1 h s aW rfl rfl (ap _ _ _ _) rfl ?_;intro f h
      refine az 5 h s aW rfl rfl rfl (ap _ _ _ _) (ap _ _ _ _) (a7 (aQ (s.getSl 2 rfl)) (aQ (s.getSl 3 rfl))) ?_;intro w1 s
      refine ah ?_
      refine hK21 _ _ ?_
      refine wpIn_ret ?_
      exact c5 5 rfl h s aW rfl rfl (ap _ _ _ _) (dy (by unfold kZ;rw [(show ib (aR L) n g=false from by unfold ib;rw [q0];rfl)];rfl) (by unfold kh;rw [(show g8 (aR L) n g=false from by unfold g8;rw [← dg (k:=k) (by omega),s0,s1];rfl)];exact rfl) (s.sel [2,3] rfl (by decide)))
     ·skip
      cases q1:(cx (aR L) g.pr.1:Bool)
      ·skip
       refine ae ?_
       refine ac h (ai aV (h.ev rfl)) rfl ?_;intro f h
       refine ax (aL.subL (aL.of_own s 7 rfl) 33 33 (D:=av n.pr) (bc _ _ _ _)) h aC rfl (aj _) rfl ?_;intro f h
       refine ac h (ai aK (h.ev rfl)) rfl ?_;intro f h
       refine ax (aL.subL (aL.of_own s 6 rfl) 0 33 (D:=av g.me) (bj _ _ _ _)) h aC rfl (aj _) rfl ?_;intro f h
       refine ac h (aw (.bool true) (bW (eo _ _) (by kernel_rfl) (by decide) (h.ev rfl) (h.ev rfl) (decide (n.pr=g.me)) (cR _ _)) (congrArg Value.bool q0)) rfl ?_;intro f h
       refine ac h (ag (h.ev rfl)) rfl ?_;intro f h
       refine aA h rfl rfl rfl ?_
       refine au 8 h s bk rfl rfl (rfl) rfl ?_;intro f h
       refine aA h rfl rfl rfl ?_
       refine ac h (ai aV (h.ev rfl)) rfl ?_;intro f h
       refine aA h rfl rfl rfl ?_
       refine ac h (ai aH (h.ev rfl)) rfl ?_;intro f h
       refine aA h rfl rfl rfl ?_
       refine aq (am (aL.of_own s 6 rfl) 33 (cF _ _ _ _)) h bw rfl rfl ?_;intro f h
       refine aA h rfl rfl rfl ?_
       refine aI h s fi (aM (.bool false) (c3 L vo g.pr.1 _ (hO.keep s.ext) hL) (congrArg Value.bool q1)) rfl rfl ?_;intro f w1 v9 hT hE h s;obtain rfl:=hT
       refine ac h (aD (h.ev rfl) (h.ev rfl)) rfl ?_;intro f h
       refine ac h (ag (h.ev rfl)) rfl ?_;intro f h
       refine aB (b:=true) h rfl rfl rfl rfl ?_;intro f h
       refine aB (b:=true) h rfl rfl rfl rfl ?_;intro f h
       refine aB (b:=true) h rfl rfl rfl rfl ?_;intro f h
       refine aB (b:=true) h rfl rfl rfl rfl ?_;intro f h
       refine aB (b:=true) h rfl rfl rfl rfl ?_;intro f h
       refine aB (b:=true) h rfl rfl rfl rfl ?_;intro f h
       refine aB (b:=true) h rfl rfl rfl rfl ?_;intro f h
       refine ac h (aF (h.ev rfl) (h.ev rfl)) rfl ?_;intro f h
       refine ah ?_
       refine hK20 _ _ ?_
       refine wpIn_cond_false (h.ev rfl) ?_
       refine wpIn_skip ?_
       refine hK19 _ _ ?_
       refine al fun K22 hK22=>?_
       refine ae ?_
       refine au 1 h s aW rfl rfl (ap _ _ _ _) rfl ?_;intro f h
       refine az 5 h s aW rfl rfl rfl (ap _ _ _ _) (ap _ _ _ _) (a7 (aQ (s.getSl 2 rfl)) (aQ (s.getSl 3 rfl))) ?_;intro w1 s
       refine ah ?_
       refine hK22 _ _ ?_
       refine wpIn_ret ?_
       exact c5 5 rfl h s aW rfl rfl (ap _ _ _ _) (dy (by unfold kZ;rw [(show ib (aR L) n g=false from by unfold ib;rw [q0,q1];rfl)];rfl) (by unfold kh;rw [(show g8 (aR L) n g=false from by unfold g8;rw [← dg (k:=k) (by omega),s0,s1];rfl)];exact rfl) (s.sel [2,3] rfl (by decide)))
      ·skip
       cases q2:(decide (g.pr.1≠n.me.1):Bool)
       ·skip
        refine ae ?_
        refine ac h (ai aV (h.ev rfl)) rfl ?_;intro f h
        refine ax (aL.subL (aL.of_own s 7 rfl) 33 33 (D:=av n.pr) (bc _ _ _ _)) h aC rfl (aj _) rfl ?_;intro f h
        refine ac h (ai aK (h.ev rfl)) rfl ?_;intro f h
        refine ax (aL.subL (aL.of_own s 6 rfl) 0 33 (D:=av g.me) (bj _ _ _ _)) h aC rfl (aj _) rfl ?_;intro f h
        refine ac h (aw (.bool true) (bW (eo _ _) (by kernel_rfl) (by decide) (h.ev rfl) (h.ev rfl) (decide (n.pr=g.me)) (cR _ _)) (congrArg Value.bool q0)) rfl ?_;intro f h
        refine ac h (ag (h.ev rfl)) rfl ?_;intro f h
        refine aA h rfl rfl rfl ?_
        refine au 8 h s bk rfl rfl (rfl) rfl ?_;intro f h
        refine aA h rfl rfl rfl ?_
        refine ac h (ai aV (h.ev rfl)) rfl ?_;intro f h
        refine aA h rfl rfl rfl ?_
        refine ac h (ai aH (h.ev rfl)) rfl ?_;intro f h
        refine aA h rfl rfl rfl ?_
        refine aq (am (aL.of_own s 6 rfl) 33 (cF _ _ _ _)) h bw rfl rfl ?_;intro f h
        refine aA h rfl rfl rfl ?_
        refine aI h s fi (aM (.bool true) (c3 L vo g.pr.1 _ (hO.keep s.ext) hL) (congrArg Value.bool q1)) rfl rfl ?_;intro f w1 v9 hT hE h s;obtain rfl:=hT
        refine ac h (aD (h.ev rfl) (h.ev rfl)) rfl ?_;intro f h
        refine ac h (ag (h.ev rfl)) rfl ?_;intro f h
        refine aA h rfl rfl rfl ?_
        refine ac h (ai aV (h.ev rfl)) rfl ?_;intro f h
        refine aA h rfl rfl rfl ?_
        refine ac h (ai aH (h.ev rfl)) rfl ?_;intro f h
        refine aA h rfl rfl rfl ?_
        refine aq (am (aL.of_own s 6 rfl) 33 (cF _ _ _ _)) h bw rfl rfl ?_;intro f h
        refine aA h rfl rfl rfl ?_
        refine ac h (ai aK (h.ev rfl)) rfl ?_;intro f h
        refine aA h rfl rfl rfl ?_
        refine ac h (ai aH (h.ev rfl)) rfl ?_;intro f h
        refine aA h rfl rfl rfl ?_
        refine aq (am (aL.of_own s 7 rfl) 0 (bZ _ _ _ _)) h bw rfl rfl ?_;intro f h
        refine aA h rfl rfl rfl ?_
        refine ac h (aw (.bool false) (cy (h.ev rfl) (h.ev rfl)) (congrArg Value.bool q2)) rfl ?_;intro f h
        refine ac h (aD (h.ev rfl) (h.ev rfl)) rfl ?_;intro f h
        refine ah ?_
        refine hK20 _ _ ?_
        refine wpIn_cond_false (h.ev rfl) ?_
        refine wpIn_skip ?_
        refine hK19 _ _ ?_
        refine al fun K23 hK23=>?_
        refine ae ?_
        refine au 1 h s aW rfl rfl (ap _ _ _ _) rfl ?_;intro f h
        refine az 5 h s aW rfl rfl rfl (ap _ _ _ _) (ap _ _ _ _) (a7 (aQ (s.getSl 2 rfl)) (aQ (s.getSl 3 rfl))) ?_;intro w1 s
        refine ah ?_
        refine hK23 _ _ ?_
        refine wpIn_ret ?_
        exact c5 5 rfl h s aW rfl rfl (ap _ _ _ _) (dy (by unfold kZ;rw [(show ib (aR L) n g=false from by unfold ib;rw [q0,q1,q2];rfl)];rfl) (by unfold kh;rw [(show g8 (aR L) n g=false from by unfold g8;rw [← dg (k:=k) (by omega),s0,s1];rfl)];exact rfl) (s.sel [2,3] rfl (by decide)))
       ·skip
        refine ae ?_
        refine ac h (ai aV (h.ev rfl)) rfl ?_;intro f h
        refine ax (aL.subL (aL.of_own s 7 rfl) 33 33 (D:=av n.pr) (bc _ _ _ _)) h aC rfl (aj _) rfl ?_;intro f h
        refine ac h (ai aK (h.ev rfl)) rfl ?_;intro f h
        refine ax (aL.subL (aL.of_own s 6 rfl) 0 33 (D:=av g.me) (bj _ _ _ _)) h aC rfl (aj _) rfl ?_;intro f h
        refine ac h (aw (.bool true) (bW (eo _ _) (by kernel_rfl) (by decide) (h.ev rfl) (h.ev rfl) (decide (n.pr=g.me)) (cR _ _)) (congrArg Value.bool q0)) rfl ?_;intro f h
        refine ac h (ag (h.ev rfl)) rfl ?_;intro f h
        refine aA h rfl rfl rfl ?_
        refine au 8 h s bk rfl rfl (rfl) rfl ?_;intro f h
        refine aA h rfl rfl rfl ?_
        refine ac h (ai aV (h.ev rfl)) rfl ?_;intro f h
        refine aA h rfl rfl rfl ?_
        refine ac h (ai aH (h.ev rfl)) rfl ?_;intro f h
        refine aA h rfl rfl rfl ?_
        refine aq (am (aL.of_own s 6 rfl) 33 (cF _ _ _ _)) h bw rfl rfl ?_;intro f h
        refine aA h rfl rfl rfl ?_
        refine aI h s fi (aM (.bool true) (c3 L vo g.pr.1 _ (hO.keep s.ext) hL) (congrArg Value.bool q1)) rfl rfl ?_;intro f w1 v9 hT hE h s;obtain rfl:=hT
        refine ac h (aD (h.ev rfl) (h.ev rfl)) rfl ?_;intro f h
        refine ac h (ag (h.ev rfl)) rfl ?_;intro f h
        refine aA h rfl rfl rfl ?_
        refine ac h (ai aV (h.ev rfl)) rfl ?_;intro f h
        refine aA h rfl rfl rfl ?_
        refine ac h (ai aH (h.ev rfl)) rfl ?_;intro f h
        refine aA h rfl rfl rfl ?_
        refine aq (am (aL.of_own s 6 rfl) 33 (cF _ _ _ _)) h bw rfl rfl ?_;intro f h
        refine aA h rfl rfl rfl ?_
        refine ac h (ai aK (h.ev rfl)) rfl ?_;intro f h
        refine aA h rfl rfl rfl ?_
        refine ac h (ai aH (h.ev rfl)) rfl ?_;intro f h
        refine aA h rfl rfl rfl ?_
        refine aq (am (aL.of_own s 7 rfl) 0 (bZ _ _ _ _)) h bw rfl rfl ?_;intro f h
        refine aA h rfl rfl rfl ?_
        refine ac h (aw (.bool true) (cy (h.ev rfl) (h.ev rfl)) (congrArg Value.bool q2)) rfl ?_;intro f h
        refine ac h (aD (h.ev rfl) (h.ev rfl)) rfl ?_;intro f h
        refine ah ?_
        refine hK20 _ _ ?_
        refine wpIn_cond_true (h.ev rfl) ?_
        refine ae ?_
        refine ac h (ai aV (h.ev rfl)) rfl ?_;intro f h
        refine ax (aL.subL (aL.of_own s 6 rfl) 33 33 (D:=av g.pr) (bc _ _ _ _)) h aC rfl (aj _) rfl ?_;intro f h
        refine ac h (ai aV (h.ev rfl)) rfl ?_;intro f h
        refine dE 1 h s aC rfl rfl rfl (aj _) (by rw [ap];omega) (aS _) ?_;intro w1 s
        replace s:=s.recell (D:=ay n.me g.pr du dv) 1 rfl (ff _ _ _ _ _)
        refine ah ?_
        refine hK19 _ _ ?_
        refine al fun K24 hK24=>?_
        refine ae ?_
        refine au 1 h s aW rfl rfl (ap _ _ _ _) rfl ?_;intro f h
        refine az 5 h s aW rfl rfl rfl (ap _ _ _ _) (ap _ _ _ _) (a7 (aQ (s.getSl 2 rfl)) (aQ (s.getSl 3 rfl))) ?_;intro w1 s
        refine ah ?_
        refine hK24 _ _ ?_
        refine wpIn_ret ?_
        exact c5 5 rfl h s aW rfl rfl (ap _ _ _ _) (dy (by unfold kZ;rw [(show ib (aR L) n g=true from by unfold ib;rw [q0,q1,q2];rfl)];rfl) (by unfold kh;rw [(show g8 (aR L) n g=false from by unfold g8;rw [← dg (k:=k) (by omega),s0,s1];rfl)];exact rfl) (s.sel [2,3] rfl (by decide)))
   ·try have h19:=of_decide_eq_true s0
    skip
    cases s2:(decide (0<(pp (aR L) n.me.1 g k).length):Bool)
    ·try have h19:=of_decide_eq_true s0
     skip
     have hbs:=s.ext.le
     refine' im 11 [0] [] [[],[0],[0,1],[0,1,2],[0,1,2,3],[0,1,2,3,4],[0,1,2,3,4,5],[0,1,2,3,4,5,6],[0,1,2,3,4,5,6,7],[0,1,2,3,4],[0,1,2,3,4,9],[0,1,2,3,4,5,6,7,8,9,10],[0,1,2,3,4,5,6,7,8,9,10,11],[0,1,2,3,4,5,6,7,8,9,10,11,12],[0,1,2,3,4,5,6,7,8,9,10,11,12,13],[0,1,2,3,4,5,6,7,8,9,10,11,12,13,14],[0,1,2,3,4,5,6,7,8,9,10,11,12,13,14,15],[0,1,2,3,4,5,6,7,8,9,10,11,12,13,14,15,16]] (is _::is _::is _::is _::is _::is _::is _::is _::is _::is _::is _::is undef::is undef::is undef::is undef::is undef::is undef::is undef::[]) (fun _=>True) h s (by kernel_rfl) (by kernel_rfl) (by kernel_rfl) (by kernel_rfl) rfl (fun _ _ h _=>h) (trivial) ⟨⟨_,rfl⟩,trivial⟩ ⟨aN _,aN _,aN _,aN _,aN _,aN _,aN _,aN _,aN _,aN _,aN _,aN _,aN _,aN _,aN _,aN _,aN _,aN _,trivial⟩ (And.intro ?_ (And.intro ?_ (And.intro ?_ (And.intro ?_ (And.intro ?_ (And.intro ?_ (And.intro ?_ (And.intro ?_ (And.intro ?_ (And.intro ?_ (And.intro ?_ (And.intro ?_ (And.intro ?_ (And.intro ?_ (And.intro ?_ (And.intro ?_ (And.intro ?_ (And.intro ?_ (trivial))))))))))))))))))) ?_
     rotate_left 11
     ·refine dQ 42 rfl (by decide) ?_
      intro f9 w2 hE hs hl
      have e4:f9.tmps.getD 4 undef=_:=cL hl 4 (by kernel_rfl) (by kernel_rfl) (h.holds 4 _ rfl)
      have h:=aE [(4,_)] hs rfl (holds_lk ⟨e4,trivial⟩)
      refine ac h (ai bC (h.ev rfl)) rfl ?_;intro f h
      refine ah ?_
      have e9:=h.holds 42 _ rfl
      refine ⟨?_,rfl⟩
      refine e9.trans ?_
      exact rfl
     ·refine bN 43 rfl (by decide) (by decide) ?_
      intro f9 w2 hE hs hd9 hl
      have e42:f9.tmps.getD 42 undef=_:=bh hl 42 0 (by kernel_rfl) (by kernel_rfl)
      have h:=aE [(42,_)] hs hd9 (holds_lk ⟨e42,trivial⟩)
      have s:=s.more hE
      have z:=St.start w2
      refine aq (V:=vs) (am (aL.of_own s 7 rfl) 66 (bA _ _ _ _)) h bE rfl rfl ?_;intro f h
      refine ah ?_
      have e9:=h.holds 43 _ rfl
      refine ⟨?_,Ext.refl _,fun h9=>absurd h9 (by decide)⟩
      refine e9.trans ?_
      exact rfl
     ·refine bN 44 rfl (by decide) (by decide) ?_
      intro f9 w2 hE hs hd9 hl
      have e43:f9.tmps.getD 43 undef=_:=bh hl 43 1 (by kernel_rfl) (by kernel_rfl)
      have h:=aE [(43,_)] hs hd9 (holds_lk ⟨e43,trivial⟩)
      have s:=s.more hE
      have z:=St.start w2
      refine ac h (a8 (hRs.keep s.ext) Tryz.underlying36 (h.ev rfl)) rfl ?_;intro f h
      refine ah ?_
      have e9:=h.holds 44 _ rfl
      refine ⟨?_,Ext.refl _,fun h9=>absurd h9 (by decide)⟩
      refine e9.trans ?_
      exact rfl
     ·refine bN 45 rfl (by decide) (by decide) ?_
      intro f9 w2 hE hs hd9 hl
      have e44:f9.tmps.getD 44 undef=_:=bh hl 44 2 (by kernel_rfl) (by kernel_rfl)
      have h:=aE [(44,_)] hs hd9 (holds_lk ⟨e44,trivial⟩)
      have s:=s.more hE
      have z:=St.start w2
      refine ac h (aw (.bool true) (bU (h.ev rfl) (h.ev rfl)) (congrArg Value.bool (decide_eq_true (by have:=of_decide_eq_true s0;omega)))) rfl ?_;intro f h
      refine ah ?_
      have e9:=h.holds 45 _ rfl
      refine ⟨?_,Ext.refl _,fun h9=>absurd h9 (by decide)⟩
      refine e9.trans ?_
      exact rfl
     ·refine bN 46 rfl (by decide) (by decide) ?_
      intro f9 w2 hE hs hd9 hl
      have e45:f9.tmps.getD 45 undef=_:=bh hl 45 3 (by kernel_rfl) (by kernel_rfl)
      have h:=aE [(45,_)] hs hd9 (holds_lk ⟨e45,trivial⟩)
      have s:=s.more hE
      have z:=St.start w2
      refine ac h (ag (h.ev rfl)) rfl ?_;intro f h
      refine ah ?_
      have e9:=h.holds 46 _ rfl
      refine ⟨?_,Ext.refl _,fun h9=>absurd h9 (by decide)⟩
      refine e9.trans ?_
      exact rfl
     ·refine bN 47 rfl (by decide) (by decide) ?_
      intro f9 w2 hE hs hd9 hl
      have e4:f9.tmps.getD 4 undef=_:=cL hl 4 (by kernel_rfl) (by kernel_rfl) (h.holds 4 _ rfl)
      have e46:f9.tmps.getD 46 undef=_:=bh hl 46 4 (by kernel_rfl) (by kernel_rfl)
      have h:=aE [(4,_),(46,_)] hs hd9 (holds_lk ⟨e4,e46,trivial⟩)
      have s:=s.more hE
      have z:=St.start w2
      refine aA h rfl rfl rfl ?_
      refine ac h (ai bC (h.ev rfl)) rfl ?_;intro f h
      refine ah ?_
      have e9:=h.holds 47 _ rfl
      refine ⟨?_,Ext.refl _,fun h9=>absurd h9 (by decide)⟩
      refine e9.trans ?_
      exact rfl
     ·refine bN 48 rfl (by decide) (by decide) ?_
      intro f9 w2 hE hs hd9 hl
      have e47:f9.tmps.getD 47 undef=_:=bh hl 47 5 (by kernel_rfl) (by kernel_rfl)
      have e46:f9.tmps.getD 46 undef=_:=bh hl 46 4 (by kernel_rfl) (by kernel_rfl)
      have h:=aE [(47,_),(46,_)] hs hd9 (holds_lk ⟨e47,e46,trivial⟩)
      have s:=s.more hE
      have z:=St.start w2
      refine aA h rfl rfl rfl ?_
      refine aq (V:=vs) (am (aL.of_own s 7 rfl) 66 (bA _ _ _ _)) h bE rfl rfl ?_;intro f h
      refine ah ?_
      have e9:=h.holds 48 _ rfl
      refine ⟨?_,Ext.refl _,fun h9=>absurd h9 (by decide)⟩
      refine e9.trans ?_
      exact rfl
     ·refine bN 49 rfl (by decide) (by decide) ?_
      intro f9 w2 hE hs hd9 hl
      have e48:f9.tmps.getD 48 undef=_:=bh hl 48 6 (by kernel_rfl) (by kernel_rfl)
      have e46:f9.tmps.getD 46 undef=_:=bh hl 46 4 (by kernel_rfl) (by kernel_rfl)
      have h:=aE [(48,_),(46,_)] hs hd9 (holds_lk ⟨e48,e46,trivial⟩)
      have s:=s.more hE
      have z:=St.start w2
      refine aA h rfl rfl rfl ?_
      refine ac h (cc (hRs.keep s.ext) (0) Tryz.underlying36 cD (h.ev rfl) (h.ev rfl) (by have h9:=of_decide_eq_true s0;omega) (by omega)) rfl ?_;intro f h
      refine ah ?_
      have e9:=h.holds 49 _ rfl
      refine ⟨?_,Ext.refl _,fun h9=>absurd h9 (by decide)⟩
      refine e9.trans ?_
      exact rfl
     ·refine bN 50 rfl (by decide) (by decide) ?_
      intro f9 w2 hE hs hd9 hl
      have e49:f9.tmps.getD 49 undef=_:=bh hl 49 7 (by kernel_rfl) (by kernel_rfl)
      have e46:f9.tmps.getD 46 undef=_:=bh hl 46 4 (by kernel_rfl) (by kernel_rfl)
      have h:=aE [(49,_),(46,_)] hs hd9 (holds_lk ⟨e49,e46,trivial⟩)
      have s:=s.more hE
      have z:=St.start w2
      refine aA h rfl rfl rfl ?_
      refine ax ((hRs.keep s.ext).el (0) (by omega) (by decide) (D:=av (n.sc.getD 0 aZ)) (cI n.sc 0 (by omega))) h aC rfl (aj _) rfl ?_;intro f h
      refine ah ?_
      have e9:=h.holds 50 _ rfl
      refine ⟨?_,Ext.refl _,fun h9=>absurd h9 (by decide)⟩
      refine e9.trans ?_
      exact rfl
     ·refine bN 51 rfl (by decide) (by decide) ?_
      intro f9 w2 hE hs hd9 hl
      have e5:f9.tmps.getD 5 undef=_:=cL hl 5 (by kernel_rfl) (by kernel_rfl) (h.holds 5 _ rfl)
      have e46:f9.tmps.getD 46 undef=_:=bh hl 46 4 (by kernel_rfl) (by kernel_rfl)
      have h:=aE [(5,_),(46,_)] hs hd9 (holds_lk ⟨e5,e46,trivial⟩)
      have s:=s.more hE
      have z:=St.start w2
      refine aA h rfl rfl rfl ?_
      refine ac h (ai aK (h.ev rfl)) rfl ?_;intro f h
      refine ah ?_
      have e9:=h.holds 51 _ rfl
      refine ⟨?_,Ext.refl _,fun h9=>absurd h9 (by decide)⟩
      refine e9.trans ?_
      exact rfl
     ·refine bN 52 rfl (by decide) (by decide) ?_
      intro f9 w2 hE hs hd9 hl
      have e51:f9.tmps.getD 51 undef=_:=bh hl 51 9 (by kernel_rfl) (by kernel_rfl)
      have e46:f9.tmps.getD 46 undef=_:=bh hl 46 4 (by kernel_rfl) (by kernel_rfl)
      have h:=aE [(51,_),(46,_)] hs hd9 (holds_lk ⟨e51,e46,trivial⟩)
      have s:=s.more hE
      have z:=St.start w2
      refine aA h rfl rfl rfl ?_
      refine ax (aL.subL (aL.of_own s 6 rfl) 0 33 (D:=av g.me) (bj _ _ _ _)) h aC rfl (aj _) rfl ?_;intro f h
      refine ah ?_
      have e9:=h.holds 52 _ rfl
      refine ⟨?_,Ext.refl _,fun h9=>absurd h9 (by decide)⟩
      refine e9.trans ?_
      exact rfl
     ·exact cG (by decide) (by decide)
     ·exact cG (by decide) (by decide)
     ·exact cG (by decide) (by decide)
     ·exact cG (by decide) (by decide)
     ·exact cG (by decide) (by decide)
     ·exact cG (by decide) (by decide)
     ·exact cG (by decide) (by decide)
     ·intro f9 w2 hE hs hd9 hWp hT hR hFr hDj
      replace h:=sl_new (ops:=_) [(42,_),(43,_),(44,_),(45,_),(46,_),(47,_),(48,_),(49,_),(50,_),(51,_),(52,_)] h hs hd9 hR ⟨hT 0 42 (by decide) rfl,hT 1 43 (by decide) rfl,hT 2 44 (by decide) rfl,hT 3 45 (by decide) rfl,hT 4 46 (by decide) rfl,hT 5 47 (by decide) rfl,hT 6 48 (by decide) rfl,hT 7 49 (by decide) rfl,hT 8 50 (by decide) rfl,hT 9 51 (by decide) rfl,hT 10 52 (by decide) rfl,trivial⟩ (by kernel_rfl)
      replace s:=s.more hE
      clear hT hR hFr hDj
      refine fG.of ?_
      refine aA h rfl rfl rfl ?_
      refine ac h (aw (.bool true) (bW (eo _ _) (by kernel_rfl) (by decide) (h.ev rfl) (h.ev rfl) (decide (n.sc.getD 0 aZ=g.me)) (cR _ _)) (congrArg Value.bool s1)) rfl ?_;intro f h
      refine ac h (aD (h.ev rfl) (h.ev rfl)) rfl ?_;intro f h
      refine ac h (ag (h.ev rfl)) rfl ?_;intro f h
      refine aA h rfl rfl rfl ?_
      refine ac h (ag (h.ev rfl)) rfl ?_;intro f h
      refine aA h rfl rfl rfl ?_
      refine cT 0 h s Tryz.underlying36 rfl rfl rfl ?_;intro f h
      refine aA h rfl rfl rfl ?_
      refine ac h (aw (.bool false) (cY (h.ev rfl) (h.ev rfl)) (congrArg Value.bool (decide_eq_false (by have:=of_decide_eq_false s2;omega)))) rfl ?_;intro f h
      refine ac h (aD (h.ev rfl) (h.ev rfl)) rfl ?_;intro f h
      refine ah ?_
      refine hK12 _ _ ?_
      refine wpIn_cond_false (h.ev rfl) ?_
      refine wpIn_skip ?_
      refine hK11 _ _ ?_
      refine al fun K25 hK25=>?_
      refine al fun K26 hK26=>?_
      cases q0:(decide (n.pr=g.me):Bool)
      ·skip
       refine ae ?_
       refine ac h (ai aV (h.ev rfl)) rfl ?_;intro f h
       refine ax (aL.subL (aL.of_own s 7 rfl) 33 33 (D:=av n.pr) (bc _ _ _ _)) h aC rfl (aj _) rfl ?_;intro f h
       refine ac h (ai aK (h.ev rfl)) rfl ?_;intro f h
       refine ax (aL.subL (aL.of_own s 6 rfl) 0 33 (D:=av g.me) (bj _ _ _ _)) h aC rfl (aj _) rfl ?_;intro f h
       refine ac h (aw (.bool false) (bW (eo _ _) (by kernel_rfl) (by decide) (h.ev rfl) (h.ev rfl) (decide (n.pr=g.me)) (cR _ _)) (congrArg Value.bool q0)) rfl ?_;intro f h
       refine ac h (ag (h.ev rfl)) rfl ?_;intro f h
       refine aB (b:=true) h rfl rfl rfl rfl ?_;intro f h
       refine aB (b:=true) h rfl rfl rfl rfl ?_;intro f h
       refine aB (b:=true) h rfl rfl rfl rfl ?_;intro f h
       refine aB (b:=true) h rfl rfl rfl rfl ?_;intro f h
       refine aB (b:=true) h rfl rfl rfl rfl ?_;intro f h
       refine ac h (aF (h.ev rfl) (h.ev rfl)) rfl ?_;intro f h
       refine ac h (ag (h.ev rfl)) rfl ?_;intro f h
       refine aB (b:=true) h rfl rfl rfl rfl ?_;intro f h
       refine aB (b:=true) h rfl rfl rfl rfl ?_;intro f h
       refine aB (b:=true) h rfl rfl rfl rfl ?_;intro f h
       refine aB (b:=true) h rfl rfl rfl rfl ?_;intro f h
       refine aB (b:=true) h rfl rfl rfl rfl ?_;intro f h
       refine aB (b:=true) h rfl rfl rfl rfl ?_;intro f h
       refine aB (b:=true) h rfl rfl rfl rfl ?_;intro f h
       refine ac h (aF (h.ev rfl) (h.ev rfl)) rfl ?_;intro f h
       refine ah ?_
       refine hK26 _ _ ?_
       refine wpIn_cond_false (h.ev rfl) ?_
       refine wpIn_skip ?_
       refine hK25 _ _ ?_
       refine al fun K27 hK27=>?_
       refine ae ?_
       refine au 1 h s aW rfl rfl (ap _ _ _ _) rfl ?_;intro f h
       refine az 5 h s aW rfl rfl rfl (ap _ _ _ _) (ap _ _ _ _) (a7 (aQ (s.getSl 2 rfl)) (aQ (s.getSl 3 rfl))) ?_;intro w1 s
       refine ah ?_
       refine hK27 _ _ ?_
       refine wpIn_ret ?_
       exact c5 5 rfl h s aW rfl rfl (ap _ _ _ _) (dy (by unfold kZ;rw [(show ib (aR L) n g=false from by unfold ib;rw [q0];rfl)];rfl) (by unfold kh;rw [(show g8 (aR L) n g=false from by unfold g8;rw [← dg (k:=k) (by omega),s0,s1,s2];rfl)];exact rfl) (s.sel [2,3] rfl (by decide)))
      ·skip
       cases q1:(cx (aR L) g.pr.1:Bool)
       ·skip
        refine ae ?_
        refine ac h (ai aV (h.ev rfl)) rfl ?_;intro f h
        refine ax (aL.subL (aL.of_own s 7 rfl) 33 33 (D:=av n.pr) (bc _ _ _ _)) h aC rfl (aj _) rfl ?_;intro f h
        refine ac h (ai aK (h.ev rfl)) rfl ?_;intro f h
        refine ax (aL.subL (aL.of_own s 6 rfl) 0 33 (D:=av g.me) (bj _ _ _ _)) h aC rfl (aj _) rfl ?_;intro f h
        refine ac h (aw (.bool true) (bW (eo _ _) (by kernel_rfl) (by decide) (h.ev rfl) (h.ev rfl) (decide (n.pr=g.me)) (cR _ _)) (congrArg Value.bool q0)) rfl ?_;intro f h
        refine ac h (ag (h.ev rfl)) rfl ?_;intro f h
        refine aA h rfl rfl rfl ?_
        refine au 8 h s bk rfl rfl (rfl) rfl ?_;intro f h
        refine aA h rfl rfl rfl ?_
        refine ac h (ai aV (h.ev rfl)) rfl ?_;intro f h
        refine aA h rfl rfl rfl ?_
        refine ac h (ai aH (h.ev rfl)) rfl ?_;intro f h
        refine aA h rfl rfl rfl ?_
        refine aq (am (aL.of_own s 6 rfl) 33 (cF _ _ _ _)) h bw rfl rfl ?_;intro f h
        refine aA h rfl rfl rfl ?_
        refine aI h s fi (aM (.bool false) (c3 L vo g.pr.1 _ (hO.keep s.ext) hL) (congrArg Value.bool q1)) rfl rfl ?_;intro f w1 v9 hT hE h s;obtain rfl:=hT
        refine ac h (aD (h.ev rfl) (h.ev rfl)) rfl ?_;intro f h
        refine ac h (ag (h.ev rfl)) rfl ?_;intro f h
        refine aB (b:=true) h rfl rfl rfl rfl ?_;intro f h
        refine aB (b:=true) h rfl rfl rfl rfl ?_;intro f h
        refine aB (b:=true) h rfl rfl rfl rfl ?_;intro f h
        refine aB (b:=true) h rfl rfl rfl rfl ?_;intro f h
        refine aB (b:=true) h rfl rfl rfl rfl ?_;intro f h
        refine aB (b:=true) h rfl rfl rfl rfl ?_;intro f h
        refine aB (b:=true) h rfl rfl rfl rfl ?_;intro f h
        refine ac h (aF (h.ev rfl) (h.ev rfl)) rfl ?_;intro f h
        refine ah ?_
        refine hK26 _ _ ?_
        refine wpIn_cond_false (h.ev rfl) ?_
        refine wpIn_skip ?_
        refine hK25 _ _ ?_
        refine al fun K28 hK28=>?_
        refine ae ?_
        refine au 1 h s aW rfl rfl (ap _ _ _ _) rfl ?_;intro f h
        refine az 5 h s aW rfl rfl rfl (ap _ _ _ _) (ap _ _ _ _) (a7 (aQ (s.getSl 2 rfl)) (aQ (s.getSl 3 rfl))) ?_;intro w1 s
        refine ah ?_
        refine hK28 _ _ ?_
        refine wpIn_ret ?_
        exact c5 5 rfl h s aW rfl rfl (ap _ _ _ _) (dy (by unfold kZ;rw [(show ib (aR L) n g=false from by unfold ib;rw [q0,q1];rfl)];rfl) (by unfold kh;rw [(show g8 (aR L) n g=false from by unfold g8;rw [← dg (k:=k) (by omega),s0,s1,s2];rfl)];exact rfl) (s.sel [2,3] rfl (by decide)))
       ·skip
        cases q2:(decide (g.pr.1≠n.me.1):Bool)
        ·skip
         refine ae ?_
         refine ac h (ai aV (h.ev rfl)) rfl ?_;intro f h
         refine ax (aL.subL (aL.of_own s 7 rfl) 33 33 (D:=av n.pr) (bc _ _ _ _)) h aC rfl (aj _) rfl ?_;intro f h
         refine ac h (ai aK (h.ev rfl)) rfl ?_;intro f h
         refine ax (aL.subL (aL.of_own s 6 rfl) 0 33 (D:=av g.me) (bj _ _ _ _)) h aC rfl (aj _) rfl ?_;intro f h
         refine ac h (aw (.bool true) (bW (eo _ _) (by kernel_rfl) (by decide) (h.ev rfl) (h.ev rfl) (decide (n.pr=g.me)) (cR _ _)) (congrArg Value.bool q0)) rfl ?_;intro f h
         refine ac h (ag (h.ev rfl)) rfl ?_;intro f h
         refine aA h rfl rfl rfl ?_
         refine au 8 h s bk rfl rfl (rfl) rfl ?_;intro f h
         refine aA h rfl rfl rfl ?_
         refine ac h (ai aV (h.ev rfl)) rfl ?_;intro f h
         refine aA h rfl rfl rfl ?_
         refine ac h (ai aH (h.ev rfl)) rfl ?_;intro f h
         refine aA h rfl rfl rfl ?_
         refine aq (am (aL.of_own s 6 rfl) 33 (cF _ _ _ _)) h bw rfl rfl ?_;intro f h
         refine aA h rfl rfl rfl ?_
         refine aI h s fi (aM (.bool true) (c3 L vo g.pr.1 _ (hO.keep s.ext) hL) (congrArg Value.bool q1)) rfl rfl ?_;intro f w1 v9 hT hE h s;obtain rfl:=hT
         refine ac h (aD (h.ev rfl) (h.ev rfl)) rfl ?_;intro f h
         refine ac h (ag (h.ev rfl)) rfl ?_;intro f h
         refine aA h rfl rfl rfl ?_
         refine ac h (ai aV (h.ev rfl)) rfl ?_;intro f h
         refine aA h rfl rfl rfl ?_
         refine ac h (ai aH (h.ev rfl)) rfl ?_;intro f h
         refine aA h rfl rfl rfl ?_
         refine aq (am (aL.of_own s 6 rfl) 33 (cF _ _ _ _)) h bw rfl rfl ?_;intro f h
         refine aA h rfl rfl rfl ?_
         refine ac h (ai aK (h.ev rfl)) rfl ?_;intro f h
         refine aA h rfl rfl rfl ?_
         refine ac h (ai aH (h.ev rfl)) rfl ?_;intro f h
         refine aA h rfl rfl rfl ?_
         refine aq (am (aL.of_own s 7 rfl) 0 (bZ _ _ _ _)) h bw rfl rfl ?_;intro f h
         refine aA h rfl rfl rfl ?_
         refine ac h (aw (.bool false) (cy (h.ev rfl) (h.ev rfl)) (congrArg Value.bool q2)) rfl ?_;intro f h
         refine ac h (aD (h.ev rfl) (h.ev rfl)) rfl ?_;intro f h
         refine ah ?_
         refine hK26 _ _ ?_
         refine wpIn_cond_false (h.ev rfl) ?_
         refine wpIn_skip ?_
         refine hK25 _ _ ?_
         refine al fun K29 hK29=>?_
         refine ae ?_
         refine au 1 h s aW rfl rfl (ap _ _ _ _) rfl ?_;intro f h
         refine az 5 h s aW rfl rfl rfl (ap _ _ _ _) (ap _ _ _ _) (a7 (aQ (s.getSl 2 rfl)) (aQ (s.getSl 3 rfl))) ?_;intro w1 s
         refine ah ?_
         refine hK29 _ _ ?_
         refine wpIn_ret ?_
         exact c5 5 rfl h s aW rfl rfl (ap _ _ _ _) (dy (by unfold kZ;rw [(show ib (aR L) n g=false from by unfold ib;rw [q0,q1,q2];rfl)];rfl) (by unfold kh;rw [(show g8 (aR L) n g=false from by unfold g8;rw [← dg (k:=k) (by omega),s0,s1,s2];rfl)];exact rfl) (s.sel [2,3] rfl (by decide)))
        ·skip
         refine ae ?_
         refine ac h (ai aV (h.ev rfl)) rfl ?_;intro f h
         refine ax (aL.subL (aL.of_own s 7 rfl) 33 33 (D:=av n.pr) (bc _ _ _ _)) h aC rfl (aj _) rfl ?_;intro f h
         refine ac h (ai aK (h.ev rfl)) rfl ?_;intro f h
         refine ax (aL.subL (aL.of_own s 6 rfl) 0 33 (D:=av g.me) (bj _ _ _ _)) h aC rfl (aj _) rfl ?_;intro f h
         refine ac h (aw (.bool true) (bW (eo _ _) (by kernel_rfl) (by decide) (h.ev rfl) (h.ev rfl) (decide (n.pr=g.me)) (cR _ _)) (congrArg Value.bool q0)) rfl ?_;intro f h
         refine ac h (ag (h.ev rfl)) rfl ?_;intro f h
         refine aA h rfl rfl rfl ?_
         refine au 8 h s bk rfl rfl (rfl) rfl ?_;intro f h
         refine aA h rfl rfl rfl ?_
         refine ac h (ai aV (h.ev rfl)) rfl ?_;intro f h
         refine aA h rfl rfl rfl ?_
         refine ac h (ai aH (h.ev rfl)) rfl ?_;intro f h
         refine aA h rfl rfl rfl ?_
         refine aq (am (aL.of_own s 6 rfl) 33 (cF _ _ _ _)) h bw rfl rfl ?_;intro f h
         refine aA h rfl rfl rfl ?_
         refine aI h s fi (aM (.bool true) (c3 L vo g.pr.1 _ (hO.keep s.ext) hL) (congrArg Value.bool q1)) rfl rfl ?_;intro f w1 v9 hT hE h s;obtain rfl:=hT
         refine ac h (aD (h.ev rfl) (h.ev rfl)) rfl ?_;intro f h
         refine ac h (ag (h.ev rfl)) rfl ?_;intro f h
         refine aA h rfl rfl rfl ?_
         refine ac h (ai aV (h.ev rfl)) rfl ?_;intro f h
         refine aA h rfl rfl rfl ?_
         refine ac h (ai aH (h.ev rfl)) rfl ?_;intro f h
         refine aA h rfl rfl rfl ?_
         refine aq (am (aL.of_own s 6 rfl) 33 (cF _ _ _ _)) h bw rfl rfl ?_;intro f h
         refine aA h rfl rfl rfl ?_
         refine ac h (ai aK (h.ev rfl)) rfl ?_;intro f h
         refine aA h rfl rfl rfl ?_
         refine ac h (ai aH (h.ev rfl)) rfl ?_;intro f h
         refine aA h rfl rfl rfl ?_
         refine aq (am (aL.of_own s 7 rfl) 0 (bZ _ _ _ _)) h bw rfl rfl ?_;intro f h
         refine aA h rfl rfl rfl ?_
         refine ac h (aw (.bool true) (cy (h.ev rfl) (h.ev rfl)) (congrArg Value.bool q2)) rfl ?_;intro f h
         refine ac h (aD (h.ev rfl) (h.ev rfl)) rfl ?_;intro f h
         refine ah ?_
         refine hK26 _ _ ?_
         refine wpIn_cond_true (h.ev rfl) ?_
         refine ae ?_
         refine ac h (ai aV (h.ev rfl)) rfl ?_;intro f h
         refine ax (aL.subL (aL.of_own s 6 rfl) 33 33 (D:=av g.pr) (bc _ _ _ _)) h aC rfl (aj _) rfl ?_;intro f h
         refine ac h (ai aV (h.ev rfl)) rfl ?_;intro f h
         refine dE 1 h s aC rfl rfl rfl (aj _) (by rw [ap];omega) (aS _) ?_;intro w1 s
         replace s:=s.recell (D:=ay n.me g.pr du dv) 1 rfl (ff _ _ _ _ _)
         refine ah ?_
         refine hK25 _ _ ?_
         refine al fun K30 hK30=>?_
         refine ae ?_
         refine au 1 h s aW rfl rfl (ap _ _ _ _) rfl ?_;intro f h
         refine az 5 h s aW rfl rfl rfl (ap _ _ _ _) (ap _ _ _ _) (a7 (aQ (s.getSl 2 rfl)) (aQ (s.getSl 3 rfl))) ?_;intro w1 s
         refine ah ?_
         refine hK30 _ _ ?_
         refine wpIn_ret ?_
         exact c5 5 rfl h s aW rfl rfl (ap _ _ _ _) (dy (by unfold kZ;rw [(show ib (aR L) n g=true from by unfold ib;rw [q0,q1,q2];rfl)];rfl) (by unfold kh;rw [(show g8 (aR L) n g=false from by unfold g8;rw [← dg (k:=k) (by omega),s0,s1,s2];rfl)];exact rfl) (s.sel [2,3] rfl (by decide)))
    ·try have h19:=of_decide_eq_true s0
     skip
     have hbs:=s.ext.le
     refine' im 11 [0] [] [[],[0],[0,1],[0,1,2],[0,1,2,3],[0,1,2,3,4],[0,1,2,3,4,5],[0,1,2,3,4,5,6],[0,1,2,3,4,5,6,7],[0,1,2,3,4],[0,1,2,3,4,9],[0,1,2,3,4,5,6,7,8,9,10],[0,1,2,3,4,5,6,7,8,9,10,11],[0,1,2,3,4,5,6,7,8,9,10,11,12],[0,1,2,3,4,5,6,7,8,9,10,11,12,13],[0,1,2,3,4,5,6,7,8,9,10,11,12,13,14],[0,1,2,3,4,5,6,7,8,9,10,11,12,13,14,15],[0,1,2,3,4,5,6,7,8,9,10,11,12,13,14,15,16]] (is _::is _::is _::is _::is _::is _::is _::is _::is _::is _::is _::is undef::is undef::is undef::is undef::is undef::is undef::is undef::[]) (fun _=>True) h s (by kernel_rfl) (by kernel_rfl) (by kernel_rfl) (by kernel_rfl) rfl (fun _ _ h _=>h) (trivial) ⟨⟨_,rfl⟩,trivial⟩ ⟨aN _,aN _,aN _,aN _,aN _,aN _,aN _,aN _,aN _,aN _,aN _,aN _,aN _,aN _,aN _,aN _,aN _,aN _,trivial⟩ (And.intro ?_ (And.intro ?_ (And.intro ?_ (And.intro ?_ (And.intro ?_ (And.intro ?_ (And.intro ?_ (And.intro ?_ (And.intro ?_ (And.intro ?_ (And.intro ?_ (And.intro ?_ (And.intro ?_ (And.intro ?_ (And.intro ?_ (And.intro ?_ (And.intro ?_ (And.intro ?_ (trivial))))))))))))))))))) ?_
     rotate_left 11
     ·refine dQ 42 rfl (by decide) ?_
      intro f9 w2 hE hs hl
      have e4:f9.tmps.getD 4 undef=_:=cL hl 4 (by kernel_rfl) (by kernel_rfl) (h.holds 4 _ rfl)
      have h:=aE [(4,_)] hs rfl (holds_lk ⟨e4,trivial⟩)
      refine ac h (ai bC (h.ev rfl)) rfl ?_;intro f h
      refine ah ?_
      have e9:=h.holds 42 _ rfl
      refine ⟨?_,rfl⟩
      refine e9.trans ?_
      exact rfl
     ·refine bN 43 rfl (by decide) (by decide) ?_
      intro f9 w2 hE hs hd9 hl
      have e42:f9.tmps.getD 42 undef=_:=bh hl 42 0 (by kernel_rfl) (by kernel_rfl)
      have h:=aE [(42,_)] hs hd9 (holds_lk ⟨e42,trivial⟩)
      have s:=s.more hE
      have z:=St.start w2
      refine aq (V:=vs) (am (aL.of_own s 7 rfl) 66 (bA _ _ _ _)) h bE rfl rfl ?_;intro f h
      refine ah ?_
      have e9:=h.holds 43 _ rfl
      refine ⟨?_,Ext.refl _,fun h9=>absurd h9 (by decide)⟩
      refine e9.trans ?_
      exact rfl
     ·refine bN 44 rfl (by decide) (by decide) ?_
      intro f9 w2 hE hs hd9 hl
      have e43:f9.tmps.getD 43 undef=_:=bh hl 43 1 (by kernel_rfl) (by kernel_rfl)
      have h:=aE [(43,_)] hs hd9 (holds_lk ⟨e43,trivial⟩)
      have s:=s.more hE
      have z:=St.start w2
      refine ac h (a8 (hRs.keep s.ext) Tryz.underlying36 (h.ev rfl)) rfl ?_;intro f h
      refine ah ?_
      have e9:=h.holds 44 _ rfl
      refine ⟨?_,Ext.refl _,fun h9=>absurd h9 (by decide)⟩
      refine e9.trans ?_
      exact rfl
     ·refine bN 45 rfl (by decide) (by decide) ?_
      intro f9 w2 hE hs hd9 hl
      have e44:f9.tmps.getD 44 undef=_:=bh hl 44 2 (by kernel_rfl) (by kernel_rfl)
      have h:=aE [(44,_)] hs hd9 (holds_lk ⟨e44,trivial⟩)
      have s:=s.more hE
      have z:=St.start w2
      refine ac h (aw (.bool true) (bU (h.ev rfl) (h.ev rfl)) (congrArg Value.bool (decide_eq_true (by have:=of_decide_eq_true s0;omega)))) rfl ?_;intro f h
      refine ah ?_
      have e9:=h.holds 45 _ rfl
      refine ⟨?_,Ext.refl _,fun h9=>absurd h9 (by decide)⟩
      refine e9.trans ?_
      exact rfl
     ·refine bN 46 rfl (by decide) (by decide) ?_
      intro f9 w2 hE hs hd9 hl
      have e45:f9.tmps.getD 45 undef=_:=bh hl 45 3 (by kernel_rfl) (by kernel_rfl)
      have h:=aE [(45,_)] hs hd9 (holds_lk ⟨e45,trivial⟩)
      have s:=s.more hE
      have z:=St.start w2
      refine ac h (ag (h.ev rfl)) rfl ?_;intro f h
      refine ah ?_
      have e9:=h.holds 46 _ rfl
      refine ⟨?_,Ext.refl _,fun h9=>absurd h9 (by decide)⟩
      refine e9.trans ?_
      exact rfl
     ·refine bN 47 rfl (by decide) (by decide) ?_
      intro f9 w2 hE hs hd9 hl
      have e4:f9.tmps.getD 4 undef=_:=cL hl 4 (by kernel_rfl) (by kernel_rfl) (h.holds 4 _ rfl)
      have e46:f9.tmps.getD 46 undef=_:=bh hl 46 4 (by kernel_rfl) (by kernel_rfl)
      have h:=aE [(4,_),(46,_)] hs hd9 (holds_lk ⟨e4,e46,trivial⟩)
      have s:=s.more hE
      have z:=St.start w2
      refine aA h rfl rfl rfl ?_
      refine ac h (ai bC (h.ev rfl)) rfl ?_;intro f h
      refine ah ?_
      have e9:=h.holds 47 _ rfl
      refine ⟨?_,Ext.refl _,fun h9=>absurd h9 (by decide)⟩
      refine e9.trans ?_
      exact rfl
     ·refine bN 48 rfl (by decide) (by decide) ?_
      intro f9 w2 hE hs hd9 hl
      have e47:f9.tmps.getD 47 undef=_:=bh hl 47 5 (by kernel_rfl) (by kernel_rfl)
      have e46:f9.tmps.getD 46 undef=_:=bh hl 46 4 (by kernel_rfl) (by kernel_rfl)
      have h:=aE [(47,_),(46,_)] hs hd9 (holds_lk ⟨e47,e46,trivial⟩)
      have s:=s.more hE
      have z:=St.start w2
      refine aA h rfl rfl rfl ?_
      refine aq (V:=vs) (am (aL.of_own s 7 rfl) 66 (bA _ _ _ _)) h bE rfl rfl ?_;intro f h
      refine ah ?_
      have e9:=h.holds 48 _ rfl
      refine ⟨?_,Ext.refl _,fun h9=>absurd h9 (by decide)⟩
      refine e9.trans ?_
      exact rfl
     ·refine bN 49 rfl (by decide) (by decide) ?_
      intro f9 w2 hE hs hd9 hl
      have e48:f9.tmps.getD 48 undef=_:=bh hl 48 6 (by kernel_rfl) (by kernel_rfl)
      have e46:f9.tmps.getD 46 undef=_:=bh hl 46 4 (by kernel_rfl) (by kernel_rfl)
      have h:=aE [(48,_),(46,_)] hs hd9 (holds_lk ⟨e48,e46,trivial⟩)
      have s:=s.more hE
      have z:=St.start w2
      refine aA h rfl rfl rfl ?_
      refine ac h (cc (hRs.keep s.ext) (0) Tryz.underlying36 cD (h.ev rfl) (h.ev rfl) (by have h9:=of_decide_eq_true s0;omega) (by omega)) rfl ?_;intro f h
      refine ah ?_
      have e9:=h.holds 49 _ rfl
      refine ⟨?_,Ext.refl _,fun h9=>absurd h9 (by decide)⟩
      refine e9.trans ?_
      exact rfl
     ·refine bN 50 rfl (by decide) (by decide) ?_
      intro f9 w2 hE hs hd9 hl
      have e49:f9.tmps.getD 49 undef=_:=bh hl 49 7 (by kernel_rfl) (by kernel_rfl)
      have e46:f9.tmps.getD 46 undef=_:=bh hl 46 4 (by kernel_rfl) (by kernel_rfl)
      have h:=aE [(49,_),(46,_)] hs hd9 (holds_lk ⟨e49,e46,trivial⟩)
      have s:=s.more hE
      have z:=St.start w2
      refine aA h rfl rfl rfl ?_
      refine ax ((hRs.keep s.ext).el (0) (by omega) (by decide) (D:=av (n.sc.getD 0 aZ)) (cI n.sc 0 (by omega))) h aC rfl (aj _) rfl ?_;intro f h
      refine ah ?_
      have e9:=h.holds 50 _ rfl
      refine ⟨?_,Ext.refl _,fun h9=>absurd h9 (by decide)⟩
      refine e9.trans ?_
      exact rfl
     ·refine bN 51 rfl (by decide) (by decide) ?_
      intro f9 w2 hE hs hd9 hl
      have e5:f9.tmps.getD 5 undef=_:=cL hl 5 (by kernel_rfl) (by kernel_rfl) (h.holds 5 _ rfl)
      have e46:f9.tmps.getD 46 undef=_:=bh hl 46 4 (by kernel_rfl) (by kernel_rfl)
      have h:=aE [(5,_),(46,_)] hs hd9 (holds_lk ⟨e5,e46,trivial⟩)
      have s:=s.more hE
      have z:=St.start w2
      refine aA h rfl rfl rfl ?_
      refine ac h (ai aK (h.ev rfl)) rfl ?_;intro f h
      refine ah ?_
      have e9:=h.holds 51 _ rfl
      refine ⟨?_,Ext.refl _,fun h9=>absurd h9 (by decide)⟩
      refine e9.trans ?_
      exact rfl
     ·refine bN 52 rfl (by decide) (by decide) ?_
      intro f9 w2 hE hs hd9 hl
      have e51:f9.tmps.getD 51 undef=_:=bh hl 51 9 (by kernel_rfl) (by kernel_rfl)
      have e46:f9.tmps.getD 46 undef=_:=bh hl 46 4 (by kernel_rfl) (by kernel_rfl)
      have h:=aE [(51,_),(46,_)] hs hd9 (holds_lk ⟨e51,e46,trivial⟩)
      have s:=s.more hE
      have z:=St.start w2
      refine aA h rfl rfl rfl ?_
      refine ax (aL.subL (aL.of_own s 6 rfl) 0 33 (D:=av g.me) (bj _ _ _ _)) h aC rfl (aj _) rfl ?_;intro f h
      refine ah ?_
      have e9:=h.holds 52 _ rfl
      refine ⟨?_,Ext.refl _,fun h9=>absurd h9 (by decide)⟩
      refine e9.trans ?_
      exact rfl
     ·exact cG (by decide) (by decide)
     ·exact cG (by decide) (by decide)
     ·exact cG (by decide) (by decide)
     ·exact cG (by decide) (by decide)
     ·exact cG (by decide) (by decide)
     ·exact cG (by decide) (by decide)
     ·exact cG (by decide) (by decide)
     ·intro f9 w2 hE hs hd9 hWp hT hR hFr hDj
      replace h:=sl_new (ops:=_) [(42,_),(43,_),(44,_),(45,_),(46,_),(47,_),(48,_),(49,_),(50,_),(51,_),(52,_)] h hs hd9 hR ⟨hT 0 42 (by decide) rfl,hT 1 43 (by decide) rfl,hT 2 44 (by decide) rfl,hT 3 45 (by decide) rfl,hT 4 46 (by decide) rfl,hT 5 47 (by decide) rfl,hT 6 48 (by decide) rfl,hT 7 49 (by decide) rfl,hT 8 50 (by decide) rfl,hT 9 51 (by decide) rfl,hT 10 52 (by decide) rfl,trivial⟩ (by kernel_rfl)
      replace s:=s.more hE
      clear hT hR hFr hDj
      refine fG.of ?_
      refine aA h rfl rfl rfl ?_
      refine ac h (aw (.bool true) (bW (eo _ _) (by kernel_rfl) (by decide) (h.ev rfl) (h.ev rfl) (decide (n.sc.getD 0 aZ=g.me)) (cR _ _)) (congrArg Value.bool s1)) rfl ?_;intro f h
      refine ac h (aD (h.ev rfl) (h.ev rfl)) rfl ?_;intro f h
      refine ac h (ag (h.ev rfl)) rfl ?_;intro f h
      refine aA h rfl rfl rfl ?_
      refine ac h (ag (h.ev rfl)) rfl ?_;intro f h
      refine aA h rfl rfl rfl ?_
      refine cT 0 h s Tryz.underlying36 rfl rfl rfl ?_;intro f h
      refine aA h rfl rfl rfl ?_
      refine ac h (aw (.bool true) (cY (h.ev rfl) (h.ev rfl)) (congrArg Value.bool (decide_eq_true (by have:=of_decide_eq_true s2;omega)))) rfl ?_;intro f h
      refine ac h (aD (h.ev rfl) (h.ev rfl)) rfl ?_;intro f h
      refine ah ?_
      refine hK12 _ _ ?_
      refine wpIn_cond_true (h.ev rfl) ?_
      refine ae ?_
      refine ac h (ag (h.ev rfl)) rfl ?_;intro f h
      refine ac h (ai bC (h.ev rfl)) rfl ?_;intro f h
      refine br 1 h s bE rfl rfl rfl (by rw [ap];omega) (aQ (s.getSl 0 rfl)) ?_;intro w1 s
      replace s:=s.recell (D:=ay n.me (p4 n [g.me.1]) vb dv) 1 rfl (fo _ _ _ _ _)
      refine ah ?_
      refine hK11 _ _ ?_
      refine al fun K31 hK31=>?_
      refine al fun K32 hK32=>?_
      cases q0:(decide (n.pr=g.me):Bool)
      ·skip
       refine ae ?_
       refine ac h (ai aV (h.ev rfl)) rfl ?_;intro f h
       refine ax (aL.subL (aL.of_own s 7 rfl) 33 33 (D:=av n.pr) (bc _ _ _ _)) h aC rfl (aj _) rfl ?_;intro f h
       refine ac h (ai aK (h.ev rfl)) rfl ?_;intro f h
       refine ax (aL.subL (aL.of_own s 6 rfl) 0 33 (D:=av g.me) (bj _ _ _ _)) h aC rfl (aj _) rfl ?_;intro f h
       refine ac h (aw (.bool false) (bW (eo _ _) (by kernel_rfl) (by decide) (h.ev rfl) (h.ev rfl) (decide (n.pr=g.me)) (cR _ _)) (congrArg Value.bool q0)) rfl ?_;intro f h
       refine ac h (ag (h.ev rfl)) rfl ?_;intro f h
       refine aB (b:=true) h rfl rfl rfl rfl ?_;intro f h
       refine aB (b:=true) h rfl rfl rfl rfl ?_;intro f h
       refine aB (b:=true) h rfl rfl rfl rfl ?_;intro f h
       refine aB (b:=true) h rfl rfl rfl rfl ?_;intro f h
       refine aB (b:=true) h rfl rfl rfl rfl ?_;intro f h
       refine ac h (aF (h.ev rfl) (h.ev rfl)) rfl ?_;intro f h
       refine ac h (ag (h.ev rfl)) rfl ?_;intro f h
       refine aB (b:=true) h rfl rfl rfl rfl ?_;intro f h
       refine aB (b:=true) h rfl rfl rfl rfl ?_;intro f h
       refine aB (b:=true) h rfl rfl rfl rfl ?_;intro f h
       refine aB (b:=true) h rfl rfl rfl rfl ?_;intro f h
       refine aB (b:=true) h rfl rfl rfl rfl ?_;intro f h
       refine aB (b:=true) h rfl rfl rfl rfl ?_;intro f h
       refine aB (b:=true) h rfl rfl rfl rfl ?_;intro f h
       refine ac h (aF (h.ev rfl) (h.ev rfl)) rfl ?_;intro f h
       refine ah ?_
       refine hK32 _ _ ?_
       refine wpIn_cond_false (h.ev rfl) ?_
       refine wpIn_skip ?_
       refine hK31 _ _ ?_
       refine al fun K33 hK33=>?_
       refine ae ?_
       refine au 1 h s aW rfl rfl (ap _ _ _ _) rfl ?_;intro f h
       refine az 5 h s aW rfl rfl rfl (ap _ _ _ _) (ap _ _ _ _) (a7 (aQ (s.getSl 0 rfl)) (aQ (s.getSl 3 rfl))) ?_;intro w1 s
       refine ah ?_
       refine hK33 _ _ ?_
       refine wpIn_ret ?_
       exact c5 5 rfl h s aW rfl rfl (ap _ _ _ _) (dy (by unfold kZ;rw [(show ib (aR L) n g=false from by unfold ib;rw [q0];rfl)];rfl) (by unfold kh;rw [(show g8 (aR L) n g=true from by unfold g8;rw [← dg (k:=k) (by omega),s0,s1,s2];rfl)];exact(dg (by omega)).symm) (s.sel [0,3] rfl (by decide)))
      ·skip
       cases q1:(cx (aR L) g.pr.1:Bool)
       ·skip
        refine ae ?_
        refine ac h (ai aV (h.ev rfl)) rfl ?_;intro f h
        refine ax (aL.subL (aL.of_own s 7 rfl) 33 33 (D:=av n.pr) (bc _ _ _ _)) h aC rfl (aj _) rfl ?_;intro f h
        refine ac h (ai aK (h.ev rfl)) rfl ?_;intro f h
        refine ax (aL.subL (aL.of_own s 6 rfl) 0 33 (D:=av g.me) (bj _ _ _ _)) h aC rfl (aj _) rfl ?_;intro f h
        refine ac h (aw (.bool true) (bW (eo _ _) (by kernel_rfl) (by decide) (h.ev rfl) (h.ev rfl) (decide (n.pr=g.me)) (cR _ _)) (congrArg Value.bool q0)) rfl ?_;intro f h
        refine ac h (ag (h.ev rfl)) rfl ?_;intro f h
        refine aA h rfl rfl rfl ?_
        refine au 8 h s bk rfl rfl (rfl) rfl ?_;intro f h
        refine aA h rfl rfl rfl ?_
        refine ac h (ai aV (h.ev rfl)) rfl ?_;intro f h
        refine aA h rfl rfl rfl ?_
        refine ac h (ai aH (h.ev rfl)) rfl ?_;intro f h
        refine aA h rfl rfl rfl ?_
        refine aq (am (aL.of_own s 6 rfl) 33 (cF _ _ _ _)) h bw rfl rfl ?_;intro f h
        refine aA h rfl rfl rfl ?_
        refine aI h s fi (aM (.bool false) (c3 L vo g.pr.1 _ (hO.keep s.ext) hL) (congrArg Value.bool q1)) rfl rfl ?_;intro f w1 v9 hT hE h s;obtain rfl:=hT
        refine ac h (aD (h.ev rfl) (h.ev rfl)) rfl ?_;intro f h
        refine ac h (ag (h.ev rfl)) rfl ?_;intro f h
        refine aB (b:=true) h rfl rfl rfl rfl ?_;intro f h
        refine aB (b:=true) h rfl rfl rfl rfl ?_;intro f h
        refine aB (b:=true) h rfl rfl rfl rfl ?_;intro f h
        refine aB (b:=true) h rfl rfl rfl rfl ?_;intro f h
        refine aB (b:=true) h rfl rfl rfl rfl ?_;intro f h
        refine aB (b:=true) h rfl rfl rfl rfl ?_;intro f h
        refine aB (b:=true) h rfl rfl rfl rfl ?_;intro f h
        refine ac h (aF (h.ev rfl) (h.ev rfl)) rfl ?_;intro f h
        refine ah ?_
        refine hK32 _ _ ?_
        refine wpIn_cond_false (h.ev rfl) ?_
        refine wpIn_skip ?_
        refine hK31 _ _ ?_
        refine al fun K34 hK34=>?_
        refine ae ?_
        refine au 1 h s aW rfl rfl (ap _ _ _ _) rfl ?_;intro f h
        refine az 5 h s aW rfl rfl rfl (ap _ _ _ _) (ap _ _ _ _) (a7 (aQ (s.getSl 0 rfl)) (aQ (s.getSl 3 rfl))) ?_;intro w1 s
        refine ah ?_
        refine hK34 _ _ ?_
        refine wpIn_ret ?_
        exact c5 5 rfl h s aW rfl rfl (ap _ _ _ _) (dy (by unfold kZ;rw [(show ib (aR L) n g=false from by unfold ib;rw [q0,q1];rfl)];rfl) (by unfold kh;rw [(show g8 (aR L) n g=true from by unfold g8;rw [← dg (k:=k) (by omega),s0,s1,s2];rfl)];exact(dg (by omega)).symm) (s.sel [0,3] rfl (by decide)))
       ·skip
        cases q2:(decide (g.pr.1≠n.me.1):Bool)
        ·skip
         refine ae ?_
         refine ac h (ai aV (h.ev rfl)) rfl ?_;intro f h
         refine ax (aL.subL (aL.of_own s 7 rfl) 33 33 (D:=av n.pr) (bc _ _ _ _)) h aC rfl (aj _) rfl ?_;intro f h
         refine ac h (ai aK (h.ev rfl)) rfl ?_;intro f h
         refine ax (aL.subL (aL.of_own s 6 rfl) 0 33 (D:=av g.me) (bj _ _ _ _)) h aC rfl (aj _) rfl ?_;intro f h
         refine ac h (aw (.bool true) (bW (eo _ _) (by kernel_rfl) (by decide) (h.ev rfl) (h.ev rfl) (decide (n.pr=g.me)) (cR _ _)) (congrArg Value.bool q0)) rfl ?_;intro f h
         refine ac h (ag (h.ev rfl)) rfl ?_;intro f h
         refine aA h rfl rfl rfl ?_
         refine au 8 h s bk rfl rfl (rfl) rfl ?_;intro f h
         refine aA h rfl rfl rfl ?_
         refine ac h (ai aV (h.ev rfl)) rfl ?_;intro f h
         refine aA h rfl rfl rfl ?_
         refine ac h (ai aH (h.ev rfl)) rfl ?_;intro f h
         refine aA h rfl rfl rfl ?_
         refine aq (am (aL.of_own s 6 rfl) 33 (cF _ _ _ _)) h bw rfl rfl ?_;intro f h
         refine aA h rfl rfl rfl ?_
         refine aI h s fi (aM (.bool true) (c3 L vo g.pr.1 _ (hO.keep s.ext) hL) (congrArg Value.bool q1)) rfl rfl ?_;intro f w1 v9 hT hE h s;obtain rfl:=hT
         refine ac h (aD (h.ev rfl) (h.ev rfl)) rfl ?_;intro f h
         refine ac h (ag (h.ev rfl)) rfl ?_;intro f h
         refine aA h rfl rfl rfl ?_
         refine ac h (ai aV (h.ev rfl)) rfl ?_;intro f h
         refine aA h rfl rfl rfl ?_
         refine ac h (ai aH (h.ev rfl)) rfl ?_;intro f h
         refine aA h rfl rfl rfl ?_
         refine aq (am (aL.of_own s 6 rfl) 33 (cF _ _ _ _)) h bw rfl rfl ?_;intro f h
         refine aA h rfl rfl rfl ?_
         refine ac h (ai aK (h.ev rfl)) rfl ?_;intro f h
         refine aA h rfl rfl rfl ?_
         refine ac h (ai aH (h.ev rfl)) rfl ?_;intro f h
         refine aA h rfl rfl rfl ?_
         refine aq (am (aL.of_own s 7 rfl) 0 (bZ _ _ _ _)) h bw rfl rfl ?_;intro f h
         refine aA h rfl rfl rfl ?_
         refine ac h (aw (.bool false) (cy (h.ev rfl) (h.ev rfl)) (congrArg Value.bool q2)) rfl ?_;intro f h
         refine ac h (aD (h.ev rfl) (h.ev rfl)) rfl ?_;intro f h
         refine ah ?_
         refine hK32 _ _ ?_
         refine wpIn_cond_false (h.ev rfl) ?_
         refine wpIn_skip ?_
         refine hK31 _ _ ?_
         refine al fun K35 hK35=>?_
         refine ae ?_
         refine au 1 h s aW rfl rfl (ap _ _ _ _) rfl ?_;intro f h
         refine az 5 h s aW rfl rfl rfl (ap _ _ _ _) (ap _ _ _ _) (a7 (aQ (s.getSl 0 rfl)) (aQ (s.getSl 3 rfl))) ?_;intro w1 s
         refine ah ?_
         refine hK35 _ _ ?_
         refine wpIn_ret ?_
         exact c5 5 rfl h s aW rfl rfl (ap _ _ _ _) (dy (by unfold kZ;rw [(show ib (aR L) n g=false from by unfold ib;rw [q0,q1,q2];rfl)];rfl) (by unfold kh;rw [(show g8 (aR L) n g=true from by unfold g8;rw [← dg (k:=k) (by omega),s0,s1,s2];rfl)];exact(dg (by omega)).symm) (s.sel [0,3] rfl (by decide)))
        ·skip
         refine ae ?_
         refine ac h (ai aV (h.ev rfl)) rfl ?_;intro f h
         refine ax (aL.subL (aL.of_own s 7 rfl) 33 33 (D:=av n.pr) (bc _ _ _ _)) h aC rfl (aj _) rfl ?_;intro f h
         refine ac h (ai aK (h.ev rfl)) rfl ?_;intro f h
         refine ax (aL.subL (aL.of_own s 6 rfl) 0 33 (D:=av g.me) (bj _ _ _ _)) h aC rfl (aj _) rfl ?_;intro f h
         refine ac h (aw (.bool true) (bW (eo _ _) (by kernel_rfl) (by decide) (h.ev rfl) (h.ev rfl) (decide (n.pr=g.me)) (cR _ _)) (congrArg Value.bool q0)) rfl ?_;intro f h
         refine ac h (ag (h.ev rfl)) rfl ?_;intro f h
         refine aA h rfl rfl rfl ?_
         refine au 8 h s bk rfl rfl (rfl) rfl ?_;intro f h
         refine aA h rfl rfl rfl ?_
         refine ac h (ai aV (h.ev rfl)) rfl ?_;intro f h
         refine aA h rfl rfl rfl ?_
         refine ac h (ai aH (h.ev rfl)) rfl ?_;intro f h
         refine aA h rfl rfl rfl ?_
         refine aq (am (aL.of_own s 6 rfl) 33 (cF _ _ _ _)) h bw rfl rfl ?_;intro f h
         refine aA h rfl rfl rfl ?_
         refine aI h s fi (aM (.bool true) (c3 L vo g.pr.1 _ (hO.keep s.ext) hL) (congrArg Value.bool q1)) rfl rfl ?_;intro f w1 v9 hT hE h s;obtain rfl:=hT
         refine ac h (aD (h.ev rfl) (h.ev rfl)) rfl ?_;intro f h
         refine ac h (ag (h.ev rfl)) rfl ?_;intro f h
         refine aA h rfl rfl rfl ?_
         refine ac h (ai aV (h.ev rfl)) rfl ?_;intro f h
         refine aA h rfl rfl rfl ?_
         refine ac h (ai aH (h.ev rfl)) rfl ?_;intro f h
         refine aA h rfl rfl rfl ?_
         refine aq (am (aL.of_own s 6 rfl) 33 (cF _ _ _ _)) h bw rfl rfl ?_;intro f h
         refine aA h rfl rfl rfl ?_
         refine ac h (ai aK (h.ev rfl)) rfl ?_;intro f h
         refine aA h rfl rfl rfl ?_
         refine ac h (ai aH (h.ev rfl)) rfl ?_;intro f h
         refine aA h rfl rfl rfl ?_
         refine aq (am (aL.of_own s 7 rfl) 0 (bZ _ _ _ _)) h bw rfl rfl ?_;intro f h
         refine aA h rfl rfl rfl ?_
         refine ac h (aw (.bool true) (cy (h.ev rfl) (h.ev rfl)) (congrArg Value.bool q2)) rfl ?_;intro f h
         refine ac h (aD (h.ev rfl) (h.ev rfl)) rfl ?_;intro f h
         refine ah ?_
         refine hK32 _ _ ?_
         refine wpIn_cond_true (h.ev rfl) ?_
         refine ae ?_
         refine ac h (ai aV (h.ev rfl)) rfl ?_;intro f h
         refine ax (aL.subL (aL.of_own s 6 rfl) 33 33 (D:=av g.pr) (bc _ _ _ _)) h aC rfl (aj _) rfl ?_;intro f h
         refine ac h (ai aV (h.ev rfl)) rfl ?_;intro f h
         refine dE 1 h s aC rfl rfl rfl (aj _) (by rw [ap];omega) (aS _) ?_;intro w1 s
         replace s:=s.recell (D:=ay n.me g.pr vb dv) 1 rfl (ff _ _ _ _ _)
         refine ah ?_
         refine hK31 _ _ ?_
         refine al fun K36 hK36=>?_
         refine ae ?_
         refine au 1 h s aW rfl rfl (ap _ _ _ _) rfl ?_;intro f h
         refine az 5 h s aW rfl rfl rfl (ap _ _ _ _) (ap _ _ _ _) (a7 (aQ (s.getSl 0 rfl)) (aQ (s.getSl 3 rfl))) ?_;intro w1 s
         refine ah ?_
         refine hK36 _ _ ?_
         refine wpIn_ret ?_
         exact c5 5 rfl h s aW rfl rfl (ap _ _ _ _) (dy (by unfold kZ;rw [(show ib (aR L) n g=true from by unfold ib;rw [q0,q1,q2];rfl)];rfl) (by unfold kh;rw [(show g8 (aR L) n g=true from by unfold g8;rw [← dg (k:=k) (by omega),s0,s1,s2];rfl)];exact(dg (by omega)).symm) (s.sel [0,3] rfl (by decide)))
set_option maxHeartbeats 2000000 in
theorem sI (L:List N3) (vo:Value) (no:Int) (w:World) (hO:eN w vo L) (hL:L.length≤40) (hrs:RS L) (hlv:cx (aR L) no=true):Calls Tryz.prog 31 [.agg #[vo],.int .i64 no].toArray w (cU w (zz w (fun _=>True) (fp (nds L) no))):=by
 obtain ⟨hgm,hgn⟩:=hrs.get hlv
 have hgb:=hrs.rb.each _ hgm
 refine bq Tryz.func31 rfl Tryz.ntmps31 rfl [(0,.agg #[vo]),(1,.int .i64 no)] (by simp) fun f h=>?_
 have s:=St.start w
 refine al fun K1 hK1=>?_
 refine ae ?_
 refine bV (#[vo]) h s rfl rfl rfl ?_;intro f w1 b2 h s
 refine bf (#[bp]) h s d3 rfl rfl ?_;intro f w1 b4 h s
 refine ah ?_
 refine hK1 _ _ ?_
 refine al fun K2 hK2=>?_
 refine ae ?_
 refine au 1 h s bk rfl rfl (rfl) rfl ?_;intro f h
 refine ac h (ag (h.ev rfl)) rfl ?_;intro f h
 refine aI h s Dg (yI L vo no _ (hO.keep s.ext) hL) rfl rfl ?_;intro f w1 v9 hT hE h s;obtain rfl:=hT
 refine bf (ay aZ aZ bp bp) h s dL rfl rfl ?_;intro f w1 b5 h s
 refine az 0 h s aW rfl rfl rfl (ap _ _ _ _) (ap _ _ _ _) (a7 (dc ((ol hO.2 no).1.keep s.ext)) (dc ((ol hO.2 no).2.keep s.ext))) ?_;intro w1 s
 refine ah ?_
 refine hK2 _ _ ?_
 refine al fun K3 hK3=>?_
 refine ae ?_
 refine au 2 h s bk rfl rfl (rfl) rfl ?_;intro f h
 refine ac h (ag (h.ev rfl)) rfl ?_;intro f h
 refine aI h s zh (r3 L vo no _ (hO.keep s.ext) hL) rfl rfl ?_;rintro f w1 v15 ⟨vw,rfl,hOw⟩ hE h sq;replace s:=s.sl_new hE hOw;clear hOw
 obtain ⟨K,hK⟩:∃ x9,x9=gN L no:=⟨_,rfl⟩
 rw [← hK] at s
 have hKi:∀ y∈K,y∈L:=fun y hy=>by rw [hK] at hy;exact(List.mem_filter.1 hy).1
 have hKl:K.length≤40:=by rw [hK];have:=uv L no;omega
 refine bf (#[bp]) h s d3 rfl rfl ?_;intro f w1 b6 h s
 refine az 0 h s bk rfl rfl rfl (rfl) (rfl) (cq (aQ (s.getSl 1 rfl))) ?_;intro w1 s
 refine ah ?_
 refine hK3 _ _ ?_
 refine al fun K4 hK4=>?_
 refine ae ?_
 replace s:=s.nilSl 42 68
 refine ac h (co g5) rfl ?_;intro f h
 refine bf (#[bp]) h s d3 rfl rfl ?_;intro f w1 b7 h s
 refine az 0 h s bk rfl rfl rfl (rfl) (rfl) (cq (aQ (s.getSl 1 rfl))) ?_;intro w1 s
 refine ah ?_
 refine hK4 _ _ ?_
 refine al fun K5 hK5=>?_
 refine al fun K6 hK6=>?_
 refine ae ?_
 replace s:=s.grp0 (S:=c6 []) (fun _ x hx=>by cases hx)
 refine ac h (ai cp (h.ev rfl)) rfl ?_;intro f h
 refine aq (V:=vw) (am (aL.of_own s 3 rfl) 0 rfl) h da rfl rfl ?_;intro f h
 refine cT 4 h s Tryz.underlying22 rfl rfl rfl ?_;intro f h
 refine ac h (ag (h.ev rfl)) rfl ?_;intro f h
 refine ah ?_
 refine hK6 _ _ ?_
 refine wpIn_block ?_
 refine wpIn_loop_ghost (fun nn aa ww=>∃ k:Nat,∃ vb:Value,∃ Lc:List N3,∃ kc:List Nat,Sl 35 aa [(0,.agg #[vo]),(1,.int .i64 no),(2,.pointer (some ⟨b2,0,none⟩)),(4,.pointer (some ⟨b4,0,none⟩)),(5,.pointer (some ⟨b5,0,none⟩)),(6,.pointer (some ⟨b6,0,none⟩)),(7,.pointer (some ⟨b7,0,none⟩)),(18,vw),(19,.int .i64 (K.length:Int)),(20,.int .i64 (k:Int))]∧St w [(.grp kc (c6 Lc)),.blk b7 (.cells (#[vb]) 24),.sl vb 42 68 Lc.length (aG Lc),.blk b6 (.cells (#[vw]) 24),.sl vw 42 68 K.length (aG K),.blk b5 (.cells (ay (cb L no).1.me (cb L no).1.pr (cb L no).2.1 (cb L no).2.2) 42),.blk b4 (.cells (#[bp]) 24),.blk b2 (.cells (#[vo]) 24)] ww∧nn=K.length - k∧k≤K.length∧nds Lc=zM (aR K) K (cb L no).1 k) (K.length - (0)) ⟨0,bp,[],[],h.only ⟨rfl,rfl,rfl,rfl,rfl,rfl,rfl,rfl,rfl,aO rfl (by omega),trivial⟩,s.as ⟨rfl,rfl,rfl,rfl,rfl,rfl,rfl,rfl,trivial⟩,rfl,Nat.zero_le _,rfl⟩ ?_
 rintro _ f w1 ⟨k,vb,Lc,kc,h,s,hnn,hp0,hp1⟩
 refine al fun K7 hK7=>?_
 refine ae ?_
 refine ac h (bS (h.ev rfl) (h.ev rfl)) rfl ?_;intro f h
 refine ah ?_
 refine hK7 _ _ ?_
 refine al fun K8 hK8=>?_
 refine bK h rfl (fun hc=>?_) (fun hc=>?_)
 ·replace hc:=of_decide_eq_true hc
  refine wpIn_skip ?_
  refine hK8 _ _ ?_
  refine al fun K9 hK9=>?_
  refine wpIn_block ?_
  refine al fun K10 hK10=>?_
  refine ae ?_
  have hkl:k<K.length:=by omega
  have hlc:Lc.length=k:=yV hp1 (by omega)
  have hyb:=hrs.rb.each _ (hKi _ (bu hkl))
  refine ac h (cc (bX.of_own (s.getSl 4 rfl)) (k) Tryz.underlying22 eA (h.ev rfl) (h.ev rfl) (by omega) (by omega)) rfl ?_;intro f h
  refine ax ((bX.of_own (s.getSl 4 rfl)).el (k) (by omega) (by decide) (D:=ay (K.getD k z3).1.me (K.getD k z3).1.pr (K.getD k z3).2.1 (K.getD k z3).2.2) (df K k hkl)) h aW rfl (ap _ _ _ _) rfl ?_;intro f h
  refine bf (ay aZ aZ bp bp) h s dL rfl rfl ?_;intro f w1 b9 h s
  refine az 0 h s aW rfl rfl rfl (ap _ _ _ _) (ap _ _ _ _) (a7 (dc ((hO.2 _ (hKi _ (bu hkl))).1.keep s.ext)) (dc ((hO.2 _ (hKi _ (bu hkl))).2.keep s.ext))) ?_;intro w1 s
  refine ah ?_
  refine hK10 _ _ ?_
  replace s:=s.sel [3,0,1,2,4,5,6,7,8] rfl (by decide)
  refine nx 1 8 [[],[0],[],[],[],[2,3,4],[2,3,4,5],[0,1,2,3,4,5,6],[0,1,2,3,4,5,6,7],[0,1,2,3,4,5,6,7,8]] [[],[],[],[],[],[],[],[10,6],[],[]] [fun _=>[],fun _=>[],fun _=>[],fun _=>[],fun _=>[],fun v=>[.sl (dR 66 (some (v 5))) 28 33 (eK (aR K) (K.getD k z3).1 (cb L no).1).sc.length (ar (eK (aR K) (K.getD k z3).1 (cb L no).1).sc),.sl (dR 67 (some (v 5))) 28 33 (eK (aR K) (K.getD k z3).1 (cb L no).1).fg.length (ar (eK (aR K) (K.getD k z3).1 (cb L no).1).fg)],fun v=>[.sl (v 6) 42 68 1 (ll (((eK (aR K) (K.getD k z3).1 (cb L no).1),(dR 66 (some (v 5))),(dR 67 (some (v 5)))):N3))],fun v=>[.sl (v 7) 42 68 (Lc++[(((eK (aR K) (K.getD k z3).1 (cb L no).1),(dR 66 (some (v 5))),(dR 67 (some (v 5)))):N3)]).length (aG (Lc++[(((eK (aR K) (K.getD k z3).1 (cb L no).1),(dR 66 (some (v 5))),(dR 67 (some (v 5)))):N3)]))],fun _=>[],fun _=>[]] [[.sl vb 42 68 Lc.length (aG Lc)]] [fun v=>v 0=.pointer (some ⟨b7,0,none⟩),fun v=>v 1=vb,fun v=>v 2=.agg #[vw],fun v=>v 3=.agg (ay (K.getD k z3).1.me (K.getD k z3).1.pr (K.getD k z3).2.1 (K.getD k z3).2.2),fun v=>v 4=.agg (ay (cb L no).1.me (cb L no).1.pr (cb L no).2.1 (cb L no).2.2),fun v=>v 5=.agg (ay (((eK (aR K) (K.getD k z3).1 (cb L no).1),(dR 66 (some (v 5))),(dR 67 (some (v 5)))):N3).1.me (((eK (aR K) (K.getD k z3).1 (cb L no).1),(dR 66 (some (v 5))),(dR 67 (some (v 5)))):N3).1.pr (((eK (aR K) (K.getD k z3).1 (cb L no).1),(dR 66 (some (v 5))),(dR 67 (some (v 5)))):N3).2.1 (((eK (aR K) (K.getD k z3).1 (cb L no).1),(dR 66 (some (v 5))),(dR 67 (some (v 5)))):N3).2.2),fun _=>True,fun _=>True,fun _=>True,fun _=>True] [.blk b9 (.cells (ay (K.getD k z3).1.me (K.getD k z3).1.pr (K.getD k z3).2.1 (K.getD k z3).2.2) 42),(.grp kc (c6 Lc)),.blk b7 (.cells (#[vb]) 24),.blk b6 (.cells (#[vw]) 24),.sl vw 42 68 K.length (aG K),.blk b5 (.cells (ay (cb L no).1.me (cb L no).1.pr (cb L no).2.1 (cb L no).2.2) 42),.blk b4 (.cells (#[bp]) 24),.blk b2 (.cells (#[vo]) 24)] h s rfl (by kernel_rfl) (by kernel_rfl) (by kernel_rfl) (And.intro ?_ (And.intro ?_ (And.intro ?_ (And.intro ?_ (And.intro ?_ (And.intro ?_ (And.intro ?_ (And.intro ?_ (trivial))))))))) [0,1,2,3,4,5,7] (by kernel_rfl) ?_
  ·intro f9 w2 vl7 E9 hs9 hd9 hl hF s
   have e7:f9.tmps.getD 7 undef=_:=dt hl 7 (by kernel_rfl) (by kernel_rfl) (h.holds 7 _ rfl)
   have h:=aE [(7,_)] (hs9.trans h.size) (hd9.trans h.defers) (holds_lk ⟨e7,trivial⟩)
   replace s:St w (.blk b9 (.cells (ay (K.getD k z3).1.me (K.getD k z3).1.pr (K.getD k z3).2.1 (K.getD k z3).2.2) 42)::(.grp kc (c6 Lc))::.blk b7 (.cells (#[vb]) 24)::.blk b6 (.cells (#[vw]) 24)::.sl vw 42 68 K.length (aG K)::.blk b5 (.cells (ay (cb L no).1.me (cb L no).1.pr (cb L no).2.1 (cb L no).2.2) 42)::.blk b4 (.cells (#[bp]) 24)::.blk b2 (.cells (#[vo]) 24)::E9) _:=s
   refine ac h (ai cp (h.ev rfl)) rfl ?_;intro f h
   exact ah ⟨_,bY 24 rfl (h.holds 24 _ rfl),rfl,s⟩
  ·intro f9 w2 vl7 E9 hs9 hd9 hl hF s
   have e24:f9.tmps.getD 24 undef=.pointer (some ⟨b7,0,none⟩):=(cd hl 24 0 (by kernel_rfl) (by kernel_rfl)).trans (hF 0 (by decide))
   have h:=aE [(24,.pointer (some ⟨b7,0,none⟩))] (hs9.trans h.size) (hd9.trans h.defers) (holds_lk ⟨e24,trivial⟩)
   replace s:St w (.blk b9 (.cells (ay (K.getD k z3).1.me (K.getD k z3).1.pr (K.getD k z3).2.1 (K.getD k z3).2.2) 42)::(.grp kc (c6 Lc))::.blk b7 (.cells (#[vb]) 24)::.blk b6 (.cells (#[vw]) 24)::.sl vw 42 68 K.length (aG K)::.blk b5 (.cells (ay (cb L no).1.me (cb L no).1.pr (cb L no).2.1 (cb L no).2.2) 42)::.blk b4 (.cells (#[bp]) 24)::.blk b2 (.cells (#[vo]) 24)::E9) _:=s
   refine aq (V:=vb) (am (aL.of_own s 2 rfl) 0 rfl) h da rfl rfl ?_;intro f h
   exact ah ⟨_,bY 25 rfl (h.holds 25 _ rfl),rfl,s⟩
  ·intro f9 w2 vl7 E9 hs9 hd9 hl hF s
   have e6:f9.tmps.getD 6 undef=_:=dt hl 6 (by kernel_rfl) (by kernel_rfl) (h.holds 6 _ rfl)
   have h:=aE [(6,_)] (hs9.trans h.size) (hd9.trans h.defers) (holds_lk ⟨e6,trivial⟩)
   replace s:St w (.blk b9 (.cells (ay (K.getD k z3).1.me (K.getD k z3).1.pr (K.getD k z3).2.1 (K.getD k z3).2.2) 42)::(.grp kc (c6 Lc))::.blk b7 (.cells (#[vb]) 24)::.blk b6 (.cells (#[vw]) 24)::.sl vw 42 68 K.length (aG K)::.blk b5 (.cells (ay (cb L no).1.me (cb L no).1.pr (cb L no).2.1 (cb L no).2.2) 42)::.blk b4 (.cells (#[bp]) 24)::.blk b2 (.cells (#[vo]) 24)::E9) _:=s
   refine au 3 h s bk rfl rfl (rfl) rfl ?_;intro f h
   exact ah ⟨_,bY 26 rfl (h.holds 26 _ rfl),rfl,s⟩
  ·intro f9 w2 vl7 E9 hs9 hd9 hl hF s
   have e9:f9.tmps.getD 9 undef=_:=dt hl 9 (by kernel_rfl) (by kernel_rfl) (h.holds 9 _ rfl)
   have h:=aE [(9,_)] (hs9.trans h.size) (hd9.trans h.defers) (holds_lk ⟨e9,trivial⟩)
   replace s:St w (.blk b9 (.cells (ay (K.getD k z3).1.me (K.getD k z3).1.pr (K.getD k z3).2.1 (K.getD k z3).2.2) 42)::(.grp kc (c6 Lc))::.blk b7 (.cells (#[vb]) 24)::.blk b6 (.cells (#[vw]) 24)::.sl vw 42 68 K.length (aG K)::.blk b5 (.cells (ay (cb L no).1.me (cb L no).1.pr (cb L no).2.1 (cb L no).2.2) 42)::.blk b4 (.cells (#[bp]) 24)::.blk b2 (.cells (#[vo]) 24)::E9) _:=s
   refine au 0 h s aW rfl rfl (ap _ _ _ _) rfl ?_;intro f h
   exact ah ⟨_,bY 27 rfl (h.holds 27 _ rfl),rfl,s⟩
  ·intro f9 w2 vl7 E9 hs9 hd9 hl hF s
   have e5:f9.tmps.getD 5 undef=_:=dt hl 5 (by kernel_rfl) (by kernel_rfl) (h.holds 5 _ rfl)
   have h:=aE [(5,_)] (hs9.trans h.size) (hd9.trans h.defers) (holds_lk ⟨e5,trivial⟩)
   replace s:St w (.blk b9 (.cells (ay (K.getD k z3).1.me (K.getD k z3).1.pr (K.getD k z3).2.1 (K.getD k z3).2.2) 42)::(.grp kc (c6 Lc))::.blk b7 (.cells (#[vb]) 24)::.blk b6 (.cells (#[vw]) 24)::.sl vw 42 68 K.length (aG K)::.blk b5 (.cells (ay (cb L no).1.me (cb L no).1.pr (cb L no).2.1 (cb L no).2.2) 42)::.blk b4 (.cells (#[bp]) 24)::.blk b2 (.cells (#[vo]) 24)::E9) _:=s
   refine au 5 h s aW rfl rfl (ap _ _ _ _) rfl ?_;intro f h
   exact ah ⟨_,bY 28 rfl (h.holds 28 _ rfl),rfl,s⟩
  ·intro f9 w2 vl7 E9 hs9 hd9 hl hF s
   have e26:f9.tmps.getD 26 undef=.agg #[vw]:=(cd hl 26 2 (by kernel_rfl) (by kernel_rfl)).trans (hF 2 (by decide))
   have e27:f9.tmps.getD 27 undef=.agg (ay (K.getD k z3).1.me (K.getD k z3).1.pr (K.getD k z3).2.1 (K.getD k z3).2.2):=(cd hl 27 3 (by kernel_rfl) (by kernel_rfl)).trans (hF 3 (by decide))
   have e28:f9.tmps.getD 28 undef=.agg (ay (cb L no).1.me (cb L no).1.pr (cb L no).2.1 (cb L no).2.2):=(cd hl 28 4 (by kernel_rfl) (by kernel_rfl)).trans (hF 4 (by decide))
   have h:=aE [(26,.agg #[vw]),(27,.agg (ay (K.getD k z3).1.me (K.getD k z3).1.pr (K.getD k z3).2.1 (K.getD k z3).2.2)),(28,.agg (ay (cb L no).1.me (cb L no).1.pr (cb L no).2.1 (cb L no).2.2))] (hs9.trans h.size) (hd9.trans h.defers) (holds_lk ⟨e26,e27,e28,trivial⟩)
   replace s:St w (.blk b9 (.cells (ay (K.getD k z3).1.me (K.getD k z3).1.pr (K.getD k z3).2.1 (K.getD k z3).2.2) 42)::(.grp kc (c6 Lc))::.blk b7 (.cells (#[vb]) 24)::.blk b6 (.cells (#[vw]) 24)::.sl vw 42 68 K.length (aG K)::.blk b5 (.cells (ay (cb L no).1.me (cb L no).1.pr (cb L no).2.1 (cb L no).2.2) 42)::.blk b4 (.cells (#[bp]) 24)::.blk b2 (.cells (#[vo]) 24)::E9) _:=s
   refine aI h s Ck (ud K vw (K.getD k z3).1 (cb L no).1 (K.getD k z3).2.1 (K.getD k z3).2.2 (cb L no).2.1 (cb L no).2.2 _ (⟨bX.of_own (s.getSl 4 rfl),fun y hy=>(hO.2 y (hKi y hy)).keep s.ext⟩:eN _ vw K) hKl ((hO.2 _ (hKi _ (bu hkl))).1.keep s.ext) ((hO.2 _ (hKi _ (bu hkl))).2.keep s.ext) (by omega) (by omega) ((ol hO.2 no).1.keep s.ext) ((ol hO.2 no).2.keep s.ext) (by omega)) rfl rfl ?_;rintro f w1 v29 ⟨cu,cv,hv9,hS⟩ hE h sq;replace s:=s.add hS
   have h66:cu=dR 66 (some v29):=by rw [hv9];exact(Bd (bX.of_own (hS.getSl 0 rfl))).symm
   have h67:cv=dR 67 (some v29):=by rw [hv9];exact(Aq (bX.of_own (hS.getSl 1 rfl))).symm
   clear hS
   subst h66;subst h67
   exact ah ⟨_,bY 29 rfl (h.holds 29 _ rfl),hv9,s⟩
  ·intro f9 w2 vl7 E9 hs9 hd9 hl hF s
   have e29:f9.tmps.getD 29 undef=.agg (ay (((eK (aR K) (K.getD k z3).1 (cb L no).1),(dR 66 (some (vl7 5))),(dR 67 (some (vl7 5)))):N3).1.me (((eK (aR K) (K.getD k z3).1 (cb L no).1),(dR 66 (some (vl7 5))),(dR 67 (some (vl7 5)))):N3).1.pr (((eK (aR K) (K.getD k z3).1 (cb L no).1),(dR 66 (some (vl7 5))),(dR 67 (some (vl7 5)))):N3).2.1 (((eK (aR K) (K.getD k z3).1 (cb L no).1),(dR 66 (some (vl7 5))),(dR 67 (some (vl7 5)))):N3).2.2):=(cd hl 29 5 (by kernel_rfl) (by kernel_rfl)).trans (hF 5 (by decide))
   have h:=aE [(29,.agg (ay (((eK (aR K) (K.getD k z3).1 (cb L no).1),(dR 66 (some (vl7 5))),(dR 67 (some (vl7 5)))):N3).1.me (((eK (aR K) (K.getD k z3).1 (cb L no).1),(dR 66 (some (vl7 5))),(dR 67 (some (vl7 5)))):N3).1.pr (((eK (aR K) (K.getD k z3).1 (cb L no).1),(dR 66 (some (vl7 5))),(dR 67 (some (vl7 5)))):N3).2.1 (((eK (aR K) (K.getD k z3).1 (cb L no).1),(dR 66 (some (vl7 5))),(dR 67 (some (vl7 5)))):N3).2.2))] (hs9.trans h.size) (hd9.trans h.defers) (holds_lk ⟨e29,trivial⟩)
   replace s:St w (.blk b9 (.cells (ay (K.getD k z3).1.me (K.getD k z3).1.pr (K.getD k z3).2.1 (K.getD k z3).2.2) 42)::(.grp kc (c6 Lc))::.blk b7 (.cells (#[vb]) 24)::.blk b6 (.cells (#[vw]) 24)::.sl vw 42 68 K.length (aG K)::.blk b5 (.cells (ay (cb L no).1.me (cb L no).1.pr (cb L no).2.1 (cb L no).2.2) 42)::.blk b4 (.cells (#[bp]) 24)::.blk b2 (.cells (#[vo]) 24)::E9) _:=s
   refine cm (vs:=[.agg (ay (((eK (aR K) (K.getD k z3).1 (cb L no).1),(dR 66 (some (vl7 5))),(dR 67 (some (vl7 5)))):N3).1.me (((eK (aR K) (K.getD k z3).1 (cb L no).1),(dR 66 (some (vl7 5))),(dR 67 (some (vl7 5)))):N3).1.pr (((eK (aR K) (K.getD k z3).1 (cb L no).1),(dR 66 (some (vl7 5))),(dR 67 (some (vl7 5)))):N3).2.1 (((eK (aR K) (K.getD k z3).1 (cb L no).1),(dR 66 (some (vl7 5))),(dR 67 (some (vl7 5)))):N3).2.2)]) [.tmp 29] h s Tryz.underlying22 gY rfl rfl (jU (((eK (aR K) (K.getD k z3).1 (cb L no).1),(dR 66 (some (vl7 5))),(dR 67 (some (vl7 5)))):N3)) rfl rfl rfl ?_;intro f w1 v30 h s
   replace s:=s.resl (m:=1) (ys:=ll (((eK (aR K) (K.getD k z3).1 (cb L no).1),(dR 66 (some (vl7 5))),(dR 67 (some (vl7 5)))):N3)) 0 rfl rfl (kp (((eK (aR K) (K.getD k z3).1 (cb L no).1),(dR 66 (some (vl7 5))),(dR 67 (some (vl7 5)))):N3))
   exact ah ⟨_,bY 30 rfl (h.holds 30 _ rfl),trivial,s⟩
  ·intro f9 w2 vl7 E9 hs9 hd9 hl hF s
   have e25:f9.tmps.getD 25 undef=vb:=(cd hl 25 1 (by kernel_rfl) (by kernel_rfl)).trans (hF 1 (by decide))
   have e30:f9.tmps.getD 30 undef=(vl7 6):=cd hl 30 6 (by kernel_rfl) (by kernel_rfl)
   have h:=aE [(25,vb),(30,(vl7 6))] (hs9.trans h.size) (hd9.trans h.defers) (holds_lk ⟨e25,e30,trivial⟩)
   replace s:St w (.sl vb 42 68 Lc.length (aG Lc)::.sl (vl7 6) 42 68 1 (ll (((eK (aR K) (K.getD k z3).1 (cb L no).1),(dR 66 (some (vl7 5))),(dR 67 (some (vl7 5)))):N3))::.blk b9 (.cells (ay (K.getD k z3).1.me (K.getD k z3).1.pr (K.getD k z3).2.1 (K.getD k z3).2.2) 42)::(.grp kc (c6 Lc))::.blk b7 (.cells (#[vb]) 24)::.blk b6 (.cells (#[vw]) 24)::.sl vw 42 68 K.length (aG K)::.blk b5 (.cells (ay (cb L no).1.me (cb L no).1.pr (cb L no).2.1 (cb L no).2.2) 42)::.blk b4 (.cells (#[bp]) 24)::.blk b2 (.cells (#[vo]) 24)::E9) _:=s
   refine dP 0 1 h s Tryz.underlying22 gY rfl rfl rfl rfl (by decide) (a7 (nO _ _) (nO _ _)) (by unfold maxLen;omega) (by omega) rfl ?_;intro f w1 v31 h s
   replace s:=s.resl (m:=(Lc++[(((eK (aR K) (K.getD k z3).1 (cb L no).1),(dR 66 (some (vl7 5))),(dR 67 (some (vl7 5)))):N3)]).length) (ys:=aG (Lc++[(((eK (aR K) (K.getD k z3).1 (cb L no).1),(dR 66 (some (vl7 5))),(dR 67 (some (vl7 5)))):N3)])) 0 rfl (by rw [List.length_append];rfl) (jM _ _)
   exact ah ⟨_,bY 31 rfl (h.holds 31 _ rfl),trivial,(s.pick _ (List.Sublist.cons_cons _ (List.Sublist.cons _ (List.Sublist.cons_cons _ (List.Sublist.cons_cons _ (List.Sublist.cons_cons _ (List.Sublist.cons_cons _ (List.Sublist.cons_cons _ (List.Sublist.cons_cons _ (List.Sublist.cons_cons _ (List.Sublist.cons_cons _ (List.Sublist.refl _))))))))))))⟩
  intro f w1 vl7 hs9 hd9 hv hr hF s
  replace hv:=fun i d h9=>hv i d (show Nat.blt i 8=true from h9)
  replace h:=oG 8 (ops:=_) [(24,.pointer (some ⟨b7,0,none⟩)),(25,vb),(26,.agg #[vw]),(27,.agg (ay (K.getD k z3).1.me (K.getD k z3).1.pr (K.getD k z3).2.1 (K.getD k z3).2.2)),(28,.agg (ay (cb L no).1.me (cb L no).1.pr (cb L no).2.1 (cb L no).2.2)),(29,.agg (ay (((eK (aR K) (K.getD k z3).1 (cb L no).1),(dR 66 (some (vl7 5))),(dR 67 (some (vl7 5)))):N3).1.me (((eK (aR K) (K.getD k z3).1 (cb L no).1),(dR 66 (some (vl7 5))),(dR 67 (some (vl7 5)))):N3).1.pr (((eK (aR K) (K.getD k z3).1 (cb L no).1),(dR 66 (some (vl7 5))),(dR 67 (some (vl7 5)))):N3).2.1 (((eK (aR K) (K.getD k z3).1 (cb L no).1),(dR 66 (some (vl7 5))),(dR 67 (some (vl7 5)))):N3).2.2)),(30,(vl7 6)),(31,(vl7 7))] h hs9 hd9 hr ⟨(hv 0 24 rfl rfl).trans (hF 0 (by kernel_rfl)),(hv 1 25 rfl rfl).trans (hF 1 (by kernel_rfl)),(hv 2 26 rfl rfl).trans (hF 2 (by kernel_rfl)),(hv 3 27 rfl rfl).trans (hF 3 (by kernel_rfl)),(hv 4 28 rfl rfl).trans (hF 4 (by kernel_rfl)),(hv 5 29 rfl rfl).trans (hF 5 (by kernel_rfl)),hv 6 30 rfl rfl,hv 7 31 rfl rfl,trivial⟩ (by kernel_rfl)
  replace s:St w [.sl (dR 66 (some (vl7 5))) 28 33 (eK (aR K) (K.getD k z3).1 (cb L no).1).sc.length (ar (eK (aR K) (K.getD k z3).1 (cb L no).1).sc),.sl (dR 67 (some (vl7 5))) 28 33 (eK (aR K) (K.getD k z3).1 (cb L no).1).fg.length (ar (eK (aR K) (K.getD k z3).1 (cb L no).1).fg),.sl (vl7 7) 42 68 (Lc++[(((eK (aR K) (K.getD k z3).1 (cb L no).1),(dR 66 (some (vl7 5))),(dR 67 (some (vl7 5)))):N3)]).length (aG (Lc++[(((eK (aR K) (K.getD k z3).1 (cb L no).1),(dR 66 (some (vl7 5))),(dR 67 (some (vl7 5)))):N3)])),.blk b9 (.cells (ay (K.getD k z3).1.me (K.getD k z3).1.pr (K.getD k z3).2.1 (K.getD k z3).2.2) 42),(.grp kc (c6 Lc)),.blk b7 (.cells (#[vb]) 24),.blk b6 (.cells (#[vw]) 24),.sl vw 42 68 K.length (aG K),.blk b5 (.cells (ay (cb L no).1.me (cb L no).1.pr (cb L no).2.1 (cb L no).2.2) 42),.blk b4 (.cells (#[bp]) 24),.blk b2 (.cells (#[vo]) 24)] _:=s
  refine ac h (ai cp (h.ev rfl)) rfl ?_;intro f h
  refine br 5 h s da rfl rfl rfl (by show 0<1;decide) (aQ (s.getSl 2 rfl)) ?_;intro w1 s
  replace s:=s.recell (D:=#[(vl7 7)]) 5 rfl rfl
  refine ah ?_
  refine bF ?_
  refine hK9 _ _ ?_
  refine ae ?_
  replace s:=s.sel [0,1,4,2,3,5,6,7,8,9,10] rfl (by decide)
  obtain ⟨kn,s⟩:=s.grpR (S':=c6 (Lc++[(((eK (aR K) (K.getD k z3).1 (cb L no).1),(dR 66 (some (vl7 5))),(dR 67 (some (vl7 5)))):N3)])) (fun w9 h1 h2 h3 x hx=>by rcases List.mem_append.1 hx with hx|hx;exact h3 x hx;rw [List.mem_singleton] at hx;subst hx;exact ⟨h1,h2⟩)
  refine ac h (ce (h.ev rfl) (h.ev rfl) (by omega)) rfl ?_;intro f h
  refine ac h (ag (h.ev rfl)) rfl ?_;intro f h
  refine ah ?_
  refine bT ?_
  exact ⟨_,by omega,⟨k+1,(vl7 7),Lc++[(((eK (aR K) (K.getD k z3).1 (cb L no).1),(dR 66 (some (vl7 5))),(dR 67 (some (vl7 5)))):N3)],kn,h.only ⟨rfl,rfl,rfl,rfl,rfl,rfl,rfl,rfl,rfl,aO rfl (by omega),trivial⟩,St.as (s.sel [0,3,1,4,5,6,7,8] rfl (by decide)) ⟨rfl,rfl,rfl,rfl,rfl,rfl,rfl,rfl,trivial⟩,rfl,by omega,un hkl hp1 rfl⟩⟩
 ·replace hc:=of_decide_eq_false hc
  refine wpIn_exit ?_
  refine bJ ?_
  refine bJ ?_
  refine cC ?_
  refine hK5 _ _ ?_
  refine al fun K11 hK11=>?_
  refine ae ?_
  refine au 1 h s bk rfl rfl (rfl) rfl ?_;intro f h
  refine az 6 h s bk rfl rfl rfl (rfl) (rfl) (cq (aQ (s.getSl 2 rfl))) ?_;intro w1 s
  refine ah ?_
  refine hK11 _ _ ?_
  refine wpIn_ret ?_
  exact c5 6 rfl h s bk rfl rfl (rfl) (oO (hp1.trans (xP hK (by omega))) (s.sel [2,0] rfl (by decide)))
end Go.Proofs.YthggibfkgofncaaGreat
