/- What Join of the reference of chord answers. -/
import Derived.Test.YthggibfkgofncaaGreatVb
import Derived.Test.YthggibfkgofncaaGreatVc
set_option linter.unusedVariables false
set_option linter.unusedSimpArgs false
set_option linter.unusedSectionVars false
namespace Go.Proofs.YthggibfkgofncaaGreat
open Go.RowKit
set_option maxHeartbeats 2000000 in
theorem uv (L:List N3) (vo:Value) (m:Mb) (no:Int) (w:World) (hO:cf w vo L) (hL:L.length≤40) (hb:RwB L):Calls Tryz.prog 19 [.agg #[vo],.agg (au m),.int .i64 no].toArray w (cT w (yg w (fun w9=>cf w9 vo L) (vt L m no) (qh L m no))):=by
 refine bj Tryz.func19 rfl Tryz.ntmps19 rfl [(0,.agg #[vo]),(1,.agg (au m)),(2,.int .i64 no)] (by simp) fun f h=>?_
 have s:=St.start w
 refine aj fun K1 hK1=>?_
 refine ae ?_
 refine bT (#[vo]) h s rfl rfl rfl ?_;intro f w1 b3 h s
 refine bT ((au m)) h s rfl rfl rfl ?_;intro f w1 b4 h s
 refine ba (#[bo]) h s dY rfl rfl ?_;intro f w1 b6 h s
 refine ac h (ai (h.ev rfl)) rfl ?_;intro f h
 refine ah ?_
 refine hK1 _ _ ?_
 refine aj fun K2 hK2=>?_
 refine ae ?_
 refine ac h (bM eE) rfl ?_;intro f h
 refine ba (#[bo]) h s dY rfl rfl ?_;intro f w1 b8 h s
 refine ay 0 h s aU rfl rfl rfl (rfl) (rfl) (cj (rfl)) ?_;intro w1 s
 refine ah ?_
 refine hK2 _ _ ?_
 refine aj fun K3 hK3=>?_
 refine aj fun K4 hK4=>?_
 refine ae ?_
 refine ac h (al cb (h.ev rfl)) rfl ?_;intro f h
 refine ar (V:=vo) (am (bc.of_own s 3 rfl) 0 rfl) h cH rfl rfl ?_;intro f h
 refine ac h (aY (hO.1.keep s.ext) Tryz.underlying22 (h.ev rfl)) rfl ?_;intro f h
 refine ac h (ag (h.ev rfl)) rfl ?_;intro f h
 refine ah ?_
 refine hK4 _ _ ?_
 refine wpIn_block ?_
 refine wpIn_loop_ghost (fun nn aa ww=>∃ k:Nat,Sl 80 aa [(0,.agg #[vo]),(1,.agg (au m)),(2,.int .i64 no),(3,.pointer (some ⟨b3,0,none⟩)),(4,.pointer (some ⟨b4,0,none⟩)),(6,.pointer (some ⟨b6,0,none⟩)),(8,.pointer (some ⟨b8,0,none⟩)),(16,vo),(17,.int .i64 (L.length:Int)),(18,.int .i64 (k:Int))]∧St w [.blk b8 (.cells (#[bo]) 24),.blk b6 (.cells (#[bo]) 24),.blk b4 (.cells ((au m)) 28),.blk b3 (.cells (#[vo]) 24)] ww∧nn=L.length - k∧k≤L.length∧∀ j,j<k→j7 L m j=false) (L.length - (0)) ⟨0,h.only ⟨rfl,rfl,rfl,rfl,rfl,rfl,rfl,rfl,rfl,aR rfl (by omega),trivial⟩,s.as ⟨rfl,rfl,rfl,rfl,trivial⟩,rfl,Nat.zero_le _,fun j hj=>absurd hj (Nat.not_lt_zero _)⟩ ?_
 rintro _ f w1 ⟨k,h,s,hnn,hp0,hp1⟩
 refine aj fun K5 hK5=>?_
 refine ae ?_
 refine ac h (bD (h.ev rfl) (h.ev rfl)) rfl ?_;intro f h
 refine ah ?_
 refine hK5 _ _ ?_
 refine aj fun K6 hK6=>?_
 refine bA h rfl (fun hc=>?_) (fun hc=>?_)
 ·replace hc:=of_decide_eq_true hc
  refine wpIn_skip ?_
  refine hK6 _ _ ?_
  refine aj fun K7 hK7=>?_
  refine wpIn_block ?_
  refine aj fun K8 hK8=>?_
  refine ae ?_
  have hkl:k<L.length:=by omega
  have hx9:=hb.each _ (bh hkl)
  refine ac h (ce (hO.1.keep s.ext) (k) Tryz.underlying22 eX (h.ev rfl) (h.ev rfl) (by omega) (by omega)) rfl ?_;intro f h
  refine aM ((hO.1.keep s.ext).el (k) (by omega) (by decide) (D:=aD (L.getD k z3).1.me (L.getD k z3).1.pr (L.getD k z3).2.1 (L.getD k z3).2.2) (c6 L k hkl)) h bS rfl (aA _ _ _ _) rfl ?_;intro f h
  refine ba (aD a8 a8 bo bo) h s dH rfl rfl ?_;intro f w1 b10 h s
  refine ay 0 h s bS rfl rfl rfl (aA _ _ _ _) (aA _ _ _ _) (bW (cx ((hO.2 _ (bh hkl)).1.keep s.ext)) (cx ((hO.2 _ (bh hkl)).2.keep s.ext))) ?_;intro w1 s
  refine ah ?_
  refine hK8 _ _ ?_
  refine aj fun K9 hK9=>?_
  refine aj fun K10 hK10=>?_
  cases e0:(decide ((L.getD k z3).1.me.1=m.1):Bool)
  ·skip
   cases e1:(decide ((L.getD k z3).1.me.2=m.2):Bool)
   ·skip
    refine ae ?_
    refine ac h (al a6 (h.ev rfl)) rfl ?_;intro f h
    refine ac h (al aP (h.ev rfl)) rfl ?_;intro f h
    refine ar (am (bc.of_own s 0 rfl) 0 (bY _ _ _ _)) h bO rfl rfl ?_;intro f h
    refine ac h (al aP (h.ev rfl)) rfl ?_;intro f h
    refine ar (am (bc.of_own s 3 rfl) 0 (aV _)) h bO rfl rfl ?_;intro f h
    refine ac h (aw (.bool false) (cc (h.ev rfl) (h.ev rfl)) (congrArg Value.bool e0)) rfl ?_;intro f h
    refine ac h (ag (h.ev rfl)) rfl ?_;intro f h
    refine aB h rfl rfl rfl ?_
    refine ac h (al a6 (h.ev rfl)) rfl ?_;intro f h
    refine aB h rfl rfl rfl ?_
    refine ac h (al c3 (h.ev rfl)) rfl ?_;intro f h
    refine aB h rfl rfl rfl ?_
    refine aM (bc.subL (bc.of_own s 0 rfl) 1 32 (D:=bq (L.getD k z3).1.me.2) (jC _ _ _ _)) h bV rfl (by first|exact aI _|exact aG _ _) rfl ?_;intro f h
    refine aB h rfl rfl rfl ?_
    refine ac h (al c3 (h.ev rfl)) rfl ?_;intro f h
    refine aB h rfl rfl rfl ?_
    refine aM (bc.subL (bc.of_own s 3 rfl) 1 32 (D:=bq (_)) (cW _)) h bV rfl (by first|exact aI _|exact aG _ _) rfl ?_;intro f h
    refine aB h rfl rfl rfl ?_
    refine ac h (aw (.bool false) (dU fv (h.ev rfl) (h.ev rfl)) (congrArg Value.bool e1)) rfl ?_;intro f h
    refine ac h (aE (h.ev rfl) (h.ev rfl)) rfl ?_;intro f h
    refine ah ?_
    refine hK10 _ _ ?_
    refine wpIn_cond_false (h.ev rfl) ?_
    refine wpIn_skip ?_
    refine hK9 _ _ ?_
    refine aj fun K11 hK11=>?_
    refine ae ?_
    have hq1:=hp1
    have hkl2:(aS (L.getD k z3).1).length≤700:=by simp only [aS,List.length_append,List.length_cons];omega
    refine ao 0 h s bS rfl rfl (aA _ _ _ _) rfl ?_;intro f h
    refine aF h s uz (kj (L.getD k z3).1 (L.getD k z3).2.1 (L.getD k z3).2.2 _ ((hO.2 _ (bh hkl)).1.keep s.ext) ((hO.2 _ (bh hkl)).2.keep s.ext) (by omega) (by omega)) rfl rfl ?_;intro f w1 v38 hT hE h sq;replace s:=s.sl_new hE hT
    refine ey 0 h s Tryz.underlying36 rfl rfl rfl ?_;intro f h
    refine ac h (ag (h.ev rfl)) rfl ?_;intro f h
    refine ah ?_
    refine hK11 _ _ ?_
    refine wpIn_block ?_
    refine wpIn_loop_ghost (fun nn aa ww=>∃ j:Nat,Sl 80 aa [(0,.agg #[vo]),(1,.agg (au m)),(2,.int .i64 no),(3,.pointer (some ⟨b3,0,none⟩)),(4,.pointer (some ⟨b4,0,none⟩)),(6,.pointer (some ⟨b6,0,none⟩)),(8,.pointer (some ⟨b8,0,none⟩)),(10,.pointer (some ⟨b10,0,none⟩)),(16,vo),(17,.int .i64 (L.length:Int)),(18,.int .i64 (k:Int)),(38,v38),(39,.int .i64 ((aS (L.getD k z3).1).length:Int)),(40,.int .i64 (j:Int))]∧St w [.sl v38 28 33 (aS (L.getD k z3).1).length (av (aS (L.getD k z3).1)),.blk b10 (.cells (aD (L.getD k z3).1.me (L.getD k z3).1.pr (L.getD k z3).2.1 (L.getD k z3).2.2) 42),.blk b8 (.cells (#[bo]) 24),.blk b6 (.cells (#[bo]) 24),.blk b4 (.cells ((au m)) 28),.blk b3 (.cells (#[vo]) 24)] ww∧nn=(aS (L.getD k z3).1).length - j∧j≤(aS (L.getD k z3).1).length∧∀ i,i<j→iF m ((aS (L.getD k z3).1).getD i a8)=false) ((aS (L.getD k z3).1).length - (0)) ⟨0,h.only ⟨rfl,rfl,rfl,rfl,rfl,rfl,rfl,rfl,rfl,rfl,rfl,rfl,rfl,aR rfl (by omega),trivial⟩,s.as ⟨rfl,rfl,rfl,rfl,rfl,rfl,trivial⟩,rfl,Nat.zero_le _,fun j hj=>absurd hj (Nat.not_lt_zero _)⟩ ?_
    rintro _ f w1 ⟨j,h,s,hnn,hp0,hp1⟩
    refine aj fun K12 hK12=>?_
    refine ae ?_
    refine ac h (bD (h.ev rfl) (h.ev rfl)) rfl ?_;intro f h
    refine ah ?_
    refine hK12 _ _ ?_
    refine aj fun K13 hK13=>?_
    refine bA h rfl (fun hc=>?_) (fun hc=>?_)
    ·replace hc:=of_decide_eq_true hc
     refine wpIn_skip ?_
     refine hK13 _ _ ?_
     refine aj fun K14 hK14=>?_
     refine wpIn_block ?_
     refine aj fun K15 hK15=>?_
     refine ae ?_
     have hjl:j<(aS (L.getD k z3).1).length:=by omega
     refine ac h (ce (bK.of_own (s.getSl 0 rfl)) (j) Tryz.underlying36 cG (h.ev rfl) (h.ev rfl) (by omega) (by omega)) rfl ?_;intro f h
     refine aM ((bK.of_own (s.getSl 0 rfl)).el (j) (by omega) (by decide) (D:=au ((aS (L.getD k z3).1).getD j a8)) (cK (aS (L.getD k z3).1) j hjl)) h aL rfl (ak _) rfl ?_;intro f h
     refine ba (au a8) h s cz rfl rfl ?_;intro f w1 b12 h s
     refine ay 0 h s aL rfl rfl rfl (ak _) (ak _) (bf _) ?_;intro w1 s
     refine ah ?_
     refine hK15 _ _ ?_
     refine aj fun K16 hK16=>?_
     cases f0:(decide (((aS (L.getD k z3).1).getD j a8).1=m.1):Bool)
     ·skip
      refine ae ?_
      refine ac h (al aP (h.ev rfl)) rfl ?_;intro f h
      refine ar (am (bc.of_own s 0 rfl) 0 (aV _)) h bO rfl rfl ?_;intro f h
      refine ac h (al aP (h.ev rfl)) rfl ?_;intro f h
      refine ar (am (bc.of_own s 5 rfl) 0 (aV _)) h bO rfl rfl ?_;intro f h
      refine ac h (aw (.bool false) (cc (h.ev rfl) (h.ev rfl)) (congrArg Value.bool f0)) rfl ?_;intro f h
      refine ac h (ag (h.ev rfl)) rfl ?_;intro f h
      refine aC (b:=true) h rfl rfl rfl rfl ?_;intro f h
      refine aC (b:=true) h rfl rfl rfl rfl ?_;intro f h
      refine aC (b:=true) h rfl rfl rfl rfl ?_;intro f h
      refine ac h (aE (h.ev rfl) (h.ev rfl)) rfl ?_;intro f h
      refine ah ?_
      refine hK16 _ _ ?_
      refine wpIn_cond_false (h.ev rfl) ?_
      refine wpIn_skip ?_
      refine bF ?_
      refine hK14 _ _ ?_
      refine ae ?_
      refine ac h (cg (h.ev rfl) (h.ev rfl) (by omega)) rfl ?_;intro f h
      refine ac h (ag (h.ev rfl)) rfl ?_;intro f h
      refine ah ?_
      refine bQ ?_
      exact ⟨_,by omega,⟨j+1,h.only ⟨rfl,rfl,rfl,rfl,rfl,rfl,rfl,rfl,rfl,rfl,rfl,rfl,rfl,aR rfl (by omega),trivial⟩,St.as (s.pick _ (List.sublist_append_right [_] _)) ⟨rfl,rfl,rfl,rfl,rfl,rfl,trivial⟩,rfl,by omega,cV hp1 (by unfold iF;rw [f0];rfl)⟩⟩
     ·skip
      cases f1:(decide (((aS (L.getD k z3).1).getD j a8)=m):Bool)
      ·skip
       refine ae ?_
       refine ac h (al aP (h.ev rfl)) rfl ?_;intro f h
       refine ar (am (bc.of_own s 0 rfl) 0 (aV _)) h bO rfl rfl ?_;intro f h
       refine ac h (al aP (h.ev rfl)) rfl ?_;intro f h
       refine ar (am (bc.of_own s 5 rfl) 0 (aV _)) h bO rfl rfl ?_;intro f h
       refine ac h (aw (.bool true) (cc (h.ev rfl) (h.ev rfl)) (congrArg Value.bool f0)) rfl ?_;intro f h
       refine ac h (ag (h.ev rfl)) rfl ?_;intro f h
       refine aB h rfl rfl rfl ?_
       refine ao 0 h s aL rfl rfl (ak _) rfl ?_;intro f h
       refine aB h rfl rfl rfl ?_
       refine ao 5 h s aL rfl rfl (ak _) rfl ?_;intro f h
       refine aB h rfl rfl rfl ?_
       refine ac h (aw (.bool true) (dc (gM _ _) (by kernel_rfl) (by decide) (h.ev rfl) (h.ev rfl) (decide (((aS (L.getD k z3).1).getD j a8)=m)) (dE _ _)) (by rw [f1];rfl)) rfl ?_;intro f h
       refine ac h (aJ (h.ev rfl) (h.ev rfl)) rfl ?_;intro f h
       refine ah ?_
       refine hK16 _ _ ?_
       refine wpIn_cond_true (h.ev rfl) ?_
       refine aj fun K17 hK17=>?_
       refine ae ?_
       have hjq:iF m ((aS (L.getD k z3).1).getD j a8)=true:=by unfold iF;rw [f0,f1];rfl
       refine ao 3 h s aU rfl rfl (rfl) rfl ?_;intro f h
       refine ay 4 h s aU rfl rfl rfl (rfl) (rfl) (cj (rfl)) ?_;intro w1 s
       refine ac h (ai (h.ev rfl)) rfl ?_;intro f h
       refine ah ?_
       refine hK17 _ _ ?_
       refine wpIn_ret ?_
       refine bu ?_
       refine aQ ?_
       refine aQ ?_
       refine bu ?_
       refine bu ?_
       refine aQ ?_
       refine aQ ?_
       refine bu ?_
       refine aQ ?_
       exact cd 4 rfl h s aU rfl rfl (rfl) rfl (eH s (ln (pl (oW hkl (vP hjl hjq))) (by decide)) (pl (oW hkl (vP hjl hjq))))
      ·skip
       refine ae ?_
       refine ac h (al aP (h.ev rfl)) rfl ?_;intro f h
       refine ar (am (bc.of_own s 0 rfl) 0 (aV _)) h bO rfl rfl ?_;intro f h
       refine ac h (al aP (h.ev rfl)) rfl ?_;intro f h
       refine ar (am (bc.of_own s 5 rfl) 0 (aV _)) h bO rfl rfl ?_;intro f h
       refine ac h (aw (.bool true) (cc (h.ev rfl) (h.ev rfl)) (congrArg Value.bool f0)) rfl ?_;intro f h
       refine ac h (ag (h.ev rfl)) rfl ?_;intro f h
       refine aB h rfl rfl rfl ?_
       refine ao 0 h s aL rfl rfl (ak _) rfl ?_;intro f h
       refine aB h rfl rfl rfl ?_
       refine ao 5 h s aL rfl rfl (ak _) rfl ?_;intro f h
       refine aB h rfl rfl rfl ?_
       refine ac h (aw (.bool false) (dc (gM _ _) (by kernel_rfl) (by decide) (h.ev rfl) (h.ev rfl) (decide (((aS (L.getD k z3).1).getD j a8)=m)) (dE _ _)) (by rw [f1];rfl)) rfl ?_;intro f h
       refine ac h (aJ (h.ev rfl) (h.ev rfl)) rfl ?_;intro f h
       refine ah ?_
       refine hK16 _ _ ?_
       refine wpIn_cond_false (h.ev rfl) ?_
       refine wpIn_skip ?_
       refine bF ?_
       refine hK14 _ _ ?_
       refine ae ?_
       refine ac h (cg (h.ev rfl) (h.ev rfl) (by omega)) rfl ?_;intro f h
       refine ac h (ag (h.ev rfl)) rfl ?_;intro f h
       refine ah ?_
       refine bQ ?_
       exact ⟨_,by omega,⟨j+1,h.only ⟨rfl,rfl,rfl,rfl,rfl,rfl,rfl,rfl,rfl,rfl,rfl,rfl,rfl,aR rfl (by omega),trivial⟩,St.as (s.pick _ (List.sublist_append_right [_] _)) ⟨rfl,rfl,rfl,rfl,rfl,rfl,trivial⟩,rfl,by omega,cV hp1 (by unfold iF;rw [f0,f1];rfl)⟩⟩
    ·replace hc:=of_decide_eq_false hc
     refine wpIn_exit ?_
     refine bw ?_
     refine bw ?_
     refine cq ?_
     refine bF ?_
     refine hK7 _ _ ?_
     refine ae ?_
     refine ac h (cg (h.ev rfl) (h.ev rfl) (by omega)) rfl ?_;intro f h
     refine ac h (ag (h.ev rfl)) rfl ?_;intro f h
     refine ah ?_
     refine bQ ?_
     have hb9:j7 L m k=false:=yQ (j:=j) e0 e1 (by omega) hp1
     exact ⟨_,by omega,⟨k+1,h.only ⟨rfl,rfl,rfl,rfl,rfl,rfl,rfl,rfl,rfl,aR rfl (by omega),trivial⟩,St.as (s.pick _ (List.sublist_append_right [_,_] _)) ⟨rfl,rfl,rfl,rfl,trivial⟩,rfl,by omega,cV hq1 hb9⟩⟩
   ·skip
    refine ae ?_
    refine ac h (al a6 (h.ev rfl)) rfl ?_;intro f h
    refine ac h (al aP (h.ev rfl)) rfl ?_;intro f h
    refine ar (am (bc.of_own s 0 rfl) 0 (bY _ _ _ _)) h bO rfl rfl ?_;intro f h
    refine ac h (al aP (h.ev rfl)) rfl ?_;intro f h
    refine ar (am (bc.of_own s 3 rfl) 0 (aV _)) h bO rfl rfl ?_;intro f h
    refine ac h (aw (.bool false) (cc (h.ev rfl) (h.ev rfl)) (congrArg Value.bool e0)) rfl ?_;intro f h
    refine ac h (ag (h.ev rfl)) rfl ?_;intro f h
    refine aB h rfl rfl rfl ?_
    refine ac h (al a6 (h.ev rfl)) rfl ?_;intro f h
    refine aB h rfl rfl rfl ?_
    refine ac h (al c3 (h.ev rfl)) rfl ?_;intro f h
    refine aB h rfl rfl rfl ?_
    refine aM (bc.subL (bc.of_own s 0 rfl) 1 32 (D:=bq (L.getD k z3).1.me.2) (jC _ _ _ _)) h bV rfl (by first|exact aI _|exact aG _ _) rfl ?_;intro f h
    refine aB h rfl rfl rfl ?_
    refine ac h (al c3 (h.ev rfl)) rfl ?_;intro f h
    refine aB h rfl rfl rfl ?_
    refine aM (bc.subL (bc.of_own s 3 rfl) 1 32 (D:=bq (_)) (cW _)) h bV rfl (by first|exact aI _|exact aG _ _) rfl ?_;intro f h
    refine aB h rfl rfl rfl ?_
    refine ac h (aw (.bool true) (dU fv (h.ev rfl) (h.ev rfl)) (congrArg Value.bool e1)) rfl ?_;intro f h
    refine ac h (aE (h.ev rfl) (h.ev rfl)) rfl ?_;intro f h
    refine ah ?_
    refine hK10 _ _ ?_
    refine wpIn_cond_true (h.ev rfl) ?_
    refine aj fun K18 hK18=>?_
    refine ae ?_
    refine ao 1 h s aU rfl rfl (rfl) rfl ?_;intro f h
    refine ay 2 h s aU rfl rfl rfl (rfl) (rfl) (cj (rfl)) ?_;intro w1 s
    refine ac h (ai (h.ev rfl)) rfl ?_;intro f h
    refine ah ?_
    refine hK18 _ _ ?_
    refine wpIn_ret ?_
    refine aQ ?_
    refine bu ?_
    refine aQ ?_
    refine aQ ?_
    refine bu ?_
    refine aQ ?_
    exact cd 2 rfl h s aU rfl rfl (rfl) rfl (eH s (ln (pl (oW hkl (wm e1))) (by decide)) (pl (oW hkl (wm e1))))
  ·skip
   refine ae ?_
   refine ac h (al a6 (h.ev rfl)) rfl ?_;intro f h
   refine ac h (al aP (h.ev rfl)) rfl ?_;intro f h
   refine ar (am (bc.of_own s 0 rfl) 0 (bY _ _ _ _)) h bO rfl rfl ?_;intro f h
   refine ac h (al aP (h.ev rfl)) rfl ?_;intro f h
   refine ar (am (bc.of_own s 3 rfl) 0 (aV _)) h bO rfl rfl ?_;intro f h
   refine ac h (aw (.bool true) (cc (h.ev rfl) (h.ev rfl)) (congrArg Value.bool e0)) rfl ?_;intro f h
   refine ac h (ag (h.ev rfl)) rfl ?_;intro f h
   refine aC (b:=false) h rfl rfl rfl rfl ?_;intro f h
   refine aC (b:=false) h rfl rfl rfl rfl ?_;intro f h
   refine aC (b:=false) h rfl rfl rfl rfl ?_;intro f h
   refine aC (b:=false) h rfl rfl rfl rfl ?_;intro f h
   refine aC (b:=false) h rfl rfl rfl rfl ?_;intro f h
   refine aC (b:=false) h rfl rfl rfl rfl ?_;intro f h
   refine ac h (aJ (h.ev rfl) (h.ev rfl)) rfl ?_;intro f h
   refine ah ?_
   refine hK10 _ _ ?_
   refine wpIn_cond_true (h.ev rfl) ?_
   refine aj fun K19 hK19=>?_
   refine ae ?_
   refine ao 1 h s aU rfl rfl (rfl) rfl ?_;intro f h
   refine ay 2 h s aU rfl rfl rfl (rfl) (rfl) (cj (rfl)) ?_;intro w1 s
   refine ac h (ai (h.ev rfl)) rfl ?_;intro f h
   refine ah ?_
   refine hK19 _ _ ?_
   refine wpIn_ret ?_
   refine aQ ?_
   refine bu ?_
   refine aQ ?_
   refine aQ ?_
   refine bu ?_
   refine aQ ?_
   exact cd 2 rfl h s aU rfl rfl (rfl) rfl (eH s (ln (pl (oW hkl (vH e0))) (by decide)) (pl (oW hkl (vH e0))))
 ·replace hc:=of_decide_eq_false hc
  refine wpIn_exit ?_
  refine bw ?_
  refine bw ?_
  refine cq ?_
  refine hK3 _ _ ?_
  refine aj fun K20 hK20=>?_
  refine ae ?_
  have hjt:=Ay (by omega) hp1
  refine ao 2 h s aL rfl rfl (ak _) rfl ?_;intro f h
  refine ac h (dz my rfl) rfl ?_;intro f h
  refine ao 2 h s aL rfl rfl (ak _) rfl ?_;intro f h
  refine cF (vs:=[.agg (au m)]) [.tmp 59] h s Tryz.underlying36 dD rfl rfl (gU _) rfl rfl rfl ?_;intro f w1 v60 h s
  replace s:=s.resl (m:=[m].length) (ys:=av [m]) 0 rfl rfl (by rw [eh,dx])
  refine ac h (jK oP (kX (bK.of_own (s.getSl 0 rfl))) (jH (bK.of_own (s.getSl 0 rfl))) (h.ev rfl) (h.ev rfl) (h.ev rfl)) rfl ?_;intro f h
  refine ba (aD a8 a8 bo bo) h s dH rfl rfl ?_;intro f w1 b13 h s
  refine ay 0 h s bS rfl rfl rfl (aA _ _ _ _) (aA _ _ _ _) (bW (bP (s.getSl 1 rfl)) (rfl)) ?_;intro w1 s
  refine ah ?_
  refine hK20 _ _ ?_
  refine aj fun K21 hK21=>?_
  refine aj fun K22 hK22=>?_
  refine ae ?_
  refine ac h (al cb (h.ev rfl)) rfl ?_;intro f h
  refine ar (V:=vo) (am (bc.of_own s 5 rfl) 0 rfl) h cH rfl rfl ?_;intro f h
  refine ac h (aY (hO.1.keep s.ext) Tryz.underlying22 (h.ev rfl)) rfl ?_;intro f h
  refine ac h (cL (h.ev rfl) (h.ev rfl)) rfl ?_;intro f h
  refine ah ?_
  refine hK22 _ _ ?_
  refine bA h rfl (fun hc=>?_) (fun hc=>?_)
  ·have h0:0<L.length:=by have:=of_decide_eq_true hc;omega
   refine aj fun K23 hK23=>?_
   refine aj fun K24 hK24=>?_
   cases l0:(cw (aN L) no:Bool)
   ·skip
    refine ae ?_
    refine ao 5 h s aU rfl rfl (rfl) rfl ?_;intro f h
    refine ac h (ag (h.ev rfl)) rfl ?_;intro f h
    refine aF h s eT (aO (.bool false) (cS L vo no _ (hO.keep s.ext) hL) (congrArg Value.bool l0)) rfl rfl ?_;intro f w1 v9 hT hE h s;obtain rfl:=hT
    refine ac h (aw (.bool true) (bg (h.ev rfl)) rfl) rfl ?_;intro f h
    refine ah ?_
    refine hK24 _ _ ?_
    refine wpIn_cond_true (h.ev rfl) ?_
    refine aj fun K25 hK25=>?_
    refine ae ?_
    refine ao 2 h s aU rfl rfl (rfl) rfl ?_;intro f h
    refine ay 3 h s aU rfl rfl rfl (rfl) (rfl) (cj (rfl)) ?_;intro w1 s
    refine ac h (ai (h.ev rfl)) rfl ?_;intro f h
    refine ah ?_
    refine hK25 _ _ ?_
    refine wpIn_ret ?_
    refine aQ ?_
    refine aQ ?_
    exact cd 3 rfl h s aU rfl rfl (rfl) rfl (eH s (ln (qK hjt h0 l0) (by decide)) (qK hjt h0 l0))
   ·skip
    refine ae ?_
    refine ao 5 h s aU rfl rfl (rfl) rfl ?_;intro f h
    refine ac h (ag (h.ev rfl)) rfl ?_;intro f h
    refine aF h s eT (aO (.bool true) (cS L vo no _ (hO.keep s.ext) hL) (congrArg Value.bool l0)) rfl rfl ?_;intro f w1 v9 hT hE h s;obtain rfl:=hT
    refine ac h (aw (.bool false) (bg (h.ev rfl)) rfl) rfl ?_;intro f h
    refine ah ?_
    refine hK24 _ _ ?_
    refine wpIn_cond_false (h.ev rfl) ?_
    refine wpIn_skip ?_
    refine hK23 _ _ ?_
    refine ae ?_
    refine ao 5 h s aU rfl rfl (rfl) rfl ?_;intro f h
    refine ac h (ag (h.ev rfl)) rfl ?_;intro f h
    refine aF h s l4 (gx L vo no _ (hO.keep s.ext) hL) rfl rfl ?_;intro f w1 v9 hT hE h s;obtain rfl:=hT
    refine ac h (iu lc aL (h.ev rfl) (bU _ _ _ _)) rfl ?_;intro f h
    refine cF (vs:=[.agg (au (ax L no).1.me)]) [.tmp 74] h s Tryz.underlying36 dD rfl rfl (gU _) rfl rfl rfl ?_;intro f w1 v75 h s
    replace s:=s.resl (m:=[(ax L no).1.me].length) (ys:=av [(ax L no).1.me]) 0 rfl rfl (by rw [eh,dx])
    refine ac h (al bI (h.ev rfl)) rfl ?_;intro f h
    refine bp 1 h s bH rfl rfl rfl (by rw [aA];omega) (bP (s.getSl 0 rfl)) ?_;intro w1 s
    replace s:=s.recell (D:=aD m d5 v75 bo) 1 rfl (jG _ _ _ _ _)
    refine ah ?_
    refine hK21 _ _ ?_
    refine aj fun K26 hK26=>?_
    refine ae ?_
    refine ao 6 h s aU rfl rfl (rfl) rfl ?_;intro f h
    refine ao 1 h s bS rfl rfl (aA _ _ _ _) rfl ?_;intro f h
    refine aF h s pc (gZ L vo (⟨m,d5,[(ax L no).1.me],[]⟩,v75,bo) _ (hO.keep s.ext) hL ⟨bK.of_own (s.getSl 0 rfl),ip _⟩) rfl rfl ?_;rintro f w1 v79 ⟨vp,rfl,hOw⟩ hE h sq;replace s:=s.sl_new hE hOw;clear hOw
    refine ay 5 h s aU rfl rfl rfl (rfl) (rfl) (cj (bP (s.getSl 0 rfl))) ?_;intro w1 s
    refine ac h (ai (h.ev rfl)) rfl ?_;intro f h
    refine ah ?_
    refine hK26 _ _ ?_
    refine wpIn_ret ?_
    exact cd 5 rfl h s aU rfl rfl (rfl) rfl (jV (pg hjt (.inr l0)) (yk (xT (u:=v75) (pg hjt (.inr l0)) (Ao h0)) (fun w9 hv ha hR=>⟨hv,lF hR.2 ⟨ha,ip w9⟩⟩) (s.sel [0,1] rfl (by decide))))
  ·have h0:¬ 0<L.length:=by have:=of_decide_eq_false hc;omega
   refine wpIn_skip ?_
   refine hK21 _ _ ?_
   refine aj fun K27 hK27=>?_
   refine ae ?_
   refine ao 5 h s aU rfl rfl (rfl) rfl ?_;intro f h
   refine ao 0 h s bS rfl rfl (aA _ _ _ _) rfl ?_;intro f h
   refine aF h s pc (gZ L vo (⟨m,d5,[m],[]⟩,v60,bo) _ (hO.keep s.ext) hL ⟨bK.of_own (s.getSl 1 rfl),ip _⟩) rfl rfl ?_;rintro f w1 v79 ⟨vp,rfl,hOw⟩ hE h sq;replace s:=s.sl_new hE hOw;clear hOw
   refine ay 4 h s aU rfl rfl rfl (rfl) (rfl) (cj (bP (s.getSl 0 rfl))) ?_;intro w1 s
   refine ac h (ai (h.ev rfl)) rfl ?_;intro f h
   refine ah ?_
   refine hK27 _ _ ?_
   refine wpIn_ret ?_
   exact cd 4 rfl h s aU rfl rfl (rfl) rfl (jV (pg hjt (.inl h0)) (yk (xT (u:=v60) (pg hjt (.inl h0)) (Ap h0)) (fun w9 hv ha hR=>⟨hv,lF hR.2 ⟨ha,ip w9⟩⟩) (s.sel [0,2] rfl (by decide))))
end Go.Proofs.YthggibfkgofncaaGreat
