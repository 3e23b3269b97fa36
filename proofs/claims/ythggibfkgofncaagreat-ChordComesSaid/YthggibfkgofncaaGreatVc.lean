/- What With of the reference of chord answers: a node in its place. -/
import Derived.Test.YthggibfkgofncaaGreatCon
set_option linter.unusedVariables false
set_option linter.unusedSimpArgs false
set_option linter.unusedSectionVars false
namespace Go.Proofs.YthggibfkgofncaaGreat
open Go.RowKit
set_option maxHeartbeats 1000000 in
theorem gZ (L:List N3) (vo:Value) (x:N3) (w:World) (hO:cf w vo L) (hL:L.length≤40) (hx:j4 w x):Calls Tryz.prog 23 [.agg #[vo],.agg (aD x.1.me x.1.pr x.2.1 x.2.2)].toArray w (cT w (zT w 42 (fA L x))):=by
 refine bj Tryz.func23 rfl Tryz.ntmps23 rfl [(0,.agg #[vo]),(1,.agg (aD x.1.me x.1.pr x.2.1 x.2.2))] (by simp) fun f h=>?_
 have s:=St.start w
 refine aj fun K1 hK1=>?_
 refine ae ?_
 refine bT (#[vo]) h s rfl rfl rfl ?_;intro f w1 b2 h s
 refine bT (aD x.1.me x.1.pr x.2.1 x.2.2) h s rfl rfl rfl ?_;intro f w1 b3 h s
 refine ba (#[bo]) h s dY rfl rfl ?_;intro f w1 b4 h s
 refine ah ?_
 refine hK1 _ _ ?_
 refine aj fun K2 hK2=>?_
 refine ae ?_
 refine ac h (bM eE) rfl ?_;intro f h
 refine ba (#[bo]) h s dY rfl rfl ?_;intro f w1 b5 h s
 refine ay 0 h s aU rfl rfl rfl (rfl) (rfl) (cj (rfl)) ?_;intro w1 s
 refine ah ?_
 refine hK2 _ _ ?_
 refine aj fun K3 hK3=>?_
 refine ae ?_
 refine ac h (ai (h.ev rfl)) rfl ?_;intro f h
 refine ah ?_
 refine hK3 _ _ ?_
 refine aj fun K4 hK4=>?_
 refine aj fun K5 hK5=>?_
 refine ae ?_
 replace s:=s.nilSl 42 68
 refine ac h (al cb (h.ev rfl)) rfl ?_;intro f h
 refine ar (V:=vo) (am (bc.of_own s 4 rfl) 0 rfl) h cH rfl rfl ?_;intro f h
 refine ac h (aY (hO.1.keep s.ext) Tryz.underlying22 (h.ev rfl)) rfl ?_;intro f h
 refine ac h (ag (h.ev rfl)) rfl ?_;intro f h
 refine ah ?_
 refine hK5 _ _ ?_
 refine wpIn_block ?_
 refine wpIn_loop_ghost (fun nn aa ww=>∃ k:Nat,∃ vb:Value,Sl 57 aa [(0,.agg #[vo]),(1,.agg (aD x.1.me x.1.pr x.2.1 x.2.2)),(2,.pointer (some ⟨b2,0,none⟩)),(3,.pointer (some ⟨b3,0,none⟩)),(4,.pointer (some ⟨b4,0,none⟩)),(5,.pointer (some ⟨b5,0,none⟩)),(6,.bool (dg x (L.take k)).2),(11,vo),(12,.int .i64 (L.length:Int)),(13,.int .i64 (k:Int))]∧St w [.sl vb 42 68 (dg x (L.take k)).1.length (aK (dg x (L.take k)).1),.blk b5 (.cells (#[vb]) 24),.blk b4 (.cells (#[bo]) 24),.blk b3 (.cells (aD x.1.me x.1.pr x.2.1 x.2.2) 42),.blk b2 (.cells (#[vo]) 24)] ww∧nn=L.length - k∧k≤L.length) (L.length - (0)) ⟨0,bo,h.only ⟨rfl,rfl,rfl,rfl,rfl,rfl,rfl,rfl,rfl,aR rfl (by omega),trivial⟩,s.as ⟨rfl,rfl,rfl,rfl,rfl,trivial⟩,rfl,Nat.zero_le _⟩ ?_
 rintro _ f w1 ⟨k,vb,h,s,hnn,hp0⟩
 have hpl:=rm x (L.take k)
 rw [List.length_take] at hpl
 refine aj fun K6 hK6=>?_
 refine ae ?_
 refine ac h (bD (h.ev rfl) (h.ev rfl)) rfl ?_;intro f h
 refine ah ?_
 refine hK6 _ _ ?_
 refine aj fun K7 hK7=>?_
 refine bA h rfl (fun hc=>?_) (fun hc=>?_)
 ·replace hc:=of_decide_eq_true hc
  refine wpIn_skip ?_
  refine hK7 _ _ ?_
  refine aj fun K8 hK8=>?_
  refine wpIn_block ?_
  refine aj fun K9 hK9=>?_
  refine ae ?_
  have hkl:k<L.length:=by omega
  refine ac h (ce (hO.1.keep s.ext) (k) Tryz.underlying22 eX (h.ev rfl) (h.ev rfl) (by omega) (by omega)) rfl ?_;intro f h
  refine aM ((hO.1.keep s.ext).el (k) (by omega) (by decide) (D:=aD (L.getD k z3).1.me (L.getD k z3).1.pr (L.getD k z3).2.1 (L.getD k z3).2.2) (c6 L k hkl)) h bS rfl (aA _ _ _ _) rfl ?_;intro f h
  refine ba (aD a8 a8 bo bo) h s dH rfl rfl ?_;intro f w1 b8 h s
  refine ay 0 h s bS rfl rfl rfl (aA _ _ _ _) (aA _ _ _ _) (bW (cx ((hO.2 _ (bh hkl)).1.keep s.ext)) (cx ((hO.2 _ (bh hkl)).2.keep s.ext))) ?_;intro w1 s
  refine ah ?_
  refine hK9 _ _ ?_
  refine aj fun K10 hK10=>?_
  refine aj fun K11 hK11=>?_
  cases b0:((dg x (L.take k)).2:Bool)
  ·skip
   cases h1:(decide (x.1.me.1≤(L.getD k z3).1.me.1):Bool)
   ·skip
    refine ae ?_
    refine ac h (aw (.bool false) (ag (h.ev rfl)) (congrArg Value.bool b0)) rfl ?_;intro f h
    refine ac h (aw (.bool true) (bg (h.ev rfl)) rfl) rfl ?_;intro f h
    refine ac h (ag (h.ev rfl)) rfl ?_;intro f h
    refine aB h rfl rfl rfl ?_
    refine ac h (al a6 (h.ev rfl)) rfl ?_;intro f h
    refine aB h rfl rfl rfl ?_
    refine ac h (al aP (h.ev rfl)) rfl ?_;intro f h
    refine aB h rfl rfl rfl ?_
    refine ar (am (bc.of_own s 0 rfl) 0 (bY _ _ _ _)) h bO rfl rfl ?_;intro f h
    refine aB h rfl rfl rfl ?_
    refine ac h (al a6 (h.ev rfl)) rfl ?_;intro f h
    refine aB h rfl rfl rfl ?_
    refine ac h (al aP (h.ev rfl)) rfl ?_;intro f h
    refine aB h rfl rfl rfl ?_
    refine ar (am (bc.of_own s 4 rfl) 0 (bY _ _ _ _)) h bO rfl rfl ?_;intro f h
    refine aB h rfl rfl rfl ?_
    refine ac h (aw (.bool false) (c0 (h.ev rfl) (h.ev rfl)) (congrArg Value.bool h1)) rfl ?_;intro f h
    refine ac h (aJ (h.ev rfl) (h.ev rfl)) rfl ?_;intro f h
    refine ah ?_
    refine hK11 _ _ ?_
    refine wpIn_cond_false (h.ev rfl) ?_
    refine wpIn_skip ?_
    refine hK10 _ _ ?_
    refine aj fun K12 hK12=>?_
    cases h2:(decide ((L.getD k z3).1.me.1≠x.1.me.1):Bool)
    ·skip
     refine ae ?_
     refine ac h (al a6 (h.ev rfl)) rfl ?_;intro f h
     refine ac h (al aP (h.ev rfl)) rfl ?_;intro f h
     refine ar (am (bc.of_own s 0 rfl) 0 (bY _ _ _ _)) h bO rfl rfl ?_;intro f h
     refine ac h (al a6 (h.ev rfl)) rfl ?_;intro f h
     refine ac h (al aP (h.ev rfl)) rfl ?_;intro f h
     refine ar (am (bc.of_own s 4 rfl) 0 (bY _ _ _ _)) h bO rfl rfl ?_;intro f h
     refine ac h (aw (.bool false) (cO (h.ev rfl) (h.ev rfl)) (congrArg Value.bool h2)) rfl ?_;intro f h
     refine ah ?_
     refine hK12 _ _ ?_
     refine wpIn_cond_false (h.ev rfl) ?_
     refine wpIn_skip ?_
     refine bF ?_
     refine hK8 _ _ ?_
     refine ae ?_
     refine ac h (cg (h.ev rfl) (h.ev rfl) (by omega)) rfl ?_;intro f h
     refine ac h (ag (h.ev rfl)) rfl ?_;intro f h
     refine ah ?_
     refine bQ ?_
     have hps:=(j1 (x:=x) hkl).trans (xU (.inr h1) h2)
     exact ⟨_,by omega,⟨k+1,vb,h.only ⟨rfl,rfl,rfl,rfl,rfl,rfl,congrArg (fun b=>some (Value.bool b)) (by rw [hps]<;>first|rfl|exact b0.symm),rfl,rfl,aR rfl (by omega),trivial⟩,St.as (s.pick _ (List.sublist_append_right [_] _)) ⟨iN (by rw [hps]) (by rw [hps]),rfl,rfl,rfl,rfl,trivial⟩,rfl,by omega⟩⟩
    ·skip
     refine ae ?_
     refine ac h (al a6 (h.ev rfl)) rfl ?_;intro f h
     refine ac h (al aP (h.ev rfl)) rfl ?_;intro f h
     refine ar (am (bc.of_own s 0 rfl) 0 (bY _ _ _ _)) h bO rfl rfl ?_;intro f h
     refine ac h (al a6 (h.ev rfl)) rfl ?_;intro f h
     refine ac h (al aP (h.ev rfl)) rfl ?_;intro f h
     refine ar (am (bc.of_own s 4 rfl) 0 (bY _ _ _ _)) h bO rfl rfl ?_;intro f h
     refine ac h (aw (.bool true) (cO (h.ev rfl) (h.ev rfl)) (congrArg Value.bool h2)) rfl ?_;intro f h
     refine ah ?_
     refine hK12 _ _ ?_
     refine wpIn_cond_true (h.ev rfl) ?_
     refine ae ?_
     refine ac h (al cb (h.ev rfl)) rfl ?_;intro f h
     refine ar (V:=vb) (am (bc.of_own s 2 rfl) 0 rfl) h cH rfl rfl ?_;intro f h
     refine ao 0 h s bS rfl rfl (aA _ _ _ _) rfl ?_;intro f h
     refine cF (vs:=[.agg (aD (L.getD k z3).1.me (L.getD k z3).1.pr (L.getD k z3).2.1 (L.getD k z3).2.2)]) [.tmp 43] h s Tryz.underlying22 er rfl rfl (fc (L.getD k z3)) rfl rfl rfl ?_;intro f w1 v44 h s
     refine dt 2 0 h s Tryz.underlying22 er rfl rfl rfl rfl (by decide) (gA (cx (hO.2 _ (bh hkl)).1) (cx (hO.2 _ (bh hkl)).2)) (by first|(unfold maxLen;omega)|(simp only [List.length_append,List.length_cons,List.length_nil];unfold maxLen;omega)) (by first|omega|(simp only [List.length_append,List.length_cons,List.length_nil];omega)) rfl ?_;intro f w1 v45 h s
     replace s:=s.pick _ (List.sublist_cons_self _ _)
     replace s:=s.resl (m:=((dg x (L.take k)).1++[(L.getD k z3)]).length) (ys:=aK ((dg x (L.take k)).1++[(L.getD k z3)])) 1 rfl (by simp only [List.length_append,List.length_cons,List.length_nil]) (by rw [fW,fh])
     refine ac h (al cb (h.ev rfl)) rfl ?_;intro f h
     refine bp 2 h s cH rfl rfl rfl (by show 0<1;decide) (bP (s.getSl 1 rfl)) ?_;intro w1 s
     replace s:=s.recell (D:=#[v45]) 2 rfl rfl
     refine ah ?_
     refine bF ?_
     refine hK8 _ _ ?_
     refine ae ?_
     refine ac h (cg (h.ev rfl) (h.ev rfl) (by omega)) rfl ?_;intro f h
     refine ac h (ag (h.ev rfl)) rfl ?_;intro f h
     refine ah ?_
     refine bQ ?_
     have hps:=(j1 (x:=x) hkl).trans (qI (.inr h1) h2)
     exact ⟨_,by omega,⟨k+1,v45,h.only ⟨rfl,rfl,rfl,rfl,rfl,rfl,congrArg (fun b=>some (Value.bool b)) (by rw [hps]<;>first|rfl|exact b0.symm),rfl,rfl,aR rfl (by omega),trivial⟩,St.as (s.pick _ (List.sublist_append_right [_] _)) ⟨iN (by rw [hps]) (by rw [hps]),rfl,rfl,rfl,rfl,trivial⟩,rfl,by omega⟩⟩
   ·skip
    refine ae ?_
    refine ac h (aw (.bool false) (ag (h.ev rfl)) (congrArg Value.bool b0)) rfl ?_;intro f h
    refine ac h (aw (.bool true) (bg (h.ev rfl)) rfl) rfl ?_;intro f h
    refine ac h (ag (h.ev rfl)) rfl ?_;intro f h
    refine aB h rfl rfl rfl ?_
    refine ac h (al a6 (h.ev rfl)) rfl ?_;intro f h
    refine aB h rfl rfl rfl ?_
    refine ac h (al aP (h.ev rfl)) rfl ?_;intro f h
    refine aB h rfl rfl rfl ?_
    refine ar (am (bc.of_own s 0 rfl) 0 (bY _ _ _ _)) h bO rfl rfl ?_;intro f h
    refine aB h rfl rfl rfl ?_
    refine ac h (al a6 (h.ev rfl)) rfl ?_;intro f h
    refine aB h rfl rfl rfl ?_
    refine ac h (al aP (h.ev rfl)) rfl ?_;intro f h
    refine aB h rfl rfl rfl ?_
    refine ar (am (bc.of_own s 4 rfl) 0 (bY _ _ _ _)) h bO rfl rfl ?_;intro f h
    refine aB h rfl rfl rfl ?_
    refine ac h (aw (.bool true) (c0 (h.ev rfl) (h.ev rfl)) (congrArg Value.bool h1)) rfl ?_;intro f h
    refine ac h (aJ (h.ev rfl) (h.ev rfl)) rfl ?_;intro f h
    refine ah ?_
    refine hK11 _ _ ?_
    refine wpIn_cond_true (h.ev rfl) ?_
    refine aj fun K13 hK13=>?_
    refine ae ?_
    refine ac h (al cb (h.ev rfl)) rfl ?_;intro f h
    refine ar (V:=vb) (am (bc.of_own s 2 rfl) 0 rfl) h cH rfl rfl ?_;intro f h
    refine ao 4 h s bS rfl rfl (aA _ _ _ _) rfl ?_;intro f h
    refine cF (vs:=[.agg (aD x.1.me x.1.pr x.2.1 x.2.2)]) [.tmp 30] h s Tryz.underlying22 er rfl rfl (fc x) rfl rfl rfl ?_;intro f w1 v31 h s
    refine dt 2 0 h s Tryz.underlying22 er rfl rfl rfl rfl (by decide) (gA (cx hx.1) (cx hx.2)) (by first|(unfold maxLen;omega)|(simp only [List.length_append,List.length_cons,List.length_nil];unfold maxLen;omega)) (by first|omega|(simp only [List.length_append,List.length_cons,List.length_nil];omega)) rfl ?_;intro f w1 v32 h s
    replace s:=s.pick _ (List.sublist_cons_self _ _)
    replace s:=s.resl (m:=((dg x (L.take k)).1++[x]).length) (ys:=aK ((dg x (L.take k)).1++[x])) 1 rfl (by simp only [List.length_append,List.length_cons,List.length_nil]) (by rw [fW,fh])
    refine ac h (al cb (h.ev rfl)) rfl ?_;intro f h
    refine bp 2 h s cH rfl rfl rfl (by show 0<1;decide) (bP (s.getSl 1 rfl)) ?_;intro w1 s
    replace s:=s.recell (D:=#[v32]) 2 rfl rfl
    refine ah ?_
    refine hK13 _ _ ?_
    refine ae ?_
    refine ac h (ai (h.ev rfl)) rfl ?_;intro f h
    refine ah ?_
    refine hK10 _ _ ?_
    refine aj fun K14 hK14=>?_
    cases h2:(decide ((L.getD k z3).1.me.1≠x.1.me.1):Bool)
    ·skip
     refine ae ?_
     refine ac h (al a6 (h.ev rfl)) rfl ?_;intro f h
     refine ac h (al aP (h.ev rfl)) rfl ?_;intro f h
     refine ar (am (bc.of_own s 0 rfl) 0 (bY _ _ _ _)) h bO rfl rfl ?_;intro f h
     refine ac h (al a6 (h.ev rfl)) rfl ?_;intro f h
     refine ac h (al aP (h.ev rfl)) rfl ?_;intro f h
     refine ar (am (bc.of_own s 4 rfl) 0 (bY _ _ _ _)) h bO rfl rfl ?_;intro f h
     refine ac h (aw (.bool false) (cO (h.ev rfl) (h.ev rfl)) (congrArg Value.bool h2)) rfl ?_;intro f h
     refine ah ?_
     refine hK14 _ _ ?_
     refine wpIn_cond_false (h.ev rfl) ?_
     refine wpIn_skip ?_
     refine bF ?_
     refine hK8 _ _ ?_
     refine ae ?_
     refine ac h (cg (h.ev rfl) (h.ev rfl) (by omega)) rfl ?_;intro f h
     refine ac h (ag (h.ev rfl)) rfl ?_;intro f h
     refine ah ?_
     refine bQ ?_
     have hps:=(j1 (x:=x) hkl).trans (xR b0 h1 h2)
     exact ⟨_,by omega,⟨k+1,v32,h.only ⟨rfl,rfl,rfl,rfl,rfl,rfl,congrArg (fun b=>some (Value.bool b)) (by rw [hps]<;>first|rfl|exact b0.symm),rfl,rfl,aR rfl (by omega),trivial⟩,St.as (s.pick _ (List.sublist_append_right [_] _)) ⟨iN (by rw [hps]) (by rw [hps]),rfl,rfl,rfl,rfl,trivial⟩,rfl,by omega⟩⟩
    ·skip
     refine ae ?_
     refine ac h (al a6 (h.ev rfl)) rfl ?_;intro f h
     refine ac h (al aP (h.ev rfl)) rfl ?_;intro f h
     refine ar (am (bc.of_own s 0 rfl) 0 (bY _ _ _ _)) h bO rfl rfl ?_;intro f h
     refine ac h (al a6 (h.ev rfl)) rfl ?_;intro f h
     refine ac h (al aP (h.ev rfl)) rfl ?_;intro f h
     refine ar (am (bc.of_own s 4 rfl) 0 (bY _ _ _ _)) h bO rfl rfl ?_;intro f h
     refine ac h (aw (.bool true) (cO (h.ev rfl) (h.ev rfl)) (congrArg Value.bool h2)) rfl ?_;intro f h
     refine ah ?_
     refine hK14 _ _ ?_
     refine wpIn_cond_true (h.ev rfl) ?_
     refine ae ?_
     refine ac h (al cb (h.ev rfl)) rfl ?_;intro f h
     refine ar (V:=v32) (am (bc.of_own s 2 rfl) 0 rfl) h cH rfl rfl ?_;intro f h
     refine ao 0 h s bS rfl rfl (aA _ _ _ _) rfl ?_;intro f h
     refine cF (vs:=[.agg (aD (L.getD k z3).1.me (L.getD k z3).1.pr (L.getD k z3).2.1 (L.getD k z3).2.2)]) [.tmp 43] h s Tryz.underlying22 er rfl rfl (fc (L.getD k z3)) rfl rfl rfl ?_;intro f w1 v44 h s
     refine dt 2 0 h s Tryz.underlying22 er rfl rfl rfl rfl (by decide) (gA (cx (hO.2 _ (bh hkl)).1) (cx (hO.2 _ (bh hkl)).2)) (by first|(unfold maxLen;omega)|(simp only [List.length_append,List.length_cons,List.length_nil];unfold maxLen;omega)) (by first|omega|(simp only [List.length_append,List.length_cons,List.length_nil];omega)) rfl ?_;intro f w1 v45 h s
     replace s:=s.pick _ (List.sublist_cons_self _ _)
     replace s:=s.resl (m:=(((dg x (L.take k)).1++[x])++[(L.getD k z3)]).length) (ys:=aK (((dg x (L.take k)).1++[x])++[(L.getD k z3)])) 1 rfl (by simp only [List.length_append,List.length_cons,List.length_nil]) (by rw [fW,fh])
     refine ac h (al cb (h.ev rfl)) rfl ?_;intro f h
     refine bp 2 h s cH rfl rfl rfl (by show 0<1;decide) (bP (s.getSl 1 rfl)) ?_;intro w1 s
     replace s:=s.recell (D:=#[v45]) 2 rfl rfl
     refine ah ?_
     refine bF ?_
     refine hK8 _ _ ?_
     refine ae ?_
     refine ac h (cg (h.ev rfl) (h.ev rfl) (by omega)) rfl ?_;intro f h
     refine ac h (ag (h.ev rfl)) rfl ?_;intro f h
     refine ah ?_
     refine bQ ?_
     have hps:=(j1 (x:=x) hkl).trans (xO b0 h1 h2)
     exact ⟨_,by omega,⟨k+1,v45,h.only ⟨rfl,rfl,rfl,rfl,rfl,rfl,congrArg (fun b=>some (Value.bool b)) (by rw [hps]<;>first|rfl|exact b0.symm),rfl,rfl,aR rfl (by omega),trivial⟩,St.as (s.pick _ (List.sublist_append_right [_] _)) ⟨iN (by rw [hps]) (by rw [hps]),rfl,rfl,rfl,rfl,trivial⟩,rfl,by omega⟩⟩
  ·skip
   refine ae ?_
   refine ac h (aw (.bool true) (ag (h.ev rfl)) (congrArg Value.bool b0)) rfl ?_;intro f h
   refine ac h (aw (.bool false) (bg (h.ev rfl)) rfl) rfl ?_;intro f h
   refine ac h (ag (h.ev rfl)) rfl ?_;intro f h
   refine aC (b:=true) h rfl rfl rfl rfl ?_;intro f h
   refine aC (b:=true) h rfl rfl rfl rfl ?_;intro f h
   refine aC (b:=true) h rfl rfl rfl rfl ?_;intro f h
   refine aC (b:=true) h rfl rfl rfl rfl ?_;intro f h
   refine aC (b:=true) h rfl rfl rfl rfl ?_;intro f h
   refine aC (b:=true) h rfl rfl rfl rfl ?_;intro f h
   refine aC (b:=true) h rfl rfl rfl rfl ?_;intro f h
   refine ac h (aE (h.ev rfl) (h.ev rfl)) rfl ?_;intro f h
   refine ah ?_
   refine hK11 _ _ ?_
   refine wpIn_cond_false (h.ev rfl) ?_
   refine wpIn_skip ?_
   refine hK10 _ _ ?_
   refine aj fun K15 hK15=>?_
   cases h2:(decide ((L.getD k z3).1.me.1≠x.1.me.1):Bool)
   ·skip
    refine ae ?_
    refine ac h (al a6 (h.ev rfl)) rfl ?_;intro f h
    refine ac h (al aP (h.ev rfl)) rfl ?_;intro f h
    refine ar (am (bc.of_own s 0 rfl) 0 (bY _ _ _ _)) h bO rfl rfl ?_;intro f h
    refine ac h (al a6 (h.ev rfl)) rfl ?_;intro f h
    refine ac h (al aP (h.ev rfl)) rfl ?_;intro f h
    refine ar (am (bc.of_own s 4 rfl) 0 (bY _ _ _ _)) h bO rfl rfl ?_;intro f h
    refine ac h (aw (.bool false) (cO (h.ev rfl) (h.ev rfl)) (congrArg Value.bool h2)) rfl ?_;intro f h
    refine ah ?_
    refine hK15 _ _ ?_
    refine wpIn_cond_false (h.ev rfl) ?_
    refine wpIn_skip ?_
    refine bF ?_
    refine hK8 _ _ ?_
    refine ae ?_
    refine ac h (cg (h.ev rfl) (h.ev rfl) (by omega)) rfl ?_;intro f h
    refine ac h (ag (h.ev rfl)) rfl ?_;intro f h
    refine ah ?_
    refine bQ ?_
    have hps:=(j1 (x:=x) hkl).trans (xU (.inl b0) h2)
    exact ⟨_,by omega,⟨k+1,vb,h.only ⟨rfl,rfl,rfl,rfl,rfl,rfl,congrArg (fun b=>some (Value.bool b)) (by rw [hps]<;>first|rfl|exact b0.symm),rfl,rfl,aR rfl (by omega),trivial⟩,St.as (s.pick _ (List.sublist_append_right [_] _)) ⟨iN (by rw [hps]) (by rw [hps]),rfl,rfl,rfl,rfl,trivial⟩,rfl,by omega⟩⟩
   ·skip
    refine ae ?_
    refine ac h (al a6 (h.ev rfl)) rfl ?_;intro f h
    refine ac h (al aP (h.ev rfl)) rfl ?_;intro f h
    refine ar (am (bc.of_own s 0 rfl) 0 (bY _ _ _ _)) h bO rfl rfl ?_;intro f h
    refine ac h (al a6 (h.ev rfl)) rfl ?_;intro f h
    refine ac h (al aP (h.ev rfl)) rfl ?_;intro f h
    refine ar (am (bc.of_own s 4 rfl) 0 (bY _ _ _ _)) h bO rfl rfl ?_;intro f h
    refine ac h (aw (.bool true) (cO (h.ev rfl) (h.ev rfl)) (congrArg Value.bool h2)) rfl ?_;intro f h
    refine ah ?_
    refine hK15 _ _ ?_
    refine wpIn_cond_true (h.ev rfl) ?_
    refine ae ?_
    refine ac h (al cb (h.ev rfl)) rfl ?_;intro f h
    refine ar (V:=vb) (am (bc.of_own s 2 rfl) 0 rfl) h cH rfl rfl ?_;intro f h
    refine ao 0 h s bS rfl rfl (aA _ _ _ _) rfl ?_;intro f h
    refine cF (vs:=[.agg (aD (L.getD k z3).1.me (L.getD k z3).1.pr (L.getD k z3).2.1 (L.getD k z3).2.2)]) [.tmp 43] h s Tryz.underlying22 er rfl rfl (fc (L.getD k z3)) rfl rfl rfl ?_;intro f w1 v44 h s
    refine dt 2 0 h s Tryz.underlying22 er rfl rfl rfl rfl (by decide) (gA (cx (hO.2 _ (bh hkl)).1) (cx (hO.2 _ (bh hkl)).2)) (by first|(unfold maxLen;omega)|(simp only [List.length_append,List.length_cons,List.length_nil];unfold maxLen;omega)) (by first|omega|(simp only [List.length_append,List.length_cons,List.length_nil];omega)) rfl ?_;intro f w1 v45 h s
    replace s:=s.pick _ (List.sublist_cons_self _ _)
    replace s:=s.resl (m:=((dg x (L.take k)).1++[(L.getD k z3)]).length) (ys:=aK ((dg x (L.take k)).1++[(L.getD k z3)])) 1 rfl (by simp only [List.length_append,List.length_cons,List.length_nil]) (by rw [fW,fh])
    refine ac h (al cb (h.ev rfl)) rfl ?_;intro f h
    refine bp 2 h s cH rfl rfl rfl (by show 0<1;decide) (bP (s.getSl 1 rfl)) ?_;intro w1 s
    replace s:=s.recell (D:=#[v45]) 2 rfl rfl
    refine ah ?_
    refine bF ?_
    refine hK8 _ _ ?_
    refine ae ?_
    refine ac h (cg (h.ev rfl) (h.ev rfl) (by omega)) rfl ?_;intro f h
    refine ac h (ag (h.ev rfl)) rfl ?_;intro f h
    refine ah ?_
    refine bQ ?_
    have hps:=(j1 (x:=x) hkl).trans (qI (.inl b0) h2)
    exact ⟨_,by omega,⟨k+1,v45,h.only ⟨rfl,rfl,rfl,rfl,rfl,rfl,congrArg (fun b=>some (Value.bool b)) (by rw [hps]<;>first|rfl|exact b0.symm),rfl,rfl,aR rfl (by omega),trivial⟩,St.as (s.pick _ (List.sublist_append_right [_] _)) ⟨iN (by rw [hps]) (by rw [hps]),rfl,rfl,rfl,rfl,trivial⟩,rfl,by omega⟩⟩
 ·replace hc:=of_decide_eq_false hc
  refine wpIn_exit ?_
  refine bw ?_
  refine bw ?_
  refine cq ?_
  refine hK4 _ _ ?_
  refine aj fun K16 hK16=>?_
  refine aj fun K17 hK17=>?_
  cases b9:((dg x (L.take L.length)).2:Bool)
  ·skip
   refine ae ?_
   obtain rfl:k=L.length:=by omega
   refine ac h (aw (.bool false) (ag (h.ev rfl)) (congrArg Value.bool b9)) rfl ?_;intro f h
   refine ac h (aw (.bool true) (bg (h.ev rfl)) rfl) rfl ?_;intro f h
   refine ah ?_
   refine hK17 _ _ ?_
   refine wpIn_cond_true (h.ev rfl) ?_
   refine ae ?_
   refine ac h (al cb (h.ev rfl)) rfl ?_;intro f h
   refine ar (V:=vb) (am (bc.of_own s 1 rfl) 0 rfl) h cH rfl rfl ?_;intro f h
   refine ao 3 h s bS rfl rfl (aA _ _ _ _) rfl ?_;intro f h
   refine cF (vs:=[.agg (aD x.1.me x.1.pr x.2.1 x.2.2)]) [.tmp 52] h s Tryz.underlying22 er rfl rfl (fc x) rfl rfl rfl ?_;intro f w1 v53 h s
   refine dt 1 0 h s Tryz.underlying22 er rfl rfl rfl rfl (by decide) (gA (cx hx.1) (cx hx.2)) (by first|(unfold maxLen;omega)|(simp only [List.length_append,List.length_cons,List.length_nil];unfold maxLen;omega)) (by first|omega|(simp only [List.length_append,List.length_cons,List.length_nil];omega)) rfl ?_;intro f w1 v54 h s
   replace s:=s.pick _ (List.sublist_cons_self _ _)
   replace s:=s.resl (m:=((dg x (L.take L.length)).1++[x]).length) (ys:=aK ((dg x (L.take L.length)).1++[x])) 0 rfl (by simp only [List.length_append,List.length_cons,List.length_nil]) (by rw [fW,fh])
   refine ac h (al cb (h.ev rfl)) rfl ?_;intro f h
   refine bp 1 h s cH rfl rfl rfl (by show 0<1;decide) (bP (s.getSl 0 rfl)) ?_;intro w1 s
   replace s:=s.recell (D:=#[v54]) 1 rfl rfl
   refine ah ?_
   refine hK16 _ _ ?_
   refine aj fun K18 hK18=>?_
   refine ae ?_
   refine ao 1 h s aU rfl rfl (rfl) rfl ?_;intro f h
   refine ay 2 h s aU rfl rfl rfl (rfl) (rfl) (cj (bP (s.getSl 0 rfl))) ?_;intro w1 s
   refine ah ?_
   refine hK18 _ _ ?_
   refine wpIn_ret ?_
   exact d7 2 rfl h s aU rfl rfl (rfl) (nQ (by rw [List.take_length] at b9 ⊢;exact x6 b9) (s.getSl 0 rfl))
  ·skip
   refine ae ?_
   obtain rfl:k=L.length:=by omega
   refine ac h (aw (.bool true) (ag (h.ev rfl)) (congrArg Value.bool b9)) rfl ?_;intro f h
   refine ac h (aw (.bool false) (bg (h.ev rfl)) rfl) rfl ?_;intro f h
   refine ah ?_
   refine hK17 _ _ ?_
   refine wpIn_cond_false (h.ev rfl) ?_
   refine wpIn_skip ?_
   refine hK16 _ _ ?_
   refine aj fun K19 hK19=>?_
   refine ae ?_
   refine ao 1 h s aU rfl rfl (rfl) rfl ?_;intro f h
   refine ay 2 h s aU rfl rfl rfl (rfl) (rfl) (cj (bP (s.getSl 0 rfl))) ?_;intro w1 s
   refine ah ?_
   refine hK19 _ _ ?_
   refine wpIn_ret ?_
   exact d7 2 rfl h s aU rfl rfl (rfl) (nQ (by rw [List.take_length] at b9 ⊢;exact x3 b9) (s.getSl 0 rfl))
end Go.Proofs.YthggibfkgofncaaGreat
