/- What With of the reference of chord answers: a node in its place. -/
import Derived.Test.YthggibfkgofncaaGreatCon
set_option linter.unusedVariables false
set_option linter.unusedSimpArgs false
set_option linter.unusedSectionVars false
namespace Go.Proofs.YthggibfkgofncaaGreat
open Go.RowKit
set_option maxHeartbeats 1000000 in
theorem iv (L:List N3) (vo:Value) (x:N3) (w:World) (hO:dN w vo L) (hL:L.length≤40) (hx:jX w x):Calls Tryz.prog 23 [.agg #[vo],.agg (aC x.1.me x.1.pr x.2.1 x.2.2)].toArray w (cU w (CP w 42 (ec L x))):=by
 refine bp Tryz.func23 rfl Tryz.ntmps23 rfl [(0,.agg #[vo]),(1,.agg (aC x.1.me x.1.pr x.2.1 x.2.2))] (by simp) fun f h=>?_
 have s:=St.start w
 refine al fun K1 hK1=>?_
 refine ae ?_
 refine bV (#[vo]) h s rfl rfl rfl ?_;intro f w1 b2 h s
 refine bV (aC x.1.me x.1.pr x.2.1 x.2.2) h s rfl rfl rfl ?_;intro f w1 b3 h s
 refine bj (#[a8]) h s eY rfl rfl ?_;intro f w1 b4 h s
 refine ah ?_
 refine hK1 _ _ ?_
 refine al fun K2 hK2=>?_
 refine ae ?_
 refine ac h (cG jK) rfl ?_;intro f h
 refine bj (#[a8]) h s eY rfl rfl ?_;intro f w1 b5 h s
 refine ax 0 h s a6 rfl rfl rfl (rfl) (rfl) (cn (rfl)) ?_;intro w1 s
 refine ah ?_
 refine hK2 _ _ ?_
 refine al fun K3 hK3=>?_
 refine ae ?_
 refine ac h (aj (h.ev rfl)) rfl ?_;intro f h
 refine ah ?_
 refine hK3 _ _ ?_
 refine al fun K4 hK4=>?_
 refine al fun K5 hK5=>?_
 refine ae ?_
 replace s:=s.nilSl 42 68
 refine ac h (ai cp (h.ev rfl)) rfl ?_;intro f h
 refine au (V:=vo) (am (aU.of_own s 4 rfl) 0 rfl) h c4 rfl rfl ?_;intro f h
 refine ac h (bc (hO.1.keep s.ext) Tryz.underlying22 (h.ev rfl)) rfl ?_;intro f h
 refine ac h (ag (h.ev rfl)) rfl ?_;intro f h
 refine ah ?_
 refine hK5 _ _ ?_
 refine wpIn_block ?_
 refine wpIn_loop_ghost (fun nn aa ww=>∃ k:Nat,∃ vb:Value,Sl 57 aa [(0,.agg #[vo]),(1,.agg (aC x.1.me x.1.pr x.2.1 x.2.2)),(2,.pointer (some ⟨b2,0,none⟩)),(3,.pointer (some ⟨b3,0,none⟩)),(4,.pointer (some ⟨b4,0,none⟩)),(5,.pointer (some ⟨b5,0,none⟩)),(6,.bool (dH x (L.take k)).2),(11,vo),(12,.int .i64 (L.length:Int)),(13,.int .i64 (k:Int))]∧St w [.sl vb 42 68 (dH x (L.take k)).1.length (aD (dH x (L.take k)).1),.blk b5 (.cells (#[vb]) 24),.blk b4 (.cells (#[a8]) 24),.blk b3 (.cells (aC x.1.me x.1.pr x.2.1 x.2.2) 42),.blk b2 (.cells (#[vo]) 24)] ww∧nn=L.length - k∧k≤L.length) (L.length - (0)) ⟨0,a8,h.only ⟨rfl,rfl,rfl,rfl,rfl,rfl,rfl,rfl,rfl,aQ rfl (by omega),trivial⟩,s.as ⟨rfl,rfl,rfl,rfl,rfl,trivial⟩,rfl,Nat.zero_le _⟩ ?_
 rintro _ f w1 ⟨k,vb,h,s,hnn,hp0⟩
 have hpl:=tU x (L.take k)
 rw [List.length_take] at hpl
 refine al fun K6 hK6=>?_
 refine ae ?_
 refine ac h (bN (h.ev rfl) (h.ev rfl)) rfl ?_;intro f h
 refine ah ?_
 refine hK6 _ _ ?_
 refine al fun K7 hK7=>?_
 refine bM h rfl (fun hc=>?_) (fun hc=>?_)
 ·replace hc:=of_decide_eq_true hc
  refine wpIn_skip ?_
  refine hK7 _ _ ?_
  refine al fun K8 hK8=>?_
  refine wpIn_block ?_
  refine al fun K9 hK9=>?_
  refine ae ?_
  have hkl:k<L.length:=by omega
  refine ac h (bZ (hO.1.keep s.ext) (k) Tryz.underlying22 gc (h.ev rfl) (h.ev rfl) (by omega) (by omega)) rfl ?_;intro f h
  refine aB ((hO.1.keep s.ext).el (k) (by omega) (by decide) (D:=aC (L.getD k z3).1.me (L.getD k z3).1.pr (L.getD k z3).2.1 (L.getD k z3).2.2) (df L k hkl)) h aZ rfl (aq _ _ _ _) rfl ?_;intro f h
  refine bj (aC aT aT a8 a8) h s ea rfl rfl ?_;intro f w1 b8 h s
  refine ax 0 h s aZ rfl rfl rfl (aq _ _ _ _) (aq _ _ _ _) (a7 (co ((hO.2 _ (bw hkl)).1.keep s.ext)) (co ((hO.2 _ (bw hkl)).2.keep s.ext))) ?_;intro w1 s
  refine ah ?_
  refine hK9 _ _ ?_
  refine al fun K10 hK10=>?_
  refine al fun K11 hK11=>?_
  cases b0:((dH x (L.take k)).2:Bool)
  ·skip
   cases h1:(decide (x.1.me.1≤(L.getD k z3).1.me.1):Bool)
   ·skip
    refine ae ?_
    refine ac h (av (.bool false) (ag (h.ev rfl)) (congrArg Value.bool b0)) rfl ?_;intro f h
    refine ac h (av (.bool true) (bh (h.ev rfl)) rfl) rfl ?_;intro f h
    refine ac h (ag (h.ev rfl)) rfl ?_;intro f h
    refine az h rfl rfl rfl ?_
    refine ac h (ai aR (h.ev rfl)) rfl ?_;intro f h
    refine az h rfl rfl rfl ?_
    refine ac h (ai aJ (h.ev rfl)) rfl ?_;intro f h
    refine az h rfl rfl rfl ?_
    refine au (am (aU.of_own s 0 rfl) 0 (bO _ _ _ _)) h bz rfl rfl ?_;intro f h
    refine az h rfl rfl rfl ?_
    refine ac h (ai aR (h.ev rfl)) rfl ?_;intro f h
    refine az h rfl rfl rfl ?_
    refine ac h (ai aJ (h.ev rfl)) rfl ?_;intro f h
    refine az h rfl rfl rfl ?_
    refine au (am (aU.of_own s 4 rfl) 0 (bO _ _ _ _)) h bz rfl rfl ?_;intro f h
    refine az h rfl rfl rfl ?_
    refine ac h (av (.bool false) (dg (h.ev rfl) (h.ev rfl)) (congrArg Value.bool h1)) rfl ?_;intro f h
    refine ac h (aI (h.ev rfl) (h.ev rfl)) rfl ?_;intro f h
    refine ah ?_
    refine hK11 _ _ ?_
    refine wpIn_cond_false (h.ev rfl) ?_
    refine wpIn_skip ?_
    refine hK10 _ _ ?_
    refine al fun K12 hK12=>?_
    cases h2:(decide ((L.getD k z3).1.me.1≠x.1.me.1):Bool)
    ·skip
     refine ae ?_
     refine ac h (ai aR (h.ev rfl)) rfl ?_;intro f h
     refine ac h (ai aJ (h.ev rfl)) rfl ?_;intro f h
     refine au (am (aU.of_own s 0 rfl) 0 (bO _ _ _ _)) h bz rfl rfl ?_;intro f h
     refine ac h (ai aR (h.ev rfl)) rfl ?_;intro f h
     refine ac h (ai aJ (h.ev rfl)) rfl ?_;intro f h
     refine au (am (aU.of_own s 4 rfl) 0 (bO _ _ _ _)) h bz rfl rfl ?_;intro f h
     refine ac h (av (.bool false) (c3 (h.ev rfl) (h.ev rfl)) (congrArg Value.bool h2)) rfl ?_;intro f h
     refine ah ?_
     refine hK12 _ _ ?_
     refine wpIn_cond_false (h.ev rfl) ?_
     refine wpIn_skip ?_
     refine bF ?_
     refine hK8 _ _ ?_
     refine ae ?_
     refine ac h (cf (h.ev rfl) (h.ev rfl) (by omega)) rfl ?_;intro f h
     refine ac h (ag (h.ev rfl)) rfl ?_;intro f h
     refine ah ?_
     refine bQ ?_
     have hps:=(kw (x:=x) hkl).trans (AD (.inr h1) h2)
     exact ⟨_,by omega,⟨k+1,vb,h.only ⟨rfl,rfl,rfl,rfl,rfl,rfl,congrArg (fun b=>some (Value.bool b)) (by rw [hps]<;>first|rfl|exact b0.symm),rfl,rfl,aQ rfl (by omega),trivial⟩,St.as (s.pick _ (List.sublist_append_right [_] _)) ⟨fH (by rw [hps]) (by rw [hps]),rfl,rfl,rfl,rfl,trivial⟩,rfl,by omega⟩⟩
    ·skip
     refine ae ?_
     refine ac h (ai aR (h.ev rfl)) rfl ?_;intro f h
     refine ac h (ai aJ (h.ev rfl)) rfl ?_;intro f h
     refine au (am (aU.of_own s 0 rfl) 0 (bO _ _ _ _)) h bz rfl rfl ?_;intro f h
     refine ac h (ai aR (h.ev rfl)) rfl ?_;intro f h
     refine ac h (ai aJ (h.ev rfl)) rfl ?_;intro f h
     refine au (am (aU.of_own s 4 rfl) 0 (bO _ _ _ _)) h bz rfl rfl ?_;intro f h
     refine ac h (av (.bool true) (c3 (h.ev rfl) (h.ev rfl)) (congrArg Value.bool h2)) rfl ?_;intro f h
     refine ah ?_
     refine hK12 _ _ ?_
     refine wpIn_cond_true (h.ev rfl) ?_
     refine ae ?_
     refine ac h (ai cp (h.ev rfl)) rfl ?_;intro f h
     refine au (V:=vb) (am (aU.of_own s 2 rfl) 0 rfl) h c4 rfl rfl ?_;intro f h
     refine ar 0 h s aZ rfl rfl (aq _ _ _ _) rfl ?_;intro f h
     refine cg (vs:=[.agg (aC (L.getD k z3).1.me (L.getD k z3).1.pr (L.getD k z3).2.1 (L.getD k z3).2.2)]) [.tmp 43] h s Tryz.underlying22 fc rfl rfl (f5 (L.getD k z3)) rfl rfl rfl ?_;intro f w1 v44 h s
     refine cZ 2 0 h s Tryz.underlying22 fc rfl rfl rfl rfl (by decide) (iR (co (hO.2 _ (bw hkl)).1) (co (hO.2 _ (bw hkl)).2)) (by first|(unfold maxLen;omega)|(simp only [List.length_append,List.length_cons,List.length_nil];unfold maxLen;omega)) (by first|omega|(simp only [List.length_append,List.length_cons,List.length_nil];omega)) rfl ?_;intro f w1 v45 h s
     replace s:=s.pick _ (List.sublist_cons_self _ _)
     replace s:=s.resl (m:=((dH x (L.take k)).1++[(L.getD k z3)]).length) (ys:=aD ((dH x (L.take k)).1++[(L.getD k z3)])) 1 rfl (by simp only [List.length_append,List.length_cons,List.length_nil]) (by rw [gQ,f7])
     refine ac h (ai cp (h.ev rfl)) rfl ?_;intro f h
     refine bg 2 h s c4 rfl rfl rfl (by show 0<1;decide) (aX (s.getSl 1 rfl)) ?_;intro w1 s
     replace s:=s.recell (D:=#[v45]) 2 rfl rfl
     refine ah ?_
     refine bF ?_
     refine hK8 _ _ ?_
     refine ae ?_
     refine ac h (cf (h.ev rfl) (h.ev rfl) (by omega)) rfl ?_;intro f h
     refine ac h (ag (h.ev rfl)) rfl ?_;intro f h
     refine ah ?_
     refine bQ ?_
     have hps:=(kw (x:=x) hkl).trans (sF (.inr h1) h2)
     exact ⟨_,by omega,⟨k+1,v45,h.only ⟨rfl,rfl,rfl,rfl,rfl,rfl,congrArg (fun b=>some (Value.bool b)) (by rw [hps]<;>first|rfl|exact b0.symm),rfl,rfl,aQ rfl (by omega),trivial⟩,St.as (s.pick _ (List.sublist_append_right [_] _)) ⟨fH (by rw [hps]) (by rw [hps]),rfl,rfl,rfl,rfl,trivial⟩,rfl,by omega⟩⟩
   ·skip
    refine ae ?_
    refine ac h (av (.bool false) (ag (h.ev rfl)) (congrArg Value.bool b0)) rfl ?_;intro f h
    refine ac h (av (.bool true) (bh (h.ev rfl)) rfl) rfl ?_;intro f h
    refine ac h (ag (h.ev rfl)) rfl ?_;intro f h
    refine az h rfl rfl rfl ?_
    refine ac h (ai aR (h.ev rfl)) rfl ?_;intro f h
    refine az h rfl rfl rfl ?_
    refine ac h (ai aJ (h.ev rfl)) rfl ?_;intro f h
    refine az h rfl rfl rfl ?_
    refine au (am (aU.of_own s 0 rfl) 0 (bO _ _ _ _)) h bz rfl rfl ?_;intro f h
    refine az h rfl rfl rfl ?_
    refine ac h (ai aR (h.ev rfl)) rfl ?_;intro f h
    refine az h rfl rfl rfl ?_
    refine ac h (ai aJ (h.ev rfl)) rfl ?_;intro f h
    refine az h rfl rfl rfl ?_
    refine au (am (aU.of_own s 4 rfl) 0 (bO _ _ _ _)) h bz rfl rfl ?_;intro f h
    refine az h rfl rfl rfl ?_
    refine ac h (av (.bool true) (dg (h.ev rfl) (h.ev rfl)) (congrArg Value.bool h1)) rfl ?_;intro f h
    refine ac h (aI (h.ev rfl) (h.ev rfl)) rfl ?_;intro f h
    refine ah ?_
    refine hK11 _ _ ?_
    refine wpIn_cond_true (h.ev rfl) ?_
    refine al fun K13 hK13=>?_
    refine ae ?_
    refine ac h (ai cp (h.ev rfl)) rfl ?_;intro f h
    refine au (V:=vb) (am (aU.of_own s 2 rfl) 0 rfl) h c4 rfl rfl ?_;intro f h
    refine ar 4 h s aZ rfl rfl (aq _ _ _ _) rfl ?_;intro f h
    refine cg (vs:=[.agg (aC x.1.me x.1.pr x.2.1 x.2.2)]) [.tmp 30] h s Tryz.underlying22 fc rfl rfl (f5 x) rfl rfl rfl ?_;intro f w1 v31 h s
    refine cZ 2 0 h s Tryz.underlying22 fc rfl rfl rfl rfl (by decide) (iR (co hx.1) (co hx.2)) (by first|(unfold maxLen;omega)|(simp only [List.length_append,List.length_cons,List.length_nil];unfold maxLen;omega)) (by first|omega|(simp only [List.length_append,List.length_cons,List.length_nil];omega)) rfl ?_;intro f w1 v32 h s
    replace s:=s.pick _ (List.sublist_cons_self _ _)
    replace s:=s.resl (m:=((dH x (L.take k)).1++[x]).length) (ys:=aD ((dH x (L.take k)).1++[x])) 1 rfl (by simp only [List.length_append,List.length_cons,List.length_nil]) (by rw [gQ,f7])
    refine ac h (ai cp (h.ev rfl)) rfl ?_;intro f h
    refine bg 2 h s c4 rfl rfl rfl (by show 0<1;decide) (aX (s.getSl 1 rfl)) ?_;intro w1 s
    replace s:=s.recell (D:=#[v32]) 2 rfl rfl
    refine ah ?_
    refine hK13 _ _ ?_
    refine ae ?_
    refine ac h (aj (h.ev rfl)) rfl ?_;intro f h
    refine ah ?_
    refine hK10 _ _ ?_
    refine al fun K14 hK14=>?_
    cases h2:(decide ((L.getD k z3).1.me.1≠x.1.me.1):Bool)
    ·skip
     refine ae ?_
     refine ac h (ai aR (h.ev rfl)) rfl ?_;intro f h
     refine ac h (ai aJ (h.ev rfl)) rfl ?_;intro f h
     refine au (am (aU.of_own s 0 rfl) 0 (bO _ _ _ _)) h bz rfl rfl ?_;intro f h
     refine ac h (ai aR (h.ev rfl)) rfl ?_;intro f h
     refine ac h (ai aJ (h.ev rfl)) rfl ?_;intro f h
     refine au (am (aU.of_own s 4 rfl) 0 (bO _ _ _ _)) h bz rfl rfl ?_;intro f h
     refine ac h (av (.bool false) (c3 (h.ev rfl) (h.ev rfl)) (congrArg Value.bool h2)) rfl ?_;intro f h
     refine ah ?_
     refine hK14 _ _ ?_
     refine wpIn_cond_false (h.ev rfl) ?_
     refine wpIn_skip ?_
     refine bF ?_
     refine hK8 _ _ ?_
     refine ae ?_
     refine ac h (cf (h.ev rfl) (h.ev rfl) (by omega)) rfl ?_;intro f h
     refine ac h (ag (h.ev rfl)) rfl ?_;intro f h
     refine ah ?_
     refine bQ ?_
     have hps:=(kw (x:=x) hkl).trans (AE b0 h1 h2)
     exact ⟨_,by omega,⟨k+1,v32,h.only ⟨rfl,rfl,rfl,rfl,rfl,rfl,congrArg (fun b=>some (Value.bool b)) (by rw [hps]<;>first|rfl|exact b0.symm),rfl,rfl,aQ rfl (by omega),trivial⟩,St.as (s.pick _ (List.sublist_append_right [_] _)) ⟨fH (by rw [hps]) (by rw [hps]),rfl,rfl,rfl,rfl,trivial⟩,rfl,by omega⟩⟩
    ·skip
     refine ae ?_
     refine ac h (ai aR (h.ev rfl)) rfl ?_;intro f h
     refine ac h (ai aJ (h.ev rfl)) rfl ?_;intro f h
     refine au (am (aU.of_own s 0 rfl) 0 (bO _ _ _ _)) h bz rfl rfl ?_;intro f h
     refine ac h (ai aR (h.ev rfl)) rfl ?_;intro f h
     refine ac h (ai aJ (h.ev rfl)) rfl ?_;intro f h
     refine au (am (aU.of_own s 4 rfl) 0 (bO _ _ _ _)) h bz rfl rfl ?_;intro f h
     refine ac h (av (.bool true) (c3 (h.ev rfl) (h.ev rfl)) (congrArg Value.bool h2)) rfl ?_;intro f h
     refine ah ?_
     refine hK14 _ _ ?_
     refine wpIn_cond_true (h.ev rfl) ?_
     refine ae ?_
     refine ac h (ai cp (h.ev rfl)) rfl ?_;intro f h
     refine au (V:=v32) (am (aU.of_own s 2 rfl) 0 rfl) h c4 rfl rfl ?_;intro f h
     refine ar 0 h s aZ rfl rfl (aq _ _ _ _) rfl ?_;intro f h
     refine cg (vs:=[.agg (aC (L.getD k z3).1.me (L.getD k z3).1.pr (L.getD k z3).2.1 (L.getD k z3).2.2)]) [.tmp 43] h s Tryz.underlying22 fc rfl rfl (f5 (L.getD k z3)) rfl rfl rfl ?_;intro f w1 v44 h s
     refine cZ 2 0 h s Tryz.underlying22 fc rfl rfl rfl rfl (by decide) (iR (co (hO.2 _ (bw hkl)).1) (co (hO.2 _ (bw hkl)).2)) (by first|(unfold maxLen;omega)|(simp only [List.length_append,List.length_cons,List.length_nil];unfold maxLen;omega)) (by first|omega|(simp only [List.length_append,List.length_cons,List.length_nil];omega)) rfl ?_;intro f w1 v45 h s
     replace s:=s.pick _ (List.sublist_cons_self _ _)
     replace s:=s.resl (m:=(((dH x (L.take k)).1++[x])++[(L.getD k z3)]).length) (ys:=aD (((dH x (L.take k)).1++[x])++[(L.getD k z3)])) 1 rfl (by simp only [List.length_append,List.length_cons,List.length_nil]) (by rw [gQ,f7])
     refine ac h (ai cp (h.ev rfl)) rfl ?_;intro f h
     refine bg 2 h s c4 rfl rfl rfl (by show 0<1;decide) (aX (s.getSl 1 rfl)) ?_;intro w1 s
     replace s:=s.recell (D:=#[v45]) 2 rfl rfl
     refine ah ?_
     refine bF ?_
     refine hK8 _ _ ?_
     refine ae ?_
     refine ac h (cf (h.ev rfl) (h.ev rfl) (by omega)) rfl ?_;intro f h
     refine ac h (ag (h.ev rfl)) rfl ?_;intro f h
     refine ah ?_
     refine bQ ?_
     have hps:=(kw (x:=x) hkl).trans (Ap b0 h1 h2)
     exact ⟨_,by omega,⟨k+1,v45,h.only ⟨rfl,rfl,rfl,rfl,rfl,rfl,congrArg (fun b=>some (Value.bool b)) (by rw [hps]<;>first|rfl|exact b0.symm),rfl,rfl,aQ rfl (by omega),trivial⟩,St.as (s.pick _ (List.sublist_append_right [_] _)) ⟨fH (by rw [hps]) (by rw [hps]),rfl,rfl,rfl,rfl,trivial⟩,rfl,by omega⟩⟩
  ·skip
   refine ae ?_
   refine ac h (av (.bool true) (ag (h.ev rfl)) (congrArg Value.bool b0)) rfl ?_;intro f h
   refine ac h (av (.bool false) (bh (h.ev rfl)) rfl) rfl ?_;intro f h
   refine ac h (ag (h.ev rfl)) rfl ?_;intro f h
   refine aA (b:=true) h rfl rfl rfl rfl ?_;intro f h
   refine aA (b:=true) h rfl rfl rfl rfl ?_;intro f h
   refine aA (b:=true) h rfl rfl rfl rfl ?_;intro f h
   refine aA (b:=true) h rfl rfl rfl rfl ?_;intro f h
   refine aA (b:=true) h rfl rfl rfl rfl ?_;intro f h
   refine aA (b:=true) h rfl rfl rfl rfl ?_;intro f h
   refine aA (b:=true) h rfl rfl rfl rfl ?_;intro f h
   refine ac h (aG (h.ev rfl) (h.ev rfl)) rfl ?_;intro f h
   refine ah ?_
   refine hK11 _ _ ?_
   refine wpIn_cond_false (h.ev rfl) ?_
   refine wpIn_skip ?_
   refine hK10 _ _ ?_
   refine al fun K15 hK15=>?_
   cases h2:(decide ((L.getD k z3).1.me.1≠x.1.me.1):Bool)
   ·skip
    refine ae ?_
    refine ac h (ai aR (h.ev rfl)) rfl ?_;intro f h
    refine ac h (ai aJ (h.ev rfl)) rfl ?_;intro f h
    refine au (am (aU.of_own s 0 rfl) 0 (bO _ _ _ _)) h bz rfl rfl ?_;intro f h
    refine ac h (ai aR (h.ev rfl)) rfl ?_;intro f h
    refine ac h (ai aJ (h.ev rfl)) rfl ?_;intro f h
    refine au (am (aU.of_own s 4 rfl) 0 (bO _ _ _ _)) h bz rfl rfl ?_;intro f h
    refine ac h (av (.bool false) (c3 (h.ev rfl) (h.ev rfl)) (congrArg Value.bool h2)) rfl ?_;intro f h
    refine ah ?_
    refine hK15 _ _ ?_
    refine wpIn_cond_false (h.ev rfl) ?_
    refine wpIn_skip ?_
    refine bF ?_
    refine hK8 _ _ ?_
    refine ae ?_
    refine ac h (cf (h.ev rfl) (h.ev rfl) (by omega)) rfl ?_;intro f h
    refine ac h (ag (h.ev rfl)) rfl ?_;intro f h
    refine ah ?_
    refine bQ ?_
    have hps:=(kw (x:=x) hkl).trans (AD (.inl b0) h2)
    exact ⟨_,by omega,⟨k+1,vb,h.only ⟨rfl,rfl,rfl,rfl,rfl,rfl,congrArg (fun b=>some (Value.bool b)) (by rw [hps]<;>first|rfl|exact b0.symm),rfl,rfl,aQ rfl (by omega),trivial⟩,St.as (s.pick _ (List.sublist_append_right [_] _)) ⟨fH (by rw [hps]) (by rw [hps]),rfl,rfl,rfl,rfl,trivial⟩,rfl,by omega⟩⟩
   ·skip
    refine ae ?_
    refine ac h (ai aR (h.ev rfl)) rfl ?_;intro f h
    refine ac h (ai aJ (h.ev rfl)) rfl ?_;intro f h
    refine au (am (aU.of_own s 0 rfl) 0 (bO _ _ _ _)) h bz rfl rfl ?_;intro f h
    refine ac h (ai aR (h.ev rfl)) rfl ?_;intro f h
    refine ac h (ai aJ (h.ev rfl)) rfl ?_;intro f h
    refine au (am (aU.of_own s 4 rfl) 0 (bO _ _ _ _)) h bz rfl rfl ?_;intro f h
    refine ac h (av (.bool true) (c3 (h.ev rfl) (h.ev rfl)) (congrArg Value.bool h2)) rfl ?_;intro f h
    refine ah ?_
    refine hK15 _ _ ?_
    refine wpIn_cond_true (h.ev rfl) ?_
    refine ae ?_
    refine ac h (ai cp (h.ev rfl)) rfl ?_;intro f h
    refine au (V:=vb) (am (aU.of_own s 2 rfl) 0 rfl) h c4 rfl rfl ?_;intro f h
    refine ar 0 h s aZ rfl rfl (aq _ _ _ _) rfl ?_;intro f h
    refine cg (vs:=[.agg (aC (L.getD k z3).1.me (L.getD k z3).1.pr (L.getD k z3).2.1 (L.getD k z3).2.2)]) [.tmp 43] h s Tryz.underlying22 fc rfl rfl (f5 (L.getD k z3)) rfl rfl rfl ?_;intro f w1 v44 h s
    refine cZ 2 0 h s Tryz.underlying22 fc rfl rfl rfl rfl (by decide) (iR (co (hO.2 _ (bw hkl)).1) (co (hO.2 _ (bw hkl)).2)) (by first|(unfold maxLen;omega)|(simp only [List.length_append,List.length_cons,List.length_nil];unfold maxLen;omega)) (by first|omega|(simp only [List.length_append,List.length_cons,List.length_nil];omega)) rfl ?_;intro f w1 v45 h s
    replace s:=s.pick _ (List.sublist_cons_self _ _)
    replace s:=s.resl (m:=((dH x (L.take k)).1++[(L.getD k z3)]).length) (ys:=aD ((dH x (L.take k)).1++[(L.getD k z3)])) 1 rfl (by simp only [List.length_append,List.length_cons,List.length_nil]) (by rw [gQ,f7])
    refine ac h (ai cp (h.ev rfl)) rfl ?_;intro f h
    refine bg 2 h s c4 rfl rfl rfl (by show 0<1;decide) (aX (s.getSl 1 rfl)) ?_;intro w1 s
    replace s:=s.recell (D:=#[v45]) 2 rfl rfl
    refine ah ?_
    refine bF ?_
    refine hK8 _ _ ?_
    refine ae ?_
    refine ac h (cf (h.ev rfl) (h.ev rfl) (by omega)) rfl ?_;intro f h
    refine ac h (ag (h.ev rfl)) rfl ?_;intro f h
    refine ah ?_
    refine bQ ?_
    have hps:=(kw (x:=x) hkl).trans (sF (.inl b0) h2)
    exact ⟨_,by omega,⟨k+1,v45,h.only ⟨rfl,rfl,rfl,rfl,rfl,rfl,congrArg (fun b=>some (Value.bool b)) (by rw [hps]<;>first|rfl|exact b0.symm),rfl,rfl,aQ rfl (by omega),trivial⟩,St.as (s.pick _ (List.sublist_append_right [_] _)) ⟨fH (by rw [hps]) (by rw [hps]),rfl,rfl,rfl,rfl,trivial⟩,rfl,by omega⟩⟩
 ·replace hc:=of_decide_eq_false hc
  refine wpIn_exit ?_
  refine bJ ?_
  refine bJ ?_
  refine cC ?_
  refine hK4 _ _ ?_
  refine al fun K16 hK16=>?_
  refine al fun K17 hK17=>?_
  cases b9:((dH x (L.take L.length)).2:Bool)
  ·skip
   refine ae ?_
   obtain rfl:k=L.length:=by omega
   refine ac h (av (.bool false) (ag (h.ev rfl)) (congrArg Value.bool b9)) rfl ?_;intro f h
   refine ac h (av (.bool true) (bh (h.ev rfl)) rfl) rfl ?_;intro f h
   refine ah ?_
   refine hK17 _ _ ?_
   refine wpIn_cond_true (h.ev rfl) ?_
   refine ae ?_
   refine ac h (ai cp (h.ev rfl)) rfl ?_;intro f h
   refine au (V:=vb) (am (aU.of_own s 1 rfl) 0 rfl) h c4 rfl rfl ?_;intro f h
   refine ar 3 h s aZ rfl rfl (aq _ _ _ _) rfl ?_;intro f h
   refine cg (vs:=[.agg (aC x.1.me x.1.pr x.2.1 x.2.2)]) [.tmp 52] h s Tryz.underlying22 fc rfl rfl (f5 x) rfl rfl rfl ?_;intro f w1 v53 h s
   refine cZ 1 0 h s Tryz.underlying22 fc rfl rfl rfl rfl (by decide) (iR (co hx.1) (co hx.2)) (by first|(unfold maxLen;omega)|(simp only [List.length_append,List.length_cons,List.length_nil];unfold maxLen;omega)) (by first|omega|(simp only [List.length_append,List.length_cons,List.length_nil];omega)) rfl ?_;intro f w1 v54 h s
   replace s:=s.pick _ (List.sublist_cons_self _ _)
   replace s:=s.resl (m:=((dH x (L.take L.length)).1++[x]).length) (ys:=aD ((dH x (L.take L.length)).1++[x])) 0 rfl (by simp only [List.length_append,List.length_cons,List.length_nil]) (by rw [gQ,f7])
   refine ac h (ai cp (h.ev rfl)) rfl ?_;intro f h
   refine bg 1 h s c4 rfl rfl rfl (by show 0<1;decide) (aX (s.getSl 0 rfl)) ?_;intro w1 s
   replace s:=s.recell (D:=#[v54]) 1 rfl rfl
   refine ah ?_
   refine hK16 _ _ ?_
   refine al fun K18 hK18=>?_
   refine ae ?_
   refine ar 1 h s a6 rfl rfl (rfl) rfl ?_;intro f h
   refine ax 2 h s a6 rfl rfl rfl (rfl) (rfl) (cn (aX (s.getSl 0 rfl))) ?_;intro w1 s
   refine ah ?_
   refine hK18 _ _ ?_
   refine wpIn_ret ?_
   exact c8 2 rfl h s a6 rfl rfl (rfl) (ru (by rw [List.take_length] at b9 ⊢;exact Ab b9) (s.getSl 0 rfl))
  ·skip
   refine ae ?_
   obtain rfl:k=L.length:=by omega
   refine ac h (av (.bool true) (ag (h.ev rfl)) (congrArg Value.bool b9)) rfl ?_;intro f h
   refine ac h (av (.bool false) (bh (h.ev rfl)) rfl) rfl ?_;intro f h
   refine ah ?_
   refine hK17 _ _ ?_
   refine wpIn_cond_false (h.ev rfl) ?_
   refine wpIn_skip ?_
   refine hK16 _ _ ?_
   refine al fun K19 hK19=>?_
   refine ae ?_
   refine ar 1 h s a6 rfl rfl (rfl) rfl ?_;intro f h
   refine ax 2 h s a6 rfl rfl rfl (rfl) (rfl) (cn (aX (s.getSl 0 rfl))) ?_;intro w1 s
   refine ah ?_
   refine hK19 _ _ ?_
   refine wpIn_ret ?_
   exact c8 2 rfl h s a6 rfl rfl (rfl) (ru (by rw [List.take_length] at b9 ⊢;exact z7 b9) (s.getSl 0 rfl))
end Go.Proofs.YthggibfkgofncaaGreat
