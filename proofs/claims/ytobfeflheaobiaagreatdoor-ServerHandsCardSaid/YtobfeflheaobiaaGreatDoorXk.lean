/- Which stacks, messages and packets may be, what is pushed, what becomes of a packet: packages stack, wire and rewrite. -/
import Derived.Test.YtobfeflheaobiaaGreatDoorXt
set_option linter.unusedVariables false
set_option linter.unusedSimpArgs false
set_option linter.unusedSectionVars false
namespace Go.Proofs.YtobfeflheaobiaaGreatDoor
open Go.RowKit
theorem mO (l:List cw) (vh:Value) (w:World) (hv:bK w vh 34 l.length (bB l)) (hln:l.length≤1000000):Calls Tryz.prog 69 [vh].toArray w (bT w (is (.bool (l.all eR)))):=by
 refine br Tryz.func69 rfl Tryz.ntmps69 rfl fun f h s=>bG ac 1 h rfl fun f h=>al (cd ac 1 h rfl fun f h=>eh h (hv.keep s.ext) Tryz.underlying29 rfl rfl fun f h=>e9 ac 1 h rfl fun f h=>wpIn_block (wpIn_loop_ghost (fun nn aa ww=>∃ k:Nat,Sl 15 aa [(0,vh),(5,vh),(6,.int .i64 (l.length:Int)),(7,.int .i64 (k:Int))]∧St w [] ww∧nn=l.length - k∧k≤l.length∧∀ i (hi:i<l.length),i<k→eR l[i]=true) (l.length - (0)) ⟨0,h.only ⟨rfl,rfl,rfl,ar rfl (by omega),trivial⟩,s.as trivial,rfl,Nat.zero_le _,fun i hi h9=>absurd h9 (Nat.not_lt_zero _)⟩ ?_))
 rintro _ f w1 ⟨k,h,s,hnn,hp0,hp1⟩
 refine bG ac 1 h rfl fun f h=>al (cL h rfl (fun hc=>?_) (fun hc=>?_))
 ·refine kt (al (wpIn_block (qr ?_)))
  have hkl:k<l.length:=by omega
  refine ag h (bW (hv.keep s.ext) (k) Tryz.underlying29 l6 (h.ev rfl) (h.ev rfl) (by omega) (by omega)) rfl fun f h=>aE ((hv.keep s.ext).el (k) (by omega) (by decide) (D:=bc l[k]) (G2 l k hkl)) h cy rfl (aK _) rfl fun f h=>aJ (bc (0,0#256,0)) h s sG rfl rfl fun f w1 b4 h s=>ao 0 h s cy rfl rfl rfl (aK _) (aK _) (fO _) fun w1 s=>nt (qr (aj 0 h s cy rfl rfl (aK _) rfl fun f h=>cn h s l1 (iL _ _) rfl rfl fun f w1 h s=>e9 ac 1 h rfl fun f h=>cq h rfl (fun hc=>?_) (fun hc=>?_)))
  ·refine bG ac 1 h rfl fun f h=>wpIn_ret (cp (bL (bL (cp (bL (aI rfl h s rfl (congrArg Value.bool (Ew hkl hc))))))))
  ·refine wpIn_skip (bg (aH (az (ag h (bh (h.ev rfl) (h.ev rfl) (by omega)) rfl fun f h=>e9 ac 1 h rfl fun f h=>?_))))
   exact ⟨_,by omega,⟨k+1,h.only ⟨rfl,rfl,rfl,ar rfl (by omega),trivial⟩,St.as (s.pick _ (List.sublist_append_right [_] _)) trivial,rfl,by omega,z8 (fun y=>eR y=true) hp1 hkl (by simpa using hc)⟩⟩
 ·refine wpIn_exit (aZ (aZ (bQ (aH (bG ac 1 h rfl fun f h=>wpIn_ret (aI rfl h s rfl (congrArg Value.bool (Do (by omega) hp1))))))))
theorem eX (l:List cw) (vh:Value) (w:World) (hv:bK w vh 34 l.length (bB l)) (hln:l.length≤1000000):Calls Tryz.prog 46 [vh].toArray w (bT w (is (.bool (iH l)))):=by
 refine br Tryz.func46 rfl Tryz.ntmps46 rfl fun f h s=>bG ac 1 h rfl fun f h=>al ?_
 refine rs ac 1 h rfl fun f h=>eh h (hv.keep s.ext) Tryz.underlying29 rfl rfl fun f h=>sg ac (decide (0<l.length)) h rfl ((decide_eq_decide.2 (by omega))) (fun h1 f h=>?_) (fun h1 f h=>?_)
 ·refine e9 ac 10 h rfl fun f h=>wpIn_ret (aI rfl h s rfl (by show _=_;unfold iH;rw [h1];rfl))
 ·skip
  refine aq ac 2 h rfl fun f h=>ca h rfl (eh h (hv.keep s.ext) Tryz.underlying29 rfl rfl fun f h=>ca h rfl (sg ac (decide (l.length≤4)) h rfl ((decide_eq_decide.2 (by omega))) (fun h2 f h=>?_) (fun h2 f h=>?_)))
  ·refine e9 ac 6 h rfl fun f h=>wpIn_ret (aI rfl h s rfl (by show _=_;unfold iH;rw [h1,h2];rfl))
  ·refine aq ac 3 h rfl fun f h=>ca h rfl (cn h s vJ (mO l vh _ (hv.keep s.ext) hln) rfl rfl fun f w1 h s=>e9 ac 2 h rfl fun f h=>wpIn_ret (aI rfl h s rfl (by show _=_;unfold iH;rw [h1,h2];rfl)))
theorem sV (k:Int) (w:World):Calls Tryz.prog 43 [.int .i64 k].toArray w (bT w (is (.tuple #[.agg (ei k),.bool (xW k)]))):=by
 refine br Tryz.func43 rfl Tryz.ntmps43 rfl fun f h s=>qr (aJ (ei 0) h s pZ rfl rfl fun f w1 b2 h s=>e9 ac 1 h rfl fun f h=>qr (ov h s rfl ?_));intro f w1 b7 h s
 refine ag h (aW n6 [(2,.bool true),(3,.bool true),(5,.bool true)] rfl (by intro i v hiv;simp only [List.mem_cons,Prod.mk.injEq,List.not_mem_nil,or_false] at hiv;rcases hiv with ⟨rfl,rfl⟩|⟨rfl,rfl⟩|⟨rfl,rfl⟩<;>exact ⟨_,rfl,rfl⟩) (D:=[.bool false,.bool false,.bool true,.bool true,.bool false,.bool true]) rfl) rfl fun f h=>d4 0 h s Tryz.underlying122 Tryz.underlying3 (by exact rfl) rfl rfl rfl rfl (by rfl) ?_;intro w1 s
 refine ag h (aW n6 [(0,.bool true),(1,.bool true),(3,.bool true)] rfl (by intro i v hiv;simp only [List.mem_cons,Prod.mk.injEq,List.not_mem_nil,or_false] at hiv;rcases hiv with ⟨rfl,rfl⟩|⟨rfl,rfl⟩|⟨rfl,rfl⟩<;>exact ⟨_,rfl,rfl⟩) (D:=[.bool true,.bool true,.bool false,.bool true,.bool false,.bool false]) rfl) rfl fun f h=>d4 0 h s Tryz.underlying122 Tryz.underlying3 (by exact rfl) rfl rfl rfl rfl (by rfl) ?_;intro w1 s
 refine ag h (aW n6 [(0,.bool true),(1,.bool true),(4,.bool true)] rfl (by intro i v hiv;simp only [List.mem_cons,Prod.mk.injEq,List.not_mem_nil,or_false] at hiv;rcases hiv with ⟨rfl,rfl⟩|⟨rfl,rfl⟩|⟨rfl,rfl⟩<;>exact ⟨_,rfl,rfl⟩) (D:=[.bool true,.bool true,.bool false,.bool false,.bool true,.bool false]) rfl) rfl fun f h=>d4 0 h s Tryz.underlying122 Tryz.underlying3 (by exact rfl) rfl rfl rfl rfl (by rfl) ?_;intro w1 s
 refine ag h (aW n6 [(0,.bool true),(1,.bool true),(3,.bool true),(4,.bool true)] rfl (by intro i v hiv;simp only [List.mem_cons,Prod.mk.injEq,List.not_mem_nil,or_false] at hiv;rcases hiv with ⟨rfl,rfl⟩|⟨rfl,rfl⟩|⟨rfl,rfl⟩|⟨rfl,rfl⟩<;>exact ⟨_,rfl,rfl⟩) (D:=[.bool true,.bool true,.bool false,.bool true,.bool true,.bool false]) rfl) rfl fun f h=>d4 0 h s Tryz.underlying122 Tryz.underlying3 (by exact rfl) rfl rfl rfl rfl (by rfl) ?_;intro w1 s
 refine ag h (aW n6 [(0,.bool true),(1,.bool true)] rfl (by intro i v hiv;simp only [List.mem_cons,Prod.mk.injEq,List.not_mem_nil,or_false] at hiv;rcases hiv with ⟨rfl,rfl⟩|⟨rfl,rfl⟩<;>exact ⟨_,rfl,rfl⟩) (D:=[.bool true,.bool true,.bool false,.bool false,.bool false,.bool false]) rfl) rfl fun f h=>d4 0 h s Tryz.underlying122 Tryz.underlying3 (by exact rfl) rfl rfl rfl rfl (by rfl) ?_;intro w1 s
 refine ag h (aW n6 [(0,.bool true),(1,.bool true),(4,.bool true)] rfl (by intro i v hiv;simp only [List.mem_cons,Prod.mk.injEq,List.not_mem_nil,or_false] at hiv;rcases hiv with ⟨rfl,rfl⟩|⟨rfl,rfl⟩|⟨rfl,rfl⟩<;>exact ⟨_,rfl,rfl⟩) (D:=[.bool true,.bool true,.bool false,.bool false,.bool true,.bool false]) rfl) rfl fun f h=>d4 0 h s Tryz.underlying122 Tryz.underlying3 (by exact rfl) rfl rfl rfl rfl (by rfl) ?_;intro w1 s
 refine ag h (aW n6 [(0,.bool true)] rfl (by intro i v hiv;simp only [List.mem_cons,Prod.mk.injEq,List.not_mem_nil,or_false] at hiv;rcases hiv with ⟨rfl,rfl⟩<;>exact ⟨_,rfl,rfl⟩) (D:=[.bool true,.bool false,.bool false,.bool false,.bool false,.bool false]) rfl) rfl fun f h=>d4 0 h s Tryz.underlying122 Tryz.underlying3 (by exact rfl) rfl rfl rfl rfl (by rfl) ?_;intro w1 s
 refine ag h (aW n6 [(0,.bool true),(3,.bool true)] rfl (by intro i v hiv;simp only [List.mem_cons,Prod.mk.injEq,List.not_mem_nil,or_false] at hiv;rcases hiv with ⟨rfl,rfl⟩|⟨rfl,rfl⟩<;>exact ⟨_,rfl,rfl⟩) (D:=[.bool true,.bool false,.bool false,.bool true,.bool false,.bool false]) rfl) rfl fun f h=>d4 0 h s Tryz.underlying122 Tryz.underlying3 (by exact rfl) rfl rfl rfl rfl (by rfl) ?_;intro w1 s
 refine ag h (aW n6 [(0,.bool true),(3,.bool true)] rfl (by intro i v hiv;simp only [List.mem_cons,Prod.mk.injEq,List.not_mem_nil,or_false] at hiv;rcases hiv with ⟨rfl,rfl⟩|⟨rfl,rfl⟩<;>exact ⟨_,rfl,rfl⟩) (D:=[.bool true,.bool false,.bool false,.bool true,.bool false,.bool false]) rfl) rfl fun f h=>d4 0 h s Tryz.underlying122 Tryz.underlying3 (by exact rfl) rfl rfl rfl rfl (by rfl) ?_;intro w1 s
 refine ag h (aW n6 [(0,.bool true),(3,.bool true)] rfl (by intro i v hiv;simp only [List.mem_cons,Prod.mk.injEq,List.not_mem_nil,or_false] at hiv;rcases hiv with ⟨rfl,rfl⟩|⟨rfl,rfl⟩<;>exact ⟨_,rfl,rfl⟩) (D:=[.bool true,.bool false,.bool false,.bool true,.bool false,.bool false]) rfl) rfl fun f h=>d4 0 h s Tryz.underlying122 Tryz.underlying3 (by exact rfl) rfl rfl rfl rfl (by rfl) ?_;intro w1 s
 refine aq ac 2 h rfl fun f h=>zR (V:=.agg (ei k)) (ok:=xW k) 0 h s Tryz.underlying122 Tryz.underlying3 (by exact rfl) pZ rfl rfl rfl (qS k) rfl ?_;intro f h
 refine aq ac 3 h rfl fun f h=>aJ (ei 0) h s pZ rfl rfl fun f w1 b4 h s=>ao 0 h s qz rfl rfl rfl (rfl) (rfl) (lS _) fun w1 s=>e9 ac 1 h rfl fun f h=>qr (aj 0 h s qz rfl rfl (rfl) rfl fun f h=>aq ac 1 h rfl fun f h=>ao 2 h s qz rfl rfl rfl (rfl) (rfl) (lS _) fun w1 s=>e9 ac 1 h rfl fun f h=>wpIn_ret (cU 2 rfl h s qz rfl rfl (rfl) rfl (rfl)))
theorem bA (a b c:Bool) (w:World):Calls Tryz.prog 44 [.bool a,.bool b,.bool c].toArray w (bT w (is (.bool (bif a then b else c)))):=by
 refine br Tryz.func44 rfl Tryz.ntmps44 rfl fun f h s=>bG ac 1 h rfl fun f h=>al (bG ac 1 h rfl fun f h=>cq h rfl (fun hc=>?_) (fun hc=>?_))
 ·refine bG ac 2 h rfl fun f h=>rt (aI rfl h s rfl (by show _=_;rw [hc];rfl))
 ·refine kt (bG ac 2 h rfl fun f h=>wpIn_ret (aI rfl h s rfl (by show _=_;rw [hc];rfl)))
set_option maxHeartbeats 4000000 in
theorem fc (m:Mg) (vs:Value) (w:World) (hv:bK w vs 34 m.l.length (bB m.l)) (hln:m.l.length≤1000000):Calls Tryz.prog 23 [.agg (a8 m vs)].toArray w (bT w (is (.bool (cN m)))):=by
 refine br Tryz.func23 rfl Tryz.ntmps23 rfl fun f h s=>qr (aR (a8 m vs) h s rfl rfl rfl fun f w1 b1 h s=>e9 ac 1 h rfl fun f h=>cd ac 1 h rfl fun f h=>ap (ae (aO.of_own s 0 rfl) 0 (lD _ _)) h bJ rfl rfl fun f h=>cn h s Im (sV _ _) rfl rfl fun f w1 h s=>aq ac 3 h rfl fun f h=>aJ (ei 0) h s pZ rfl rfl fun f w1 b3 h s=>ao 0 h s qz rfl rfl rfl (rfl) (rfl) (lS _) fun w1 s=>e9 ac 1 h rfl fun f h=>al ?_)
 refine d8 75 h (by kernel_rfl) (Ga ac h rfl (fun h0 f h=>?_) (fun h0 f h=>?_))
 ·refine ay ac 74 h rfl fun f h=>cc s fun w1 s=>nt (wpIn_ret (aI rfl h s rfl (by show _=_;unfold cN;rw [h0];rfl)))
 ·skip
  cases h1:(c1 m:Bool)
  ·refine ay ac 2 h rfl fun f h=>bn h rfl (av (ae (aO.of_own s 0 rfl) 0 (rfl)) h fb rfl rfl fun f h=>ay ac 1 h rfl fun f h=>bn h rfl (bq (aO.subL (aO.of_own s 1 rfl) 1 32 (D:=aw (_)) (eM _ _)) h aP rfl (by first|exact am _|exact ah _ _) rfl fun f h=>bn h rfl (ax h (ea ep) rfl fun f h=>bn h rfl (ax h (cG ep (h.ev rfl) (h.ev rfl)) rfl fun f h=>bn h rfl (aX h dx (fun w9 hE9=>bj (.bool false) (bA _ _ _ w9) (congrArg Value.bool h1)) rfl rfl fun f h=>ay ac 66 h rfl fun f h=>cc s fun w1 s=>nt (wpIn_ret (aI rfl h s rfl (by show _=_;unfold cN;rw [h0,h1];rfl))))))))
  ·skip
   cases h2:(c2 m:Bool)
   ·refine ay ac 2 h rfl fun f h=>bn h rfl (av (ae (aO.of_own s 0 rfl) 0 (rfl)) h fb rfl rfl fun f h=>ay ac 1 h rfl fun f h=>bn h rfl (bq (aO.subL (aO.of_own s 1 rfl) 1 32 (D:=aw (_)) (eM _ _)) h aP rfl (by first|exact am _|exact ah _ _) rfl fun f h=>bn h rfl (ax h (ea ep) rfl fun f h=>bn h rfl (ax h (cG ep (h.ev rfl) (h.ev rfl)) rfl fun f h=>bn h rfl (aX h dx (fun w9 hE9=>bj (.bool true) (bA _ _ _ w9) (congrArg Value.bool h1)) rfl rfl fun f h=>ay ac 3 h rfl fun f h=>bn h rfl (av (ae (aO.of_own s 0 rfl) 1 (rfl)) h fb rfl rfl fun f h=>ay ac 1 h rfl fun f h=>bn h rfl (bq (aO.subL (aO.of_own s 1 rfl) 33 34 (D:=bc (_)) (dS _ _)) h cy rfl (aK _) rfl fun f h=>bn h rfl (aX h l1 (fun w9 hE9=>iL _ w9) rfl rfl fun f h=>ay ac 1 h rfl fun f h=>bn h rfl (bq (aO.subL (aO.of_own s 1 rfl) 33 34 (D:=bc (_)) (dS _ _)) h cy rfl (aK _) rfl fun f h=>bn h rfl (ax h (eF tM) rfl fun f h=>bn h rfl (ax h (fj (D0 _ _) (by kernel_rfl) (by decide) (h.ev rfl) (h.ev rfl) (decide (m.t=(0,0#256,0))) (FE _ _)) rfl fun f h=>bn h rfl (aX h dx (fun w9 hE9=>bj (.bool false) (bA _ _ _ w9) (congrArg Value.bool h2)) rfl rfl fun f h=>ay ac 54 h rfl fun f h=>cc s fun w1 s=>nt (wpIn_ret (aI rfl h s rfl (by show _=_;unfold cN;rw [h0,h1,h2];rfl)))))))))))))))
   ·skip
    cases h3:(c3 m:Bool)
    ·refine ay ac 2 h rfl fun f h=>bn h rfl (av (ae (aO.of_own s 0 rfl) 0 (rfl)) h fb rfl rfl fun f h=>ay ac 1 h rfl fun f h=>bn h rfl (bq (aO.subL (aO.of_own s 1 rfl) 1 32 (D:=aw (_)) (eM _ _)) h aP rfl (by first|exact am _|exact ah _ _) rfl fun f h=>bn h rfl (ax h (ea ep) rfl fun f h=>bn h rfl (ax h (cG ep (h.ev rfl) (h.ev rfl)) rfl fun f h=>bn h rfl (aX h dx (fun w9 hE9=>bj (.bool true) (bA _ _ _ w9) (congrArg Value.bool h1)) rfl rfl fun f h=>ay ac 3 h rfl fun f h=>bn h rfl (av (ae (aO.of_own s 0 rfl) 1 (rfl)) h fb rfl rfl fun f h=>ay ac 1 h rfl fun f h=>bn h rfl (bq (aO.subL (aO.of_own s 1 rfl) 33 34 (D:=bc (_)) (dS _ _)) h cy rfl (aK _) rfl fun f h=>bn h rfl (aX h l1 (fun w9 hE9=>iL _ w9) rfl rfl fun f h=>ay ac 1 h rfl fun f h=>bn h rfl (bq (aO.subL (aO.of_own s 1 rfl) 33 34 (D:=bc (_)) (dS _ _)) h cy rfl (aK _) rfl fun f h=>bn h rfl (ax h (eF tM) rfl fun f h=>bn h rfl (ax h (fj (D0 _ _) (by kernel_rfl) (by decide) (h.ev rfl) (h.ev rfl) (decide (m.t=(0,0#256,0))) (FE _ _)) rfl fun f h=>bn h rfl (aX h dx (fun w9 hE9=>bj (.bool true) (bA _ _ _ w9) (congrArg Value.bool h2)) rfl rfl fun f h=>ay ac 3 h rfl fun f h=>bn h rfl (av (ae (aO.of_own s 0 rfl) 2 (rfl)) h fb rfl rfl fun f h=>ay ac 1 h rfl fun f h=>bn h rfl (av (ae (aO.of_own s 1 rfl) 67 (fF _ _)) h eE rfl rfl fun f h=>bn h rfl (aX h oo (fun w9 hE9=>eX m.l _ w9 (hv.keep (s.ext.trans hE9)) hln) rfl rfl fun f h=>ay ac 1 h rfl fun f h=>bn h rfl (av (ae (aO.of_own s 1 rfl) 67 (fF _ _)) h eE rfl rfl fun f h=>bn h rfl (ax h (gL (hv.keep s.ext) Tryz.underlying29 (h.ev rfl)) rfl fun f h=>bn h rfl (ax h (bm (.bool (decide (m.l.length=0))) (hN (h.ev rfl) (h.ev rfl)) (congrArg Value.bool (by simp))) rfl fun f h=>bn h rfl (aX h dx (fun w9 hE9=>bj (.bool false) (bA _ _ _ w9) (congrArg Value.bool h3)) rfl rfl fun f h=>ay ac 42 h rfl fun f h=>cc s fun w1 s=>nt (wpIn_ret (aI rfl h s rfl (by show _=_;unfold cN;rw [h0,h1,h2,h3];rfl))))))))))))))))))))))
    ·skip
     cases h4:(c4 m:Bool)
     ·skip
      refine ay ac 2 h rfl fun f h=>bn h rfl (av (ae (aO.of_own s 0 rfl) 0 (rfl)) h fb rfl rfl fun f h=>ay ac 1 h rfl fun f h=>bn h rfl (bq (aO.subL (aO.of_own s 1 rfl) 1 32 (D:=aw (_)) (eM _ _)) h aP rfl (by first|exact am _|exact ah _ _) rfl fun f h=>bn h rfl (ax h (ea ep) rfl fun f h=>bn h rfl (ax h (cG ep (h.ev rfl) (h.ev rfl)) rfl fun f h=>bn h rfl (aX h dx (fun w9 hE9=>bj (.bool true) (bA _ _ _ w9) (congrArg Value.bool h1)) rfl rfl fun f h=>ay ac 3 h rfl fun f h=>bn h rfl (av (ae (aO.of_own s 0 rfl) 1 (rfl)) h fb rfl rfl fun f h=>ay ac 1 h rfl fun f h=>bn h rfl (bq (aO.subL (aO.of_own s 1 rfl) 33 34 (D:=bc (_)) (dS _ _)) h cy rfl (aK _) rfl fun f h=>bn h rfl (aX h l1 (fun w9 hE9=>iL _ w9) rfl rfl fun f h=>ay ac 1 h rfl fun f h=>bn h rfl (bq (aO.subL (aO.of_own s 1 rfl) 33 34 (D:=bc (_)) (dS _ _)) h cy rfl (aK _) rfl fun f h=>bn h rfl (ax h (eF tM) rfl fun f h=>bn h rfl (ax h (fj (D0 _ _) (by kernel_rfl) (by decide) (h.ev rfl) (h.ev rfl) (decide (m.t=(0,0#256,0))) (FE _ _)) rfl fun f h=>bn h rfl (aX h dx (fun w9 hE9=>bj (.bool true) (bA _ _ _ w9) (congrArg Value.bool h2)) rfl rfl fun f h=>ay ac 3 h rfl fun f h=>bn h rfl (av (ae (aO.of_own s 0 rfl) 2 (rfl)) h fb rfl rfl fun f h=>ay ac 1 h rfl fun f h=>bn h rfl (av (ae (aO.of_own s 1 rfl) 67 (fF _ _)) h eE rfl rfl fun f h=>bn h rfl (aX h oo (fun w9 hE9=>eX m.l _ w9 (hv.keep (s.ext.trans hE9)) hln) rfl rfl fun f h=>ay ac 1 h rfl fun f h=>bn h rfl (av (ae (aO.of_own s 1 rfl) 67 (fF _ _)) h eE rfl rfl fun f h=>bn h rfl (ax h (gL (hv.keep s.ext) Tryz.underlying29 (h.ev rfl)) rfl fun f h=>bn h rfl (ax h (bm (.bool (decide (m.l.length=0))) (hN (h.ev rfl) (h.ev rfl)) (congrArg Value.bool (by simp))) rfl fun f h=>bn h rfl (aX h dx (fun w9 hE9=>bj (.bool true) (bA _ _ _ w9) (congrArg Value.bool h3)) rfl rfl fun f h=>ay ac 3 h rfl fun f h=>bn h rfl (av (ae (aO.of_own s 0 rfl) 3 (rfl)) h fb rfl rfl fun f h=>ay ac 1 h rfl fun f h=>bn h rfl (av (ae (aO.of_own s 1 rfl) 68 (eo _ _)) h bJ rfl rfl fun f h=>bn h rfl (Ga ac h rfl (fun hn f h=>?_) (fun hn f h=>?_)))))))))))))))))))))))
      ·refine ay ac 6 h rfl fun f h=>bn h rfl (av (ae (aO.of_own s 1 rfl) 68 (eo _ _)) h bJ rfl rfl fun f h=>ay ac 1 h rfl fun f h=>bn h rfl (aX h dx (fun w9 hE9=>bj (.bool false) (bA _ _ _ w9) (congrArg Value.bool (Eq.trans (by unfold c4;rw [hn];rfl) h4))) rfl rfl fun f h=>ay ac 26 h rfl fun f h=>cc s fun w1 s=>nt (wpIn_ret (aI rfl h s rfl (by show _=_;unfold cN;rw [h0,h1,h2,h3,h4];rfl)))))
      ·refine ay ac 2 h rfl fun f h=>bn h rfl (av (ae (aO.of_own s 1 rfl) 68 (eo _ _)) h bJ rfl rfl fun f h=>ay ac 3 h rfl fun f h=>bn h rfl (av (ae (aO.of_own s 1 rfl) 68 (eo _ _)) h bJ rfl rfl fun f h=>ay ac 1 h rfl fun f h=>bn h rfl (aX h dx (fun w9 hE9=>bj (.bool false) (bA _ _ _ w9) (congrArg Value.bool (Eq.trans (by unfold c4;rw [hn];rfl) h4))) rfl rfl fun f h=>ay ac 26 h rfl fun f h=>cc s fun w1 s=>nt (wpIn_ret (aI rfl h s rfl (by show _=_;unfold cN;rw [h0,h1,h2,h3,h4];rfl))))))
     ·skip
      cases h5:(c5 m:Bool)
      ·refine ay ac 2 h rfl fun f h=>bn h rfl (av (ae (aO.of_own s 0 rfl) 0 (rfl)) h fb rfl rfl fun f h=>ay ac 1 h rfl fun f h=>bn h rfl (bq (aO.subL (aO.of_own s 1 rfl) 1 32 (D:=aw (_)) (eM _ _)) h aP rfl (by first|exact am _|exact ah _ _) rfl fun f h=>bn h rfl (ax h (ea ep) rfl fun f h=>bn h rfl (ax h (cG ep (h.ev rfl) (h.ev rfl)) rfl fun f h=>bn h rfl (aX h dx (fun w9 hE9=>bj (.bool true) (bA _ _ _ w9) (congrArg Value.bool h1)) rfl rfl fun f h=>ay ac 3 h rfl fun f h=>bn h rfl (av (ae (aO.of_own s 0 rfl) 1 (rfl)) h fb rfl rfl fun f h=>ay ac 1 h rfl fun f h=>bn h rfl (bq (aO.subL (aO.of_own s 1 rfl) 33 34 (D:=bc (_)) (dS _ _)) h cy rfl (aK _) rfl fun f h=>bn h rfl (aX h l1 (fun w9 hE9=>iL _ w9) rfl rfl fun f h=>ay ac 1 h rfl fun f h=>bn h rfl (bq (aO.subL (aO.of_own s 1 rfl) 33 34 (D:=bc (_)) (dS _ _)) h cy rfl (aK _) rfl fun f h=>bn h rfl (ax h (eF tM) rfl fun f h=>bn h rfl (ax h (fj (D0 _ _) (by kernel_rfl) (by decide) (h.ev rfl) (h.ev rfl) (decide (m.t=(0,0#256,0))) (FE _ _)) rfl fun f h=>bn h rfl (aX h dx (fun w9 hE9=>bj (.bool true) (bA _ _ _ w9) (congrArg Value.bool h2)) rfl rfl fun f h=>ay ac 3 h rfl fun f h=>bn h rfl (av (ae (aO.of_own s 0 rfl) 2 (rfl)) h fb rfl rfl fun f h=>ay ac 1 h rfl fun f h=>bn h rfl (av (ae (aO.of_own s 1 rfl) 67 (fF _ _)) h eE rfl rfl fun f h=>bn h rfl (aX h oo (fun w9 hE9=>eX m.l _ w9 (hv.keep (s.ext.trans hE9)) hln) rfl rfl fun f h=>ay ac 1 h rfl fun f h=>bn h rfl (av (ae (aO.of_own s 1 rfl) 67 (fF _ _)) h eE rfl rfl fun f h=>bn h rfl (ax h (gL (hv.keep s.ext) Tryz.underlying29 (h.ev rfl)) rfl fun f h=>bn h rfl (ax h (bm (.bool (decide (m.l.length=0))) (hN (h.ev rfl) (h.ev rfl)) (congrArg Value.bool (by simp))) rfl fun f h=>bn h rfl (aX h dx (fun w9 hE9=>bj (.bool true) (bA _ _ _ w9) (congrArg Value.bool h3)) rfl rfl fun f h=>ay ac 3 h rfl fun f h=>bn h rfl (av (ae (aO.of_own s 0 rfl) 3 (rfl)) h fb rfl rfl fun f h=>ay ac 1 h rfl fun f h=>bn h rfl (av (ae (aO.of_own s 1 rfl) 68 (eo _ _)) h bJ rfl rfl fun f h=>bn h rfl (ob ac h rfl (decide_eq_true (xD h4)) fun f h=>ay ac 2 h rfl fun f h=>bn h rfl (av (ae (aO.of_own s 1 rfl) 68 (eo _ _)) h bJ rfl rfl fun f h=>ay ac 3 h rfl fun f h=>bn h rfl (av (ae (aO.of_own s 1 rfl) 68 (eo _ _)) h bJ rfl rfl fun f h=>ay ac 1 h rfl fun f h=>bn h rfl (aX h dx (fun w9 hE9=>bj (.bool true) (bA _ _ _ w9) (congrArg Value.bool (Eq.trans (by unfold c4;rw [decide_eq_true (xD h4)];rfl) h4))) rfl rfl fun f h=>ay ac 3 h rfl fun f h=>bn h rfl (av (ae (aO.of_own s 0 rfl) 4 (rfl)) h fb rfl rfl fun f h=>ay ac 1 h rfl fun f h=>bn h rfl (av (ae (aO.of_own s 1 rfl) 69 (jX _ _)) h fa rfl rfl fun f h=>bn h rfl (ax h (cA Tryz.underlying9 (h.ev rfl)) rfl fun f h=>bn h rfl (ax h (bm (.bool (decide (m.o.size=16))) (hN (h.ev rfl) (h.ev rfl)) (congrArg Value.bool (by rw [decide_eq_decide];omega))) rfl fun f h=>ay ac 1 h rfl fun f h=>bn h rfl (av (ae (aO.of_own s 1 rfl) 69 (jX _ _)) h fa rfl rfl fun f h=>bn h rfl (ax h (d7 (h.ev rfl) (h.ev rfl)) rfl fun f h=>bn h rfl (aX h dx (fun w9 hE9=>bj (.bool false) (bA _ _ _ w9) (congrArg Value.bool h5)) rfl rfl fun f h=>ay ac 14 h rfl fun f h=>cc s fun w1 s=>nt (wpIn_ret (aI rfl h s rfl (by show _=_;unfold cN;rw [h0,h1,h2,h3,h4,h5];rfl)))))))))))))))))))))))))))))))))))
      ·skip
       cases h6:(c6 m:Bool)
       ·refine ay ac 2 h rfl fun f h=>bn h rfl (av (ae (aO.of_own s 0 rfl) 0 (rfl)) h fb rfl rfl fun f h=>ay ac 1 h rfl fun f h=>bn h rfl (bq (aO.subL (aO.of_own s 1 rfl) 1 32 (D:=aw (_)) (eM _ _)) h aP rfl (by first|exact am _|exact ah _ _) rfl fun f h=>bn h rfl (ax h (ea ep) rfl fun f h=>bn h rfl (ax h (cG ep (h.ev rfl) (h.ev rfl)) rfl fun f h=>bn h rfl (aX h dx (fun w9 hE9=>bj (.bool true) (bA _ _ _ w9) (congrArg Value.bool h1)) rfl rfl fun f h=>ay ac 3 h rfl fun f h=>bn h rfl (av (ae (aO.of_own s 0 rfl) 1 (rfl)) h fb rfl rfl fun f h=>ay ac 1 h rfl fun f h=>bn h rfl (bq (aO.subL (aO.of_own s 1 rfl) 33 34 (D:=bc (_)) (dS _ _)) h cy rfl (aK _) rfl fun f h=>bn h rfl (aX h l1 (fun w9 hE9=>iL _ w9) rfl rfl fun f h=>ay ac 1 h rfl fun f h=>bn h rfl (bq (aO.subL (aO.of_own s 1 rfl) 33 34 (D:=bc (_)) (dS _ _)) h cy rfl (aK _) rfl fun f h=>bn h rfl (ax h (eF tM) rfl fun f h=>bn h rfl (ax h (fj (D0 _ _) (by kernel_rfl) (by decide) (h.ev rfl) (h.ev rfl) (decide (m.t=(0,0#256,0))) (FE _ _)) rfl fun f h=>bn h rfl (aX h dx (fun w9 hE9=>bj (.bool true) (bA _ _ _ w9) (congrArg Value.bool h2)) rfl rfl fun f h=>ay ac 3 h rfl fun f h=>bn h rfl (av (ae (aO.of_own s 0 rfl) 2 (rfl)) h fb rfl rfl fun f h=>ay ac 1 h rfl fun f h=>bn h rfl (av (ae (aO.of_own s 1 rfl) 67 (fF _ _)) h eE rfl rfl fun f h=>bn h rfl (aX h oo (fun w9 hE9=>eX m.l _ w9 (hv.keep (s.ext.trans hE9)) hln) rfl rfl fun f h=>ay ac 1 h rfl fun f h=>bn h rfl (av (ae (aO.of_own s 1 rfl) 67 (fF _ _)) h eE rfl rfl fun f h=>bn h rfl (ax h (gL (hv.keep s.ext) Tryz.underlying29 (h.ev rfl)) rfl fun f h=>bn h rfl (ax h (bm (.bool (decide (m.l.length=0))) (hN (h.ev rfl) (h.ev rfl)) (congrArg Value.bool (by simp))) rfl fun f h=>bn h rfl (aX h dx (fun w9 hE9=>bj (.bool true) (bA _ _ _ w9) (congrArg Value.bool h3)) rfl rfl fun f h=>ay ac 3 h rfl fun f h=>bn h rfl (av (ae (aO.of_own s 0 rfl) 3 (rfl)) h fb rfl rfl fun f h=>ay ac 1 h rfl fun f h=>bn h rfl (av (ae (aO.of_own s 1 rfl) 68 (eo _ _)) h bJ rfl rfl fun f h=>bn h rfl (ob ac h rfl (decide_eq_true (xD h4)) fun f h=>ay ac 2 h rfl fun f h=>bn h rfl (av (ae (aO.of_own s 1 rfl) 68 (eo _ _)) h bJ rfl rfl fun f h=>ay ac 3 h rfl fun f h=>bn h rfl (av (ae (aO.of_own s 1 rfl) 68 (eo _ _)) h bJ rfl rfl fun f h=>ay ac 1 h rfl fun f h=>bn h rfl (aX h dx (fun w9 hE9=>bj (.bool true) (bA _ _ _ w9) (congrArg Value.bool (Eq.trans (by unfold c4;rw [decide_eq_true (xD h4)];rfl) h4))) rfl rfl fun f h=>ay ac 3 h rfl fun f h=>bn h rfl (av (ae (aO.of_own s 0 rfl) 4 (rfl)) h fb rfl rfl fun f h=>ay ac 1 h rfl fun f h=>bn h rfl (av (ae (aO.of_own s 1 rfl) 69 (jX _ _)) h fa rfl rfl fun f h=>bn h rfl (ax h (cA Tryz.underlying9 (h.ev rfl)) rfl fun f h=>bn h rfl (ax h (bm (.bool (decide (m.o.size=16))) (hN (h.ev rfl) (h.ev rfl)) (congrArg Value.bool (by rw [decide_eq_decide];omega))) rfl fun f h=>ay ac 1 h rfl fun f h=>bn h rfl (av (ae (aO.of_own s 1 rfl) 69 (jX _ _)) h fa rfl rfl fun f h=>bn h rfl (ax h (d7 (h.ev rfl) (h.ev rfl)) rfl fun f h=>bn h rfl (aX h dx (fun w9 hE9=>bj (.bool true) (bA _ _ _ w9) (congrArg Value.bool h5)) rfl rfl fun f h=>ay ac 3 h rfl fun f h=>bn h rfl (av (ae (aO.of_own s 0 rfl) 5 (rfl)) h fb rfl rfl fun f h=>ay ac 1 h rfl fun f h=>bn h rfl (av (ae (aO.of_own s 1 rfl) 70 (mR _ _)) h fa rfl rfl fun f h=>bn h rfl (ax h (cA Tryz.underlying9 (h.ev rfl)) rfl fun f h=>bn h rfl (ax h (bm (.bool (decide (m.d.size≤64))) (pE (h.ev rfl) (h.ev rfl)) (congrArg Value.bool (by rw [decide_eq_decide];omega))) rfl fun f h=>ay ac 1 h rfl fun f h=>bn h rfl (av (ae (aO.of_own s 1 rfl) 70 (mR _ _)) h fa rfl rfl fun f h=>bn h rfl (ax h (d7 (h.ev rfl) (h.ev rfl)) rfl fun f h=>bn h rfl (aX h dx (fun w9 hE9=>bj (.bool false) (bA _ _ _ w9) (congrArg Value.bool h6)) rfl rfl fun f h=>ay ac 2 h rfl fun f h=>cc s fun w1 s=>nt (wpIn_ret (aI rfl h s rfl (by show _=_;unfold cN;rw [h0,h1,h2,h3,h4,h5,h6];rfl))))))))))))))))))))))))))))))))))))))))))
       ·refine ay ac 2 h rfl fun f h=>bn h rfl (av (ae (aO.of_own s 0 rfl) 0 (rfl)) h fb rfl rfl fun f h=>ay ac 1 h rfl fun f h=>bn h rfl (bq (aO.subL (aO.of_own s 1 rfl) 1 32 (D:=aw (_)) (eM _ _)) h aP rfl (by first|exact am _|exact ah _ _) rfl fun f h=>bn h rfl (ax h (ea ep) rfl fun f h=>bn h rfl (ax h (cG ep (h.ev rfl) (h.ev rfl)) rfl fun f h=>bn h rfl (aX h dx (fun w9 hE9=>bj (.bool true) (bA _ _ _ w9) (congrArg Value.bool h1)) rfl rfl fun f h=>ay ac 3 h rfl fun f h=>bn h rfl (av (ae (aO.of_own s 0 rfl) 1 (rfl)) h fb rfl rfl fun f h=>ay ac 1 h rfl fun f h=>bn h rfl (bq (aO.subL (aO.of_own s 1 rfl) 33 34 (D:=bc (_)) (dS _ _)) h cy rfl (aK _) rfl fun f h=>bn h rfl (aX h l1 (fun w9 hE9=>iL _ w9) rfl rfl fun f h=>ay ac 1 h rfl fun f h=>bn h rfl (bq (aO.subL (aO.of_own s 1 rfl) 33 34 (D:=bc (_)) (dS _ _)) h cy rfl (aK _) rfl fun f h=>bn h rfl (ax h (eF tM) rfl fun f h=>bn h rfl (ax h (fj (D0 _ _) (by kernel_rfl) (by decide) (h.ev rfl) (h.ev rfl) (decide (m.t=(0,0#256,0))) (FE _ _)) rfl fun f h=>bn h rfl (aX h dx (fun w9 hE9=>bj (.bool true) (bA _ _ _ w9) (congrArg Value.bool h2)) rfl rfl fun f h=>ay ac 3 h rfl fun f h=>bn h rfl (av (ae (aO.of_own s 0 rfl) 2 (rfl)) h fb rfl rfl fun f h=>ay ac 1 h rfl fun f h=>bn h rfl (av (ae (aO.of_own s 1 rfl) 67 (fF _ _)) h eE rfl rfl fun f h=>bn h rfl (aX h oo (fun w9 hE9=>eX m.l _ w9 (hv.keep (s.ext.trans hE9)) hln) rfl rfl fun f h=>ay ac 1 h rfl fun f h=>bn h rfl (av (ae (aO.of_own s 1 rfl) 67 (fF _ _)) h eE rfl rfl fun f h=>bn h rfl (ax h (gL (hv.keep s.ext) Tryz.underlying29 (h.ev rfl)) rfl fun f h=>bn h rfl (ax h (bm (.bool (decide (m.l.length=0))) (hN (h.ev rfl) (h.ev rfl)) (congrArg Value.bool (by simp))) rfl fun f h=>bn h rfl (aX h dx (fun w9 hE9=>bj (.bool true) (bA _ _ _ w9) (congrArg Value.bool h3)) rfl rfl fun f h=>ay ac 3 h rfl fun f h=>bn h rfl (av (ae (aO.of_own s 0 rfl) 3 (rfl)) h fb rfl rfl fun f h=>ay ac 1 h rfl fun f h=>bn h rfl (av (ae (aO.of_own s 1 rfl) 68 (eo _ _)) h bJ rfl rfl fun f h=>bn h rfl (ob ac h rfl (decide_eq_true (xD h4)) fun f h=>ay ac 2 h rfl fun f h=>bn h rfl (av (ae (aO.of_own s 1 rfl) 68 (eo _ _)) h bJ rfl rfl fun f h=>ay ac 3 h rfl fun f h=>bn h rfl (av (ae (aO.of_own s 1 rfl) 68 (eo _ _)) h bJ rfl rfl fun f h=>ay ac 1 h rfl fun f h=>bn h rfl (aX h dx (fun w9 hE9=>bj (.bool true) (bA _ _ _ w9) (congrArg Value.bool (Eq.trans (by unfold c4;rw [decide_eq_true (xD h4)];rfl) h4))) rfl rfl fun f h=>ay ac 3 h rfl fun f h=>bn h rfl (av (ae (aO.of_own s 0 rfl) 4 (rfl)) h fb rfl rfl fun f h=>ay ac 1 h rfl fun f h=>bn h rfl (av (ae (aO.of_own s 1 rfl) 69 (jX _ _)) h fa rfl rfl fun f h=>bn h rfl (ax h (cA Tryz.underlying9 (h.ev rfl)) rfl fun f h=>bn h rfl (ax h (bm (.bool (decide (m.o.size=16))) (hN (h.ev rfl) (h.ev rfl)) (congrArg Value.bool (by rw [decide_eq_decide];omega))) rfl fun f h=>ay ac 1 h rfl fun f h=>bn h rfl (av (ae (aO.of_own s 1 rfl) 69 (jX _ _)) h fa rfl rfl fun f h=>bn h rfl (ax h (d7 (h.ev rfl) (h.ev rfl)) rfl fun f h=>bn h rfl (aX h dx (fun w9 hE9=>bj (.bool true) (bA _ _ _ w9) (congrArg Value.bool h5)) rfl rfl fun f h=>ay ac 3 h rfl fun f h=>bn h rfl (av (ae (aO.of_own s 0 rfl) 5 (rfl)) h fb rfl rfl fun f h=>ay ac 1 h rfl fun f h=>bn h rfl (av (ae (aO.of_own s 1 rfl) 70 (mR _ _)) h fa rfl rfl fun f h=>bn h rfl (ax h (cA Tryz.underlying9 (h.ev rfl)) rfl fun f h=>bn h rfl (ax h (bm (.bool (decide (m.d.size≤64))) (pE (h.ev rfl) (h.ev rfl)) (congrArg Value.bool (by rw [decide_eq_decide];omega))) rfl fun f h=>ay ac 1 h rfl fun f h=>bn h rfl (av (ae (aO.of_own s 1 rfl) 70 (mR _ _)) h fa rfl rfl fun f h=>bn h rfl (ax h (d7 (h.ev rfl) (h.ev rfl)) rfl fun f h=>bn h rfl (aX h dx (fun w9 hE9=>bj (.bool true) (bA _ _ _ w9) (congrArg Value.bool h6)) rfl rfl fun f h=>ay ac 2 h rfl fun f h=>cc s fun w1 s=>nt (wpIn_ret (aI rfl h s rfl (by show _=_;unfold cN;rw [h0,h1,h2,h3,h4,h5,h6];rfl))))))))))))))))))))))))))))))))))))))))))
theorem yg (n:Nat) (hn:n≤1000) (w:World):Calls Tryz.prog 140 [.slice none 0 0,.int .i64 (n:Int)].toArray w (bT w (fun v w'=>cb w' w.heap.size 28 34 v 0 [])):=by
 refine br Tryz.func140 rfl Tryz.ntmps140 rfl fun f h s=>bG ac 1 h rfl fun f h=>al (cd ac 1 h rfl fun f h=>my ac h rfl (decide_eq_false (by omega)) fun f h=>tY h rfl (al (cd ac 2 h rfl fun f h=>ag h (gZ Tryz.underlying29 (h.ev rfl)) rfl fun f h=>aq ac 1 h rfl fun f h=>ag h (gK Tryz.underlying29 (h.ev rfl)) rfl fun f h=>ag h (bm (.int .i64 0) (dt (h.ev rfl) (h.ev rfl) (by omega)) (rfl)) rfl fun f h=>ag h (bm (.int .i64 (n:Int)) (dt (h.ev rfl) (h.ev rfl) (by omega)) (congrArg (Value.int .i64) (by omega))) rfl fun f h=>e9 ac 1 h rfl fun f h=>bG ac 2 h rfl fun f h=>cL h rfl (fun hc=>?_) (fun hc=>?_))))
 ·refine rs ac 2 h rfl fun f h=>ag h (gZ Tryz.underlying29 (h.ev rfl)) rfl fun f h=>ag h (kN Tryz.underlying29 l6 (h.ev rfl) (h.ev rfl)) rfl fun f h=>aq ac 1 h rfl fun f h=>iy (n:=n) (base:=w.heap.size) h Tryz.underlying29 Tryz.underlying3 uH rfl rfl (by omega) (by omega) (by omega) (Nat.le_refl _) rfl fun f w1 v22 xs9 h hE9 hO9=>?_
  replace s:=s.sl_new hE9 hO9
  refine aq ac 1 h rfl fun f h=>ag h (gK Tryz.underlying29 (h.ev rfl)) rfl fun f h=>ag h (jt hO9 Tryz.underlying29 l6 (h.ev rfl) (h.ev rfl)) rfl fun f h=>e9 ac 1 h rfl fun f h=>bG ac 2 h rfl fun f h=>wpIn_ret (aI rfl h s rfl (hO9.cut0))
 ·refine kt (bG ac 2 h rfl fun f h=>wpIn_ret (aI rfl h s rfl (km _ _ _ _)))
theorem tV (vh:Value) (vs:List Value) (ls:List (List cw)) (hls:vs.length=ls.length) (htot:ls.flatten.length≤1000) (hvn:vs.length≤1000) (w:World) (hv:bK w vh 1 vs.length vs) (hr:∀ k,k<vs.length→bK w (vs.getD k undef) 34 (ls.getD k []).length (bB (ls.getD k []))):Calls Tryz.prog 130 [vh].toArray w (bT w (fun v w'=>cb w' w.heap.size 28 34 v ls.flatten.length (bB ls.flatten))):=by
 refine br Tryz.func130 rfl Tryz.ntmps130 rfl fun f h s=>bG ac 1 h rfl fun f h=>bG ac 1 h rfl fun f h=>al (cd ac 1 h rfl fun f h=>eh h (hv.keep s.ext) Tryz.underlying203 rfl rfl fun f h=>e9 ac 1 h rfl fun f h=>wpIn_block (wpIn_loop_ghost (fun nn aa ww=>∃ k:Nat,Sl 36 aa [(0,vh),(3,.int .i64 (((ls.take k).flatten.length:Nat):Int)),(9,vh),(10,.int .i64 (vs.length:Int)),(11,.int .i64 (k:Int))]∧St w [] ww∧nn=vs.length - k∧k≤vs.length) (vs.length - (0)) ⟨0,h.only ⟨rfl,ar rfl rfl,rfl,rfl,ar rfl (by omega),trivial⟩,s.as trivial,rfl,Nat.zero_le _⟩ ?_))
 rintro _ f w1 ⟨k,h,s,hnn,hp0⟩
 refine bG ac 1 h rfl fun f h=>al (cL h rfl (fun hc=>?_) (fun hc=>?_))
 ·refine kt (al (wpIn_block (qr ?_)))
  have hkl:k<vs.length:=by omega
  refine ag h (bW (hv.keep s.ext) (k) Tryz.underlying203 Eh (h.ev rfl) (h.ev rfl) (by omega) (by omega)) rfl fun f h=>ap ((hv.keep s.ext).el1 (k) (V:=vs.getD k undef) (mM hkl)) h eE rfl rfl fun f h=>e9 ac 1 h rfl fun f h=>cd ac 2 h rfl fun f h=>eh h ((hr k hkl).keep s.ext) Tryz.underlying29 rfl rfl fun f h=>?_
  have hk1:=m6 ls k (by omega)
  have hk2:=uQ ls (k+1)
  refine ag h (bh (h.ev rfl) (h.ev rfl) (by omega)) rfl fun f h=>e9 ac 1 h rfl fun f h=>cd ac 1 h rfl fun f h=>my ac h rfl (decide_eq_false (by omega)) fun f h=>BN h rfl (wpIn_skip (bg (aH (az (ag h (bh (h.ev rfl) (h.ev rfl) (by omega)) rfl fun f h=>e9 ac 1 h rfl fun f h=>?_)))))
  exact ⟨_,by omega,⟨k+1,h.only ⟨rfl,ar rfl (by omega),rfl,rfl,ar rfl (by omega),trivial⟩,St.as s trivial,rfl,by omega⟩⟩
 ·refine wpIn_exit (aZ (aZ (bQ (aH (qr ?_)))))
  obtain rfl:k=vs.length:=by omega
  refine lg ac (.int .i64 ((ls.flatten.length:Nat):Int)) h rfl (by rw [hls,List.take_length]) rfl fun f h=>bk h s ET (yg ls.flatten.length (by omega) _) rfl rfl ?_;intro f w1 v24 hT hE h sq;replace s:=s.sl_new hE hT
  refine e9 ac 1 h rfl fun f h=>al (cd ac 1 h rfl fun f h=>eh h (hv.keep s.ext) Tryz.underlying203 rfl rfl fun f h=>e9 ac 1 h rfl fun f h=>wpIn_block (wpIn_loop_ghost (fun nn aa ww=>∃ i:Nat,∃ vb:Value,Sl 36 aa [(0,vh),(6,vb),(25,vh),(26,.int .i64 (vs.length:Int)),(27,.int .i64 (i:Int))]∧St w [.sl vb 28 34 (ls.take i).flatten.length (bB (ls.take i).flatten)] ww∧nn=vs.length - i∧i≤vs.length) (vs.length - (0)) ⟨0,v24,h.only ⟨rfl,rfl,rfl,rfl,ar rfl (by omega),trivial⟩,s.as ⟨lY rfl rfl,trivial⟩,rfl,Nat.zero_le _⟩ ?_))
  rintro _ f w1 ⟨i,vb,h,s,hnn,hp0⟩
  refine bG ac 1 h rfl fun f h=>al (cL h rfl (fun hc=>?_) (fun hc=>?_))
  ·refine kt (al (wpIn_block (qr ?_)))
   have hkl:i<vs.length:=by omega
   have hk1:=m6 ls i (by omega)
   have hk2:=uQ ls (i+1)
   refine ag h (bW (hv.keep s.ext) (i) Tryz.underlying203 Eh (h.ev rfl) (h.ev rfl) (by omega) (by omega)) rfl fun f h=>ap ((hv.keep s.ext).el1 (i) (V:=vs.getD i undef) (mM hkl)) h eE rfl rfl fun f h=>e9 ac 1 h rfl fun f h=>rs ac 2 h rfl fun f h=>lW 0 ((hr i hkl).keep s.ext) h s Tryz.underlying29 uH rfl rfl rfl (qL _) (by unfold maxLen;omega) (by omega) rfl fun f w1 v33 h s=>aq ac 1 h rfl fun f h=>aB (bg (aH (az (ag h (bh (h.ev rfl) (h.ev rfl) (by omega)) rfl fun f h=>e9 ac 1 h rfl fun f h=>?_))))
   exact ⟨_,by omega,⟨i+1,v33,h.only ⟨rfl,rfl,rfl,rfl,ar rfl (by omega),trivial⟩,St.as s ⟨lY (m6 ls i (by omega)) (sZ ls i (by omega)),trivial⟩,rfl,by omega⟩⟩
  ·refine wpIn_exit (aZ (aZ (bQ (aH (bG ac 2 h rfl fun f h=>wpIn_ret (aI rfl h s rfl (t6 (by omega) (s.getSl 0 rfl))))))))
theorem Au (l m:List cw) (vh vu:Value) (w:World) (hv:bK w vh 34 l.length (bB l)) (hu:bK w vu 34 m.length (bB m)) (hln:l.length≤1000000) (hmn:m.length≤1000000):Calls Tryz.prog 115 [vh,vu].toArray w (bT w (fun v w'=>∃ vs,v=.tuple #[vs,.int .i64 (fH l m)]∧cb w' w.heap.size 28 34 vs (ia l m).length (bB (ia l m)))):=by
 refine br Tryz.func115 rfl Tryz.ntmps115 rfl fun f h s=>bG ac 2 h rfl fun f h=>al (al ?_)
 refine rs ac 1 h rfl fun f h=>fJ h s vJ (mO m vu _ (hu.keep s.ext) hmn) rfl rfl (fun hf f w1 h s=>?_) (fun hf f w1 h s=>?_)
 ·refine e9 ac 6 h rfl fun f h=>cv h rfl (bG ac 2 h rfl fun f h=>rt (cg rfl h s rfl rfl (nO (C6 hf) (by decide))))
 ·skip
  cases hl:(l.all eR:Bool)
  ·refine aq ac 3 h rfl fun f h=>ca h rfl (jQ false h s vJ (mO l vh _ (hv.keep s.ext) hln) (hl) rfl rfl fun f w1 h s=>e9 ac 2 h rfl fun f h=>cv h rfl (bG ac 2 h rfl fun f h=>rt (cg rfl h s rfl rfl (nO (CW hl) (by decide)))))
  ·refine aq ac 3 h rfl fun f h=>ca h rfl (bk h s vJ (bj (.bool true) (mO l vh _ (hv.keep s.ext) hln) (congrArg Value.bool hl)) rfl rfl ?_);intro f w1 v9 hT hE h s;obtain rfl:=hT
   refine e9 ac 2 h rfl fun f h=>jw h rfl (al (cd ac 1 h rfl fun f h=>eh h (hu.keep s.ext) Tryz.underlying29 rfl rfl fun f h=>aq ac 1 h rfl fun f h=>eh h (hv.keep s.ext) Tryz.underlying29 rfl rfl fun f h=>ag h (bh (h.ev rfl) (h.ev rfl) (by omega)) rfl fun f h=>e9 ac 1 h rfl fun f h=>cL h rfl (fun hc=>?_) (fun hc=>?_)))
   ·have h4:=hc
    refine bG ac 2 h rfl fun f h=>rt (cg rfl h s rfl rfl (nO (yd hf hl h4) (by decide)))
   ·have h4:=hc
    refine kt (cd ac 2 h rfl fun f h=>bF (vs:=[vu,vh]) [.tmp 20,.tmp 21] h s Tryz.underlying203 GH rfl rfl (by intro v hv9;simp only [List.mem_cons,List.not_mem_nil,or_false] at hv9;rcases hv9 with rfl|rfl;exact congrArg Array.size (kU hu);exact congrArg Array.size (kU hv)) rfl rfl rfl fun f w1 v22 h s=>?_)
    have s:=s.as (B':=[.sl v22 29 1 2 [vu,vh]]) ⟨lY rfl (zQ (kU hu) (kU hv)),trivial⟩
    refine bk h s FU (tV v22 [vu,vh] [m,l] rfl (by simp;omega) (by simp) _ (bK.of_own (s.getSl 0 rfl)) (EL (hu.keep s.ext) (hv.keep s.ext))) rfl rfl ?_;intro f w1 v23 hT hE h sq;replace s:=s.sl_new hE hT
    refine e9 ac 2 h rfl fun f h=>wpIn_ret (cg rfl h s rfl rfl (q7 (pI hf hl h4) (by rw [wr (pI hf hl h4)];have h9:=s.getSl 0 rfl;rw [show [m,l].flatten=m++l from by simp] at h9;exact h9)))
theorem sQ (p:Pk) (vs:Value) (w:World) (hP:bK w vs 34 p.1.length (bB p.1)) (hpl:p.1.length≤1000):Calls Tryz.prog 96 [.agg (bP vs p.2.1 p.2.2)].toArray w (bT w (is (.bool (dT p)))):=by
 refine br Tryz.func96 rfl Tryz.ntmps96 rfl fun f h s=>qr (aR (bP vs p.2.1 p.2.2) h s rfl rfl rfl fun f w1 b1 h s=>e9 ac 1 h rfl fun f h=>al ?_)
 refine rs ac 1 h rfl fun f h=>ap (V:=vs) (ae (aO.of_own s 0 rfl) 0 (zr _ _ _)) h eE rfl rfl fun f h=>fJ h s oo (eX p.1 vs _ (hP.keep s.ext) (by omega)) rfl rfl (fun h0 f w1 h s=>?_) (fun h0 f w1 h s=>?_)
 ·refine e9 ac 17 h rfl fun f h=>wpIn_ret (aI rfl h s rfl (by show _=_;unfold dT;rw [h0]<;>rfl))
 ·skip
  refine aq ac 2 h rfl fun f h=>ca h rfl (ap (V:=.int .i64 p.2.1) (ae (aO.of_own s 0 rfl) 1 (xP _ _ _)) h bJ rfl rfl fun f h=>ca h rfl (da ac h rfl (fun h1 f h=>?_) (fun h1 f h=>?_)))
  ·refine e9 ac 13 h rfl fun f h=>wpIn_ret (aI rfl h s rfl (by show _=_;unfold dT;rw [h0,h1]<;>rfl))
  ·skip
   refine aq ac 3 h rfl fun f h=>ca h rfl (ap (V:=.int .i64 p.2.1) (ae (aO.of_own s 0 rfl) 1 (xP _ _ _)) h bJ rfl rfl fun f h=>ca h rfl (da ac h rfl (fun h2 f h=>?_) (fun h2 f h=>?_)))
   ·refine e9 ac 8 h rfl fun f h=>wpIn_ret (aI rfl h s rfl (by show _=_;unfold dT;rw [h0,h1,h2]<;>rfl))
   ·refine aq ac 3 h rfl fun f h=>ca h rfl (ap (V:=.string p.2.2) (ae (aO.of_own s 0 rfl) 2 (Cq _ _ _)) h fa rfl rfl fun f h=>ca h rfl (ag h (cA Tryz.underlying9 (h.ev rfl)) rfl fun f h=>ca h rfl (lg ac (.bool (decide (p.2.2.size≤64))) h rfl (congrArg Value.bool (decide_eq_decide.2 (by omega))) rfl fun f h=>e9 ac 2 h rfl fun f h=>wpIn_ret (aI rfl h s rfl (by show _=_;unfold dT;rw [h0,h1,h2]<;>rfl)))))
theorem lU (n:Int) (d:ByteArray) (rs fr:List cw) (vr vf:Value) (w:World) (hR:bK w vr 34 rs.length (bB rs)) (hF:bK w vf 34 fr.length (bB fr)) (hre:rs.all eR=true) (hfe:fr.all eR=true) (h4:fr.length+rs.length≤4):Calls Tryz.prog 97 [.int .i64 n,.string d,vr,vf].toArray w (bT w (fun v w'=>∃ u,v=.agg (bP u n d)∧cb w' w.heap.size 28 34 u (fr++rs).length (bB (fr++rs)))):=by
 refine br Tryz.func97 rfl Tryz.ntmps97 rfl fun f h s=>qr (aJ (bP aM 0 ByteArray.empty) h s vN rfl rfl fun f w1 b8 h s=>nt (cd ac 2 h rfl fun f h=>bk h s Fp (Au rs fr vr vf _ (hR.keep s.ext) (hF.keep s.ext) (by omega) (by omega)) rfl rfl ?_));rintro f w1 v14 ⟨vx,rfl,hvx⟩ hE h sq
 rw [wr (pI hfe hre (by omega))] at hvx
 replace s:=s.sl_new hE hvx
 refine e9 ac 5 h rfl fun f h=>cd ac 3 h rfl fun f h=>ag h (kw Ix (f8 (bK.of_own (s.getSl 0 rfl))) (fq (bK.of_own (s.getSl 0 rfl))) (h.ev rfl) (h.ev rfl) (h.ev rfl)) rfl fun f h=>ao 1 h s gu rfl rfl rfl (cJ _ _ _) (cJ _ _ _) (jN _ _ (gR (s.getSl 0 rfl))) fun w1 s=>nt (wpIn_ret (fI 1 rfl h s gu rfl rfl (cJ _ _ _) (⟨_,rfl,s.getSl 0 rfl⟩)))
theorem oL (y:Int) (w:World):Calls Tryz.prog 98 [.int .i64 y].toArray w (bT w (fun v w'=>cb w' w.heap.size 107 73 v 1 (ct [(fw y,aM)]))):=by
 refine br Tryz.func98 rfl Tryz.ntmps98 rfl fun f h s=>bG ac 1 h rfl fun f h=>cd ac 1 h rfl fun f h=>ag h (lz EZ rfl (h.ev rfl)) rfl fun f h=>bF (vs:=[.agg (co 3 0 aM 0 ByteArray.empty aN y)]) [.tmp 4] h s Tryz.underlying104 nM rfl rfl (ut (fw y,aM)) rfl rfl rfl fun f w1 v5 h s=>?_
 replace s:=s.resl (m:=[(fw y,aM)].length) (ys:=ct [(fw y,aM)]) 0 rfl rfl (by exact pf [] (fw y,aM))
 refine e9 ac 1 h rfl fun f h=>wpIn_ret (aI rfl h s rfl (s.getSl 0 rfl))
theorem mm (p:Pk) (vs:Value) (b:Tg) (fr:List cw) (vf:Value) (w:World) (hP:bK w vs 34 p.1.length (bB p.1)) (hpl:p.1.length≤1000) (hea:p.1.all eR=true) (h1:1≤p.1.length) (h41:p.1.length≤4) (hh:0≤p.2.1∧p.2.1≤64) (hFr:bK w vf 34 fr.length (bB fr)) (hfe:fr.all eR=true) (hfl:fr.length≤1):Calls Tryz.prog 101 [.agg (bP vs p.2.1 p.2.2),.agg (au b),vf].toArray w (bT w (fun v w'=>∃ u,v=.agg (co 2 0 u (p.2.1 - 1) p.2.2 b 0)∧cb w' w.heap.size 28 34 u (fr++p.1.drop 1).length (bB (fr++p.1.drop 1)))):=by
 have hD:eg w (cX vs 34 1) (p.1.drop 1):=oX hP 1 (by omega)
 refine br Tryz.func101 rfl Tryz.ntmps101 rfl fun f h s=>qr (aR (bP vs p.2.1 p.2.2) h s rfl rfl rfl fun f w1 b3 h s=>aR (au b) h s rfl rfl rfl fun f w1 b4 h s=>aJ (co 0 0 aM 0 ByteArray.empty aN 0) h s ve rfl rfl fun f w1 b6 h s=>nt (al (lj 0 12 [[],[0],[0,1],[],[3],[],[5],[5,6],[],[0,1,2,3,4,5,6,7,8],[],[0,1,2,3,4,5,6,7,8,9,10],[0,1,2,3,4,5,6,7,8,9,10,11]] [[],[],[],[],[],[],[],[],[],[],[],[],[]] [] [.v _,.v (.int .i64 p.2.1),.v (.int .i64 (p.2.1 - 1)),.v _,.v (.string p.2.2),.v _,.v vs,.v (cX vs 34 1),.v _,.r (fun v=>[.sl (ka (v 9)) 28 34 (fr++p.1.drop 1).length (bB (fr++p.1.drop 1))]) (fun v=>v 9=.agg (bP (ka (v 9)) (p.2.1 - 1) p.2.2)),.v (.agg (au b)),.f (fun v=>v 11=.agg (co 2 0 (ka (v 9)) (p.2.1 - 1) p.2.2 b 0)),.n] _ h s rfl (by kernel_rfl) (by kernel_rfl) (by kernel_rfl) (ii ac h rfl rfl rfl (cu ?_ (cu ?_ (ii ac h rfl rfl rfl (cu ?_ (ii ac h rfl rfl rfl (cu ?_ (cu ?_ (ii ac h rfl rfl rfl (cu ?_ (cu ?_ (cu ?_ (trivial))))))))))))) [0,1,2,3,4,5,6,7,8,9,10,11] (by kernel_rfl) ?_)))
 ·intro f9 w2 vl1 E9 hs9 hd9 hl hF s
  have h:=cS [(7,_)] h hs9 hd9 ⟨bu hl 7 0 (by kernel_rfl) (hF 0 (by decide)),trivial⟩
  refine ap (V:=.int .i64 p.2.1) (ae (aO.of_own s 2 rfl) 1 (xP _ _ _)) h bJ rfl rfl fun f h=>aB ⟨_,bv 8 h rfl rfl,rfl,s⟩
 ·intro f9 w2 vl1 E9 hs9 hd9 hl hF s
  have h:=cS [(8,_)] h hs9 hd9 ⟨bu hl 8 1 (by kernel_rfl) (hF 1 (by decide)),trivial⟩
  refine ag h (dt (h.ev rfl) (h.ev rfl) (by omega)) rfl fun f h=>aB ⟨_,bv 9 h rfl rfl,rfl,s⟩
 ·intro f9 w2 vl1 E9 hs9 hd9 hl hF s
  have h:=cS [(10,_)] h hs9 hd9 ⟨bu hl 10 3 (by kernel_rfl) (hF 3 (by decide)),trivial⟩
  refine ap (V:=.string p.2.2) (ae (aO.of_own s 2 rfl) 2 (Cq _ _ _)) h fa rfl rfl fun f h=>aB ⟨_,bv 11 h rfl rfl,rfl,s⟩
 ·intro f9 w2 vl1 E9 hs9 hd9 hl hF s
  have h:=cS [(12,_)] h hs9 hd9 ⟨bu hl 12 5 (by kernel_rfl) (hF 5 (by decide)),trivial⟩
  refine ap (V:=vs) (ae (aO.of_own s 2 rfl) 0 (zr _ _ _)) h eE rfl rfl fun f h=>aB ⟨_,bv 13 h rfl rfl,rfl,s⟩
 ·intro f9 w2 vl1 E9 hs9 hd9 hl hF s
  have h:=cS [(13,_)] h hs9 hd9 ⟨bu hl 13 6 (by kernel_rfl) (hF 6 (by decide)),trivial⟩
  refine ag h (fL (hP.keep s.ext) (1) Tryz.underlying29 l6 (h.ev rfl) (h.ev rfl) (rfl) (by omega)) rfl fun f h=>aB ⟨_,bv 14 h rfl rfl,rfl,s⟩
 ·intro f9 w2 vl1 E9 hs9 hd9 hl hF s
  have h:=cS [(9,_),(11,_),(14,_),(15,_)] h hs9 hd9 ⟨bu hl 9 2 (by kernel_rfl) (hF 2 (by decide)),bu hl 11 4 (by kernel_rfl) (hF 4 (by decide)),bu hl 14 7 (by kernel_rfl) (hF 7 (by decide)),bu hl 15 8 (by kernel_rfl) (hF 8 (by decide)),trivial⟩
  refine bk h s DI (lU (p.2.1 - 1) p.2.2 (p.1.drop 1) fr (cX vs 34 1) vf _ (hD.keep s.ext) (hFr.keep s.ext) (qw hea 1) (hfe) (by rw [List.length_drop];omega)) rfl rfl ?_;rintro f w1 v16 ⟨u9,hv9,hOw⟩ hE h sq
  have h66:u9=(ka v16):=by rw [hv9];exact(zH (bK.of_own hOw) _ _).symm
  subst h66
  replace s:=s.sl_new hE hOw
  clear hOw
  exact aB ⟨_,bv 16 h rfl rfl,hv9,s⟩
 ·intro f9 w2 vl1 E9 hs9 hd9 hl hF s
  have h:=cS [(4,_)] h hs9 hd9 ⟨fY hl 4 (by kernel_rfl) (h.holds 4 _ rfl),trivial⟩
  refine aj 1 h s aT rfl rfl (ai _) rfl fun f h=>aB ⟨_,bv 17 h rfl rfl,rfl,s⟩
 ·intro f9 w2 vl1 E9 hs9 hd9 hl hF s
  have h:=cS [(16,.agg (bP (ka (vl1 9)) (p.2.1 - 1) p.2.2)),(17,_)] h hs9 hd9 ⟨bu hl 16 9 (by kernel_rfl) (hF 9 (by decide)),bu hl 17 10 (by kernel_rfl) (hF 10 (by decide)),trivial⟩
  refine ag h (nS EZ (w6 _) rfl (h.ev rfl) (h.ev rfl)) rfl fun f h=>aB ⟨_,bv 18 h rfl rfl,rfl,s⟩
 intro f w1 vl1 hs9 hd9 hv hr hF s
 replace hv:=fun i d h9=>hv i d (show Nat.blt i 12=true from h9)
 replace h:=lm 12 (ops:=_) [(7,_),(8,_),(9,_),(10,_),(11,_),(12,_),(13,_),(14,_),(15,_),(16,.agg (bP (ka (vl1 9)) (p.2.1 - 1) p.2.2)),(17,_),(18,.agg (co 2 0 (ka (vl1 9)) (p.2.1 - 1) p.2.2 b 0))] h hs9 hd9 hr ⟨(hv 0 7 rfl rfl).trans (hF 0 rfl),(hv 1 8 rfl rfl).trans (hF 1 rfl),(hv 2 9 rfl rfl).trans (hF 2 rfl),(hv 3 10 rfl rfl).trans (hF 3 rfl),(hv 4 11 rfl rfl).trans (hF 4 rfl),(hv 5 12 rfl rfl).trans (hF 5 rfl),(hv 6 13 rfl rfl).trans (hF 6 rfl),(hv 7 14 rfl rfl).trans (hF 7 rfl),(hv 8 15 rfl rfl).trans (hF 8 rfl),(hv 9 16 rfl rfl).trans (hF 9 rfl),(hv 10 17 rfl rfl).trans (hF 10 rfl),(hv 11 18 rfl rfl).trans (hF 11 rfl),trivial⟩ (by kernel_rfl)
 replace s:St w [.sl (ka (vl1 9)) 28 34 (fr++p.1.drop 1).length (bB (fr++p.1.drop 1)),.blk b6 (.cells (co 0 0 aM 0 ByteArray.empty aN 0) 107),.blk b4 (.cells (au b) 67),.blk b3 (.cells (bP vs p.2.1 p.2.2) 103)] _:=s
 refine ao 1 h s pb rfl rfl rfl (eA _ _ _ _ _ _ _) (eA _ _ _ _ _ _ _) (jZ _ _ _ _ _ _ (gR (s.getSl 0 rfl))) fun w1 s=>nt (wpIn_ret (fI 1 rfl h s pb rfl rfl (eA _ _ _ _ _ _ _) (⟨_,rfl,s.getSl 0 rfl⟩)))
set_option maxHeartbeats 2000000 in
theorem rP (M:List Tg) (vm:Value) (p:Pk) (vs:Value) (w:World) (hM:bK w vm 67 M.length (aA M)) (hMl:M.length≤1000) (hP:bK w vs 34 p.1.length (bB p.1)) (hpl:p.1.length≤1000) (hea:p.1.all eR=true) (h1:1≤p.1.length) (h41:p.1.length≤4) (hh:0≤p.2.1∧p.2.1≤64) (hme:∀ y∈M,eR y.2.1=true):Calls Tryz.prog 100 [vm,.agg (bP vs p.2.1 p.2.2)].toArray w (bT w (KJ w 107 vs p (M.map (iu p)))):=by
 refine br Tryz.func100 rfl Tryz.ntmps100 rfl fun f h s=>qr (aR (bP vs p.2.1 p.2.2) h s rfl rfl rfl fun f w1 b3 h s=>e9 ac 1 h rfl fun f h=>bG ac 1 h rfl fun f h=>al (qr ?_))
 replace s:=s.nilSl 107 73
 replace s:=s.grp0 (S:=fun w9=>eg w9 vs p.1→ny [] w9) (fun w9 _=>wA w9)
 refine aq ac 1 h rfl fun f h=>eh h (hM.keep s.ext) Tryz.underlying22 rfl rfl fun f h=>e9 ac 1 h rfl fun f h=>wpIn_block (wpIn_loop_ghost (fun nn aa ww=>∃ k:Nat,∃ vb:Value,∃ K:List O2,∃ kg:List Nat,Sl 25 aa [(0,vm),(1,.agg (bP vs p.2.1 p.2.2)),(3,.pointer (some ⟨b3,0,none⟩)),(5,vb),(8,vm),(9,.int .i64 (M.length:Int)),(10,.int .i64 (k:Int))]∧St w [(.grp kg (fun w9=>eg w9 vs p.1→ny K w9)),.sl vb 107 73 K.length (ct K),.blk b3 (.cells (bP vs p.2.1 p.2.2) 103)] ww∧nn=M.length - k∧k≤M.length∧eL K=(M.take k).map (iu p)) (M.length - (0)) ⟨0,aM,[],[],h.only ⟨rfl,rfl,rfl,rfl,rfl,rfl,ar rfl (by omega),trivial⟩,s.as ⟨rfl,rfl,rfl,trivial⟩,rfl,Nat.zero_le _,rfl⟩ ?_)
 rintro _ f w1 ⟨k,vb,K,kg,h,s,hnn,hp0,hp1⟩
 refine bG ac 1 h rfl fun f h=>al (cL h rfl (fun hc=>?_) (fun hc=>?_))
 ·refine kt (al (wpIn_block (qr ?_)))
  have hkm:k<M.length:=by omega
  have hKk:K.length=k:=by rw [← gG,hp1,List.length_map,List.length_take];omega
  refine ag h (bW (hM.keep s.ext) (k) Tryz.underlying22 cZ (h.ev rfl) (h.ev rfl) (by omega) (by omega)) rfl fun f h=>aE ((hM.keep s.ext).el (k) (by omega) (by decide) (D:=au (M.getD k aN)) (dd M k hkm)) h aT rfl (ai _) rfl fun f h=>aJ (au aN) h s dM rfl rfl fun f w1 b7 h s=>ao 0 h s aT rfl rfl rfl (ai _) (ai _) (aY _) fun w1 s=>nt (rs ac 1 h rfl fun f h=>aj 3 h s gu rfl rfl (cJ _ _ _) rfl fun f h=>aj 0 h s aT rfl rfl (ai _) rfl fun f h=>aq ac 1 h rfl fun f h=>aE (aO.subL (aO.of_own s 0 rfl) 32 34 (D:=bc (_)) (gI _)) h cy rfl (aK _) rfl fun f h=>bF (vs:=[.agg (bc (M.getD k aN).2.1)]) [.tmp 18] h s Tryz.underlying29 uH rfl rfl (Ef _) rfl rfl rfl fun f w1 v19 h s=>?_)
  replace s:=s.resl (m:=[(M.getD k aN).2.1].length) (ys:=bB [(M.getD k aN).2.1]) 0 rfl rfl ((DW _).trans (na _).symm)
  refine bk h s y8 (mm p vs (M.getD k aN) [(M.getD k aN).2.1] v19 _ (hP.keep s.ext) hpl hea h1 h41 hh (bK.of_own (s.getSl 0 rfl)) (uM (Gb hme hkm)) (Nat.le_refl _)) rfl rfl ?_;rintro f w1 v20 ⟨vu,rfl,hOw⟩ hE h sq;have hu1:=bV (bK.of_own hOw);replace s:=s.sl_new hE hOw;clear hOw
  refine bF (vs:=[.agg (co 2 0 vu (p.2.1 - 1) p.2.2 (M.getD k aN) 0)]) [.tmp 20] h s Tryz.underlying104 nM rfl rfl (ut (iu p (M.getD k aN),vu)) rfl rfl rfl fun f w1 v21 h s=>dA 5 0 h s Tryz.underlying104 nM rfl rfl rfl rfl (by decide) (by exact jZ _ _ _ _ _ _ (hu1)) (by unfold maxLen;omega) (by omega) rfl fun f w1 v22 h s=>?_
  replace s:=s.pick _ (List.sublist_cons_self _ _)
  replace s:=s.resl (m:=(K++[(iu p (M.getD k aN),vu)]).length) (ys:=ct (K++[(iu p (M.getD k aN),vu)])) 4 rfl (Fm K (iu p (M.getD k aN),vu)) (by exact pf K (iu p (M.getD k aN),vu))
  refine aq ac 1 h rfl fun f h=>aB (bg (aH (az ?_)))
  replace s:=s.sel [0,3,1,2,4,5] rfl (by decide)
  obtain ⟨kn,s⟩:=s.grp1 (S':=fun w9=>eg w9 vs p.1→ny (K++[(iu p (M.getD k aN),vu)]) w9) (fun w9 h1 h2 h3=>x0 (h2 h3) h1)
  refine ag h (bh (h.ev rfl) (h.ev rfl) (by omega)) rfl fun f h=>e9 ac 1 h rfl fun f h=>?_
  exact ⟨_,by omega,⟨k+1,v22,K++[(iu p (M.getD k aN),vu)],kn,h.only ⟨rfl,rfl,rfl,rfl,rfl,rfl,ar rfl (by omega),trivial⟩,St.as (s.pick _ (List.Sublist.cons_cons _ (List.Sublist.cons _ (List.Sublist.cons _ (List.Sublist.cons_cons _ (List.Sublist.cons_cons _ (List.nil_sublist _))))))) ⟨rfl,rfl,rfl,trivial⟩,rfl,by omega,yK hkm hp1⟩⟩
 ·refine wpIn_exit (aZ (aZ (bQ (aH (qr ?_)))))
  obtain rfl:k=M.length:=by omega
  rw [List.take_length] at hp1
  refine e9 ac 2 h rfl fun f h=>wpIn_ret (aI rfl h s rfl (⟨K,kg,hp1,s.sel [1,0] rfl (by decide)⟩))
set_option maxHeartbeats 2000000 in
theorem xk (t:List Tg) (vh:Value) (p:Pk) (vs:Value) (w:World) (hR:bK w vh 67 t.length (aA t)) (hln:t.length≤1000) (hP:bK w vs 34 p.1.length (bB p.1)) (hpl:p.1.length≤1000):Calls Tryz.prog 73 [vh,.agg (bP vs p.2.1 p.2.2)].toArray w (bT w (G1 w vs p (Fz t p) (Gr t p))):=by
 refine br Tryz.func73 rfl Tryz.ntmps73 rfl fun f h s=>qr (aR (bP vs p.2.1 p.2.2) h s rfl rfl rfl fun f w1 b3 h s=>e9 ac 2 h rfl fun f h=>al (al ?_))
 refine rs ac 1 h rfl fun f h=>fJ h s iW (c0 t vh _ (hR.keep s.ext) hln) rfl rfl (fun t0 f w1 h s=>?_) (fun t0 f w1 h s=>?_)
 ·refine e9 ac 6 h rfl fun f h=>cv h rfl (bG ac 2 h rfl fun f h=>rt (cg rfl h s rfl rfl (vz (uE p t0).1 (uE p t0).2 (s.sel [] rfl (by decide)))))
 ·skip
  refine aq ac 2 h rfl fun f h=>ca h rfl (aj 0 h s gu rfl rfl (cJ _ _ _) rfl fun f h=>ca h rfl (fJ h s Ie (sQ p vs _ (hP.keep s.ext) hpl) rfl rfl (fun r0 f w1 h s=>?_) (fun r0 f w1 h s=>?_)))
  ·refine e9 ac 2 h rfl fun f h=>cv h rfl (bG ac 2 h rfl fun f h=>rt (cg rfl h s rfl rfl (vz (wx t r0).1 (wx t r0).2 (s.sel [] rfl (by decide)))))
  ·refine e9 ac 2 h rfl fun f h=>jw h rfl (al ?_)
   obtain ⟨⟨h1,h41,hea9⟩,hh1,hh2,hd9⟩:=dO.1 r0
   have hea:=FW hea9
   have hh:=And.intro hh1 hh2
   have hD:eg w (cX vs 34 1) (p.1.drop 1):=oX hP 1 (by omega)
   obtain ⟨e0,l0⟩:=zA (t:=t) r0 t0
   refine lj 0 9 [[],[0],[0,1],[0,1,2],[],[4],[4,5],[],[0,1,2,3,7],[0,1,2,3,4,5,6,7,8]] [[],[],[],[],[],[],[],[],[7],[]] [] [.v _,.v vs,.v (.pointer (some (dr vs (0*34)))),.v (.agg (bc (bo p))),.v _,.v vs,.v (cX vs 34 1),.q (fun v=>[.blk (zK (v 7)) (.cells (bc (0,0#256,0)) 28)]),.m (fun v=>[.blk (zK (v 7)) (.cells (bc (bo p)) 28)]),.n] _ h s rfl (by kernel_rfl) (by kernel_rfl) (by kernel_rfl) (ii ac h rfl rfl rfl (cu ?_ (cu ?_ (cu ?_ (ii ac h rfl rfl rfl (cu ?_ (cu ?_ (cu ?_ (cu ?_ (trivial)))))))))) [0,1,2,3,4,5,6,8] (by kernel_rfl) ?_
   ·intro f9 w2 vl3 E9 hs9 hd9 hl hF s
    have h:=cS [(18,_)] h hs9 hd9 ⟨bu hl 18 0 (by kernel_rfl) (hF 0 (by decide)),trivial⟩
    refine ap (V:=vs) (ae (aO.of_own s 0 rfl) 0 (zr _ _ _)) h eE rfl rfl fun f h=>aB ⟨_,bv 19 h rfl rfl,rfl,s⟩
   ·intro f9 w2 vl3 E9 hs9 hd9 hl hF s
    have h:=cS [(19,_)] h hs9 hd9 ⟨bu hl 19 1 (by kernel_rfl) (hF 1 (by decide)),trivial⟩
    refine ag h (bW (hP.keep s.ext) (0) Tryz.underlying29 l6 (h.ev rfl) (h.ev rfl) (rfl) (by omega)) rfl fun f h=>aB ⟨_,bv 20 h rfl rfl,rfl,s⟩
   ·intro f9 w2 vl3 E9 hs9 hd9 hl hF s
    have h:=cS [(20,_)] h hs9 hd9 ⟨bu hl 20 2 (by kernel_rfl) (hF 2 (by decide)),trivial⟩
    refine aE ((hP.keep s.ext).el (0) (by omega) (by decide) (D:=bc (bo p)) (AD p.1 0 (by omega))) h cy rfl (aK _) rfl fun f h=>aB ⟨_,bv 21 h rfl rfl,rfl,s⟩
   ·intro f9 w2 vl3 E9 hs9 hd9 hl hF s
    have h:=cS [(22,_)] h hs9 hd9 ⟨bu hl 22 4 (by kernel_rfl) (hF 4 (by decide)),trivial⟩
    refine ap (V:=vs) (ae (aO.of_own s 0 rfl) 0 (zr _ _ _)) h eE rfl rfl fun f h=>aB ⟨_,bv 23 h rfl rfl,rfl,s⟩
   ·intro f9 w2 vl3 E9 hs9 hd9 hl hF s
    have h:=cS [(23,_)] h hs9 hd9 ⟨bu hl 23 5 (by kernel_rfl) (hF 5 (by decide)),trivial⟩
    refine ag h (fL (hP.keep s.ext) (1) Tryz.underlying29 l6 (h.ev rfl) (h.ev rfl) (rfl) (by omega)) rfl fun f h=>aB ⟨_,bv 24 h rfl rfl,rfl,s⟩
   ·intro f9 w2 vl3 E9 hs9 hd9 hl hF s
    have h:=bI [] (hs9.trans h.size) (hd9.trans h.defers) (holds_lk trivial)
    refine aJ (bc (0,0#256,0)) h s sG rfl rfl fun f w1 b6 h s=>aB ⟨_,bv 6 h rfl rfl,⟨_,rfl⟩,s⟩
   ·intro f9 w2 vl3 E9 hs9 hd9 hl hF s
    obtain ⟨b6,hb6⟩:∃ b,vl3 7=.pointer (some ⟨b,0,none⟩):=hF 7 (by decide)
    have e6:f9.tmps.getD 6 undef=.pointer (some ⟨b6,0,none⟩):=(cz hl 6 7 (by kernel_rfl) (by kernel_rfl)).trans hb6
    have e21:f9.tmps.getD 21 undef=.agg (bc (bo p)):=(cz hl 21 3 (by kernel_rfl) (by kernel_rfl)).trans (hF 3 (by decide))
    have h:=bI [(6,.pointer (some ⟨b6,0,none⟩)),(21,.agg (bc (bo p)))] (hs9.trans h.size) (hd9.trans h.defers) (holds_lk ⟨e6,e21,trivial⟩)
    replace s:St w (.blk (zK (vl3 7)) (.cells (bc (0,0#256,0)) 28)::.blk b3 (.cells (bP vs p.2.1 p.2.2) 103)::E9) _:=s
    rw [hb6] at s
    replace s:St w (.blk b6 (.cells (bc (0,0#256,0)) 28)::.blk b3 (.cells (bP vs p.2.1 p.2.2) 103)::E9) _:=s
    refine ao 0 h s cy rfl rfl rfl (aK _) (aK _) (fO _) fun w1 s=>aB ⟨undef,fk rfl,trivial,?_⟩
    have z:=s
    rw [← show zK (vl3 7)=b6 from by rw [hb6];rfl] at z
    exact z
   intro f w1 vl3 hs9 hd9 hv hr hF s
   replace hv:=fun i d h9=>hv i d (show Nat.blt i 9=true from h9)
   obtain ⟨b6,hb6⟩:∃ b,vl3 7=.pointer (some ⟨b,0,none⟩):=hF 7 (by kernel_rfl)
   replace h:=lm 9 (ops:=_) [(18,_),(19,_),(20,_),(21,_),(22,_),(23,_),(24,_),(6,.pointer (some ⟨b6,0,none⟩))] h hs9 hd9 hr ⟨(hv 0 18 rfl rfl).trans (hF 0 rfl),(hv 1 19 rfl rfl).trans (hF 1 rfl),(hv 2 20 rfl rfl).trans (hF 2 rfl),(hv 3 21 rfl rfl).trans (hF 3 rfl),(hv 4 22 rfl rfl).trans (hF 4 rfl),(hv 5 23 rfl rfl).trans (hF 5 rfl),(hv 6 24 rfl rfl).trans (hF 6 rfl),(hv 7 6 rfl rfl).trans hb6,trivial⟩ (by kernel_rfl)
   replace s:St w [.blk (zK (vl3 7)) (.cells (bc (bo p)) 28),.blk b3 (.cells (bP vs p.2.1 p.2.2) 103)] _:=s
   rw [hb6] at s
   replace s:St w [.blk b6 (.cells (bc (bo p)) 28),.blk b3 (.cells (bP vs p.2.1 p.2.2) 103)] _:=s
   refine e9 ac 1 h rfl fun f h=>al (cd ac 1 h rfl fun f h=>ap (ae (aO.of_own s 0 rfl) 0 (dC _)) h bJ rfl rfl fun f h=>e9 ac 1 h rfl fun f h=>cq h rfl (fun hc=>?_) (fun hc=>?_))
   ·have k0:=hc
    refine al (lj 0 12 [[],[0],[],[2],[],[4],[],[],[7],[2,3,4,5,6,7,8],[0,1,2,3,4,5,6,7,8,9],[0,1,2,3,4,5,6,7,8,9,10],[0,1,2,3,4,5,6,7,8,9,10,11],[0,1,2,3,4,5,6,7,8,9,10,11,12]] [[],[],[],[],[],[],[],[],[],[8],[],[],[],[]] [] [.v _,.v (.int .i64 (bo p).2.2),.v _,.v (.int .i64 p.2.1),.v _,.v (.string p.2.2),.v _,.v (.agg (bc (bo p))),.m (fun v=>[.sl (v 8) 28 34 [bo p].length (bB [bo p])]),.r (fun v=>[.sl (ka (v 9)) 28 34 p.1.length (bB p.1)]) (fun v=>v 9=.agg (bP (ka (v 9)) p.2.1 p.2.2)),.f (fun v=>v 10=.agg (co 1 (bo p).2.2 (ka (v 9)) p.2.1 p.2.2 aN 0)),.m (fun v=>[.sl (v 11) 107 73 1 (ct [(iR p,ka (v 9))])]),.n,.n] _ h s rfl (by kernel_rfl) (by kernel_rfl) (by kernel_rfl) (ii ac h rfl rfl rfl (cu ?_ (ii ac h rfl rfl rfl (cu ?_ (ii ac h rfl rfl rfl (cu ?_ (ii ac h rfl rfl rfl (cu ?_ (cu ?_ (cu ?_ (cu ?_ (cu ?_ (trivial))))))))))))) [0,1,2,3,4,5,6,7,9,10,11] (by kernel_rfl) ?_)
    ·intro f9 w2 vl5 E9 hs9 hd9 hl hF s
     have h:=cS [(28,_)] h hs9 hd9 ⟨bu hl 28 0 (by kernel_rfl) (hF 0 (by decide)),trivial⟩
     refine ap (ae (aO.of_own s 0 rfl) 33 (df _)) h bJ rfl rfl fun f h=>aB ⟨_,bv 29 h rfl rfl,rfl,s⟩
    ·intro f9 w2 vl5 E9 hs9 hd9 hl hF s
     have h:=cS [(30,_)] h hs9 hd9 ⟨bu hl 30 2 (by kernel_rfl) (hF 2 (by decide)),trivial⟩
     refine ap (V:=.int .i64 p.2.1) (ae (aO.of_own s 1 rfl) 1 (xP _ _ _)) h bJ rfl rfl fun f h=>aB ⟨_,bv 31 h rfl rfl,rfl,s⟩
    ·intro f9 w2 vl5 E9 hs9 hd9 hl hF s
     have h:=cS [(32,_)] h hs9 hd9 ⟨bu hl 32 4 (by kernel_rfl) (hF 4 (by decide)),trivial⟩
     refine ap (V:=.string p.2.2) (ae (aO.of_own s 1 rfl) 2 (Cq _ _ _)) h fa rfl rfl fun f h=>aB ⟨_,bv 33 h rfl rfl,rfl,s⟩
    ·intro f9 w2 vl5 E9 hs9 hd9 hl hF s
     have h:=cS [(6,_)] h hs9 hd9 ⟨fY hl 6 (by kernel_rfl) (h.holds 6 _ rfl),trivial⟩
     refine aj 0 h s cy rfl rfl (aK _) rfl fun f h=>aB ⟨_,bv 35 h rfl rfl,rfl,s⟩
    ·intro f9 w2 vl5 E9 hs9 hd9 hl hF s
     have h:=cS [(35,_)] h hs9 hd9 ⟨bu hl 35 7 (by kernel_rfl) (hF 7 (by decide)),trivial⟩
     refine bF (vs:=[.agg (bc (bo p))]) [.tmp 35] h s Tryz.underlying29 uH rfl rfl (Ef _) rfl rfl rfl fun f w1 v36 h s=>?_
     replace s:=s.resl (m:=[bo p].length) (ys:=bB [bo p]) 0 rfl rfl ((DW _).trans (na _).symm)
     exact aB ⟨_,bv 36 h rfl rfl,trivial,s⟩
    ·intro f9 w2 vl5 E9 hs9 hd9 hl hF s
     have e31:f9.tmps.getD 31 undef=.int .i64 p.2.1:=(cz hl 31 3 (by kernel_rfl) (by kernel_rfl)).trans (hF 3 (by decide))
     have e33:f9.tmps.getD 33 undef=.string p.2.2:=(cz hl 33 5 (by kernel_rfl) (by kernel_rfl)).trans (hF 5 (by decide))
     have e34:f9.tmps.getD 34 undef=(cX vs 34 1):=(cz hl 34 6 (by kernel_rfl) (by kernel_rfl)).trans (hF 6 (by decide))
     have e36:f9.tmps.getD 36 undef=(vl5 8):=cz hl 36 8 (by kernel_rfl) (by kernel_rfl)
     have h:=bI [(31,.int .i64 p.2.1),(33,.string p.2.2),(34,(cX vs 34 1)),(36,(vl5 8))] (hs9.trans h.size) (hd9.trans h.defers) (holds_lk ⟨e31,e33,e34,e36,trivial⟩)
     refine bk h s DI (lU (p.2.1) p.2.2 (p.1.drop 1) [bo p] (cX vs 34 1) (vl5 8) _ (hD.keep s.ext) (bK.of_own (s.getSl 0 rfl)) (qw hea 1) (uM (hea9 _ (BA h1))) (by rw [List.length_drop];show 1+_≤4;omega)) rfl rfl ?_;rintro f w1 v37 ⟨u9,hv9,hOw⟩ hE h sq
     rw [y7 h1] at hOw
     have h66:u9=(ka v37):=by rw [hv9];exact(zH (bK.of_own hOw) _ _).symm
     subst h66
     replace s:=s.sl_new hE hOw
     clear hOw
     exact aB ⟨_,bv 37 h rfl rfl,hv9,(s.pick _ (List.Sublist.cons_cons _ (List.Sublist.cons _ (List.Sublist.cons_cons _ (List.Sublist.cons_cons _ (List.Sublist.refl _))))))⟩
    ·intro f9 w2 vl5 E9 hs9 hd9 hl hF s
     have h:=cS [(29,_),(37,.agg (bP (ka (vl5 9)) p.2.1 p.2.2))] h hs9 hd9 ⟨bu hl 29 1 (by kernel_rfl) (hF 1 (by decide)),bu hl 37 9 (by kernel_rfl) (hF 9 (by decide)),trivial⟩
     refine ag h (lC EZ rfl (h.ev rfl) (h.ev rfl)) rfl fun f h=>aB ⟨_,bv 38 h rfl rfl,rfl,s⟩
    ·intro f9 w2 vl5 E9 hs9 hd9 hl hF s
     have h:=cS [(38,.agg (co 1 (bo p).2.2 (ka (vl5 9)) p.2.1 p.2.2 aN 0))] h hs9 hd9 ⟨bu hl 38 10 (by kernel_rfl) (hF 10 (by decide)),trivial⟩
     refine bF (vs:=[.agg (co 1 (bo p).2.2 (ka (vl5 9)) p.2.1 p.2.2 aN 0)]) [.tmp 38] h s Tryz.underlying104 nM rfl rfl (ut (iR p,ka (vl5 9))) rfl rfl rfl fun f w1 v39 h s=>?_
     replace s:=s.resl (m:=[(iR p,ka (vl5 9))].length) (ys:=ct [(iR p,ka (vl5 9))]) 0 rfl rfl (by exact pf [] (iR p,ka (vl5 9)))
     exact aB ⟨_,bv 39 h rfl rfl,trivial,s⟩
    intro f w1 vl5 hs9 hd9 hv hr hF s
    replace hv:=fun i d h9=>hv i d (show Nat.blt i 12=true from h9)
    replace h:=lm 12 (ops:=_) [(28,_),(29,_),(30,_),(31,_),(32,_),(33,_),(34,_),(35,_),(36,(vl5 8)),(37,.agg (bP (ka (vl5 9)) p.2.1 p.2.2)),(38,.agg (co 1 (bo p).2.2 (ka (vl5 9)) p.2.1 p.2.2 aN 0)),(39,(vl5 11))] h hs9 hd9 hr ⟨(hv 0 28 rfl rfl).trans (hF 0 rfl),(hv 1 29 rfl rfl).trans (hF 1 rfl),(hv 2 30 rfl rfl).trans (hF 2 rfl),(hv 3 31 rfl rfl).trans (hF 3 rfl),(hv 4 32 rfl rfl).trans (hF 4 rfl),(hv 5 33 rfl rfl).trans (hF 5 rfl),(hv 6 34 rfl rfl).trans (hF 6 rfl),(hv 7 35 rfl rfl).trans (hF 7 rfl),hv 8 36 rfl rfl,(hv 9 37 rfl rfl).trans (hF 9 rfl),(hv 10 38 rfl rfl).trans (hF 10 rfl),hv 11 39 rfl rfl,trivial⟩ (by kernel_rfl)
    replace s:St w [.sl (ka (vl5 9)) 28 34 p.1.length (bB p.1),.sl (vl5 11) 107 73 1 (ct [(iR p,ka (vl5 9))]),.blk b6 (.cells (bc (bo p)) 28),.blk b3 (.cells (bP vs p.2.1 p.2.2) 103)] _:=s
    refine e9 ac 2 h rfl fun f h=>rt (cg rfl h s rfl rfl (um (x:=iR p) e0 (l0.trans (lI k0)) rfl (s.sel [1,0] rfl (by decide))))
   ·have k0:=hc
    refine kt (al (cd ac 1 h rfl fun f h=>ap (V:=.int .i64 p.2.1) (ae (aO.of_own s 1 rfl) 1 (xP _ _ _)) h bJ rfl rfl fun f h=>e9 ac 1 h rfl fun f h=>cq h rfl (fun hc=>?_) (fun hc=>?_)))
    ·have k1:=hc
     refine qr (bk h s D4 (oL 9 _) rfl rfl ?_);intro f w1 v43 hOw hE h sq;replace s:=s.sl_new hE hOw;clear hOw
     refine e9 ac 2 h rfl fun f h=>rt (cg rfl h s rfl rfl (sk e0 (l0.trans (lE k0 k1)) (s.sel [0] rfl (by decide))))
    ·have k1:=hc
     refine kt (al (cd ac 2 h rfl fun f h=>aE (aO.subL (aO.of_own s 0 rfl) 1 32 (D:=aw (_)) (gh _)) h aP rfl (by first|exact am _|exact ah _ _) rfl fun f h=>bk h s IH (sB t vh (bo p).2.1 _ (hR.keep s.ext) (by omega)) rfl rfl ?_));rintro f w1 v48 ⟨vm,kvm,rfl,hG⟩ hE h sq;replace s:=s.add hG;clear hG
     obtain ⟨m1,m2⟩:=Cy t0 (bo p).2.1
     rw [m2] at s
     have hMl:=AC t (bo p).2.1
     refine e9 ac 5 h rfl fun f h=>bG ac 2 h rfl fun f h=>cq h rfl (fun hc=>?_) (fun hc=>?_)
     ·have z0:=CF t0 (of_decide_eq_true hc)
      refine cd ac 1 h rfl fun f h=>aj 2 h s gu rfl rfl (cJ _ _ _) rfl fun f h=>bk h s EW (rP (ju t (bo p).2.1) vm p vs _ ((s.getG 0 rfl) (hR.keep s.ext)) (by omega) (hP.keep s.ext) hpl hea h1 h41 hh (C7 t0)) rfl rfl ?_;rintro f w1 v55 ⟨K,ke,hK,hG⟩ hE h sq;replace s:=s.add hG;clear hG
      refine e9 ac 2 h rfl fun f h=>rt (cg rfl h s rfl rfl (py e0 (hK.trans (l0.trans (nK k0 k1 z0)).symm) (s.sel [0,1] rfl (by decide))))
     ·have z0:=B2 t0 (of_decide_eq_false hc)
      refine kt (al (cd ac 1 h rfl fun f h=>eh h (hD.keep s.ext) Tryz.underlying29 rfl rfl fun f h=>lg ac (.bool (decide (¬ 1<p.1.length))) h rfl (congrArg Value.bool (decide_eq_decide.2 (by rw [List.length_drop];omega))) rfl fun f h=>nt (cq h rfl (fun hc=>?_) (fun hc=>?_))))
      ·have k2:decide (1<p.1.length)=false:=decide_eq_false (of_decide_eq_true hc)
       refine qr (bk h s D4 (oL 6 _) rfl rfl ?_);intro f w1 v59 hOw hE h sq;replace s:=s.sl_new hE hOw;clear hOw
       refine e9 ac 2 h rfl fun f h=>rt (cg rfl h s rfl rfl (sk e0 (l0.trans (lG k0 k1 z0 k2)) (s.sel [0] rfl (by decide))))
      ·have k2:decide (1<p.1.length)=true:=decide_eq_true (Decidable.of_not_not (of_decide_eq_false hc))
       refine kt (qr (aj 2 h s gu rfl rfl (cJ _ _ _) rfl fun f h=>ag h (dg mw) rfl fun f h=>bk h s y8 (mm p vs aN [] aM _ (hP.keep s.ext) hpl hea h1 h41 hh (eN _) rfl (Nat.zero_le _)) rfl rfl ?_));rintro f w1 v62 ⟨vn,rfl,hOw⟩ hE h sq;have hu1:=bV (bK.of_own hOw);replace s:=s.sl_new hE hOw;clear hOw
       refine bF (vs:=[.agg (co 2 0 vn (p.2.1 - 1) p.2.2 aN 0)]) [.tmp 62] h s Tryz.underlying104 nM rfl rfl (ut (yE p aN [],vn)) rfl rfl rfl fun f w1 v63 h s=>?_
       replace s:=s.resl (m:=[(yE p aN [],vn)].length) (ys:=ct [(yE p aN [],vn)]) 0 rfl rfl (by exact pf [] (yE p aN [],vn))
       refine e9 ac 2 h rfl fun f h=>wpIn_ret (cg rfl h s rfl rfl (um (x:=yE p aN []) e0 (l0.trans (jC k0 k1 z0 k2)) rfl (s.sel [0,1] rfl (by decide))))
end Go.Proofs.YtobfeflheaobiaaGreatDoor
