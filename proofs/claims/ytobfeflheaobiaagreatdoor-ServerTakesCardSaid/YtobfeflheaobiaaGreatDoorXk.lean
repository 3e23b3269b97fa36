/- Which stacks, messages and packets may be, what is pushed, what becomes of a packet: packages stack, wire and rewrite. -/
import Derived.Test.YtobfeflheaobiaaGreatDoorXt
set_option linter.unusedVariables false
set_option linter.unusedSimpArgs false
set_option linter.unusedSectionVars false
namespace Go.Proofs.YtobfeflheaobiaaGreatDoor
open Go.RowKit
theorem pD (l:List cU) (vh:Value) (w:World) (hv:bI w vh 34 l.length (br l)) (hln:l.length≤1000000):Calls Tryz.prog 69 [vh].toArray w (cp w (is (.bool (l.all fK)))):=by
 refine bF Tryz.func69 rfl Tryz.ntmps69 rfl fun f h s=>bH ab 1 h rfl fun f h=>al (bZ ab 1 h rfl fun f h=>dN h (hv.keep s.ext) Tryz.underlying29 rfl rfl fun f h=>e9 ab 1 h rfl fun f h=>wpIn_block (wpIn_loop_ghost (fun nn aa ww=>∃ k:Nat,Sl 15 aa [(0,vh),(5,vh),(6,.int .i64 (l.length:Int)),(7,.int .i64 (k:Int))]∧St w [] ww∧nn=l.length - k∧k≤l.length∧∀ i (hi:i<l.length),i<k→fK l[i]=true) (l.length - (0)) ⟨0,h.only ⟨rfl,rfl,rfl,aq rfl (by omega),trivial⟩,s.as trivial,rfl,Nat.zero_le _,fun i hi h9=>absurd h9 (Nat.not_lt_zero _)⟩ ?_))
 rintro _ f w1 ⟨k,h,s,hnn,hp0,hp1⟩
 refine bH ab 1 h rfl fun f h=>al (cV h rfl (fun hc=>?_) (fun hc=>?_))
 ·refine kt (al (wpIn_block (qr ?_)))
  have hkl:k<l.length:=by omega
  refine ae h (a7 (hv.keep s.ext) (k) Tryz.underlying29 fp (h.ev rfl) (h.ev rfl) (by omega) (by omega)) rfl fun f h=>ar ((hv.keep s.ext).el (k) (by omega) (by decide) (D:=bg l[k]) (CZ l k hkl)) h bY rfl (aC _) rfl fun f h=>aK (bg (0,0#256,0)) h s ob rfl rfl fun f w1 b4 h s=>aj 0 h s bY rfl rfl rfl (aC _) (aC _) (fD _) fun w1 s=>nt (qr (ak 0 h s bY rfl rfl (aC _) rfl fun f h=>c7 h s oU (lB _ _) rfl rfl fun f w1 h s=>e9 ab 1 h rfl fun f h=>cd h rfl (fun hc=>?_) (fun hc=>?_)))
  ·refine bH ab 1 h rfl fun f h=>wpIn_ret (ck (bK (bK (ck (bK (aH rfl h s rfl (congrArg Value.bool (CQ hkl hc))))))))
  ·refine wpIn_skip (ba (aE (aF (ae h (a6 (h.ev rfl) (h.ev rfl) (by omega)) rfl fun f h=>e9 ab 1 h rfl fun f h=>?_))))
   exact ⟨_,by omega,⟨k+1,h.only ⟨rfl,rfl,rfl,aq rfl (by omega),trivial⟩,St.as (s.pick _ (List.sublist_append_right [_] _)) trivial,rfl,by omega,u5 (fun y=>fK y=true) hp1 hkl (by simpa using hc)⟩⟩
 ·refine wpIn_exit (aU (aU (bR (aE (bH ab 1 h rfl fun f h=>wpIn_ret (aH rfl h s rfl (congrArg Value.bool (zP (by omega) hp1))))))))
theorem gS (l:List cU) (vh:Value) (w:World) (hv:bI w vh 34 l.length (br l)) (hln:l.length≤1000000):Calls Tryz.prog 46 [vh].toArray w (cp w (is (.bool (gi l)))):=by
 refine bF Tryz.func46 rfl Tryz.ntmps46 rfl fun f h s=>bH ab 1 h rfl fun f h=>al ?_
 refine rs ab 1 h rfl fun f h=>dN h (hv.keep s.ext) Tryz.underlying29 rfl rfl fun f h=>nX ab (decide (0<l.length)) h rfl ((decide_eq_decide.2 (by omega))) (fun h1 f h=>?_) (fun h1 f h=>?_)
 ·refine e9 ab 10 h rfl fun f h=>wpIn_ret (aH rfl h s rfl (by show _=_;unfold gi;rw [h1];rfl))
 ·skip
  refine am ab 2 h rfl fun f h=>bf h rfl (dN h (hv.keep s.ext) Tryz.underlying29 rfl rfl fun f h=>bf h rfl (nX ab (decide (l.length≤4)) h rfl ((decide_eq_decide.2 (by omega))) (fun h2 f h=>?_) (fun h2 f h=>?_)))
  ·refine e9 ab 6 h rfl fun f h=>wpIn_ret (aH rfl h s rfl (by show _=_;unfold gi;rw [h1,h2];rfl))
  ·refine am ab 3 h rfl fun f h=>bf h rfl (c7 h s zI (pD l vh _ (hv.keep s.ext) hln) rfl rfl fun f w1 h s=>e9 ab 2 h rfl fun f h=>wpIn_ret (aH rfl h s rfl (by show _=_;unfold gi;rw [h1,h2];rfl)))
theorem xL (k:Int) (w:World):Calls Tryz.prog 43 [.int .i64 k].toArray w (cp w (is (.tuple #[.agg (fq k),.bool (rq k)]))):=by
 refine bF Tryz.func43 rfl Tryz.ntmps43 rfl fun f h s=>qr (aK (fq 0) h s tB rfl rfl fun f w1 b2 h s=>e9 ab 1 h rfl fun f h=>qr (rY h s rfl ?_));intro f w1 b7 h s
 refine ae h (bb rC [(2,.bool true),(3,.bool true),(5,.bool true)] rfl (by intro i v hiv;simp only [List.mem_cons,Prod.mk.injEq,List.not_mem_nil,or_false] at hiv;rcases hiv with ⟨rfl,rfl⟩|⟨rfl,rfl⟩|⟨rfl,rfl⟩<;>exact ⟨_,rfl,rfl⟩) (D:=[.bool false,.bool false,.bool true,.bool true,.bool false,.bool true]) rfl) rfl fun f h=>fv 0 h s Tryz.underlying122 Tryz.underlying3 (by exact rfl) rfl rfl rfl rfl (by rfl) ?_;intro w1 s
 refine ae h (bb rC [(0,.bool true),(1,.bool true),(3,.bool true)] rfl (by intro i v hiv;simp only [List.mem_cons,Prod.mk.injEq,List.not_mem_nil,or_false] at hiv;rcases hiv with ⟨rfl,rfl⟩|⟨rfl,rfl⟩|⟨rfl,rfl⟩<;>exact ⟨_,rfl,rfl⟩) (D:=[.bool true,.bool true,.bool false,.bool true,.bool false,.bool false]) rfl) rfl fun f h=>fv 0 h s Tryz.underlying122 Tryz.underlying3 (by exact rfl) rfl rfl rfl rfl (by rfl) ?_;intro w1 s
 refine ae h (bb rC [(0,.bool true),(1,.bool true),(4,.bool true)] rfl (by intro i v hiv;simp only [List.mem_cons,Prod.mk.injEq,List.not_mem_nil,or_false] at hiv;rcases hiv with ⟨rfl,rfl⟩|⟨rfl,rfl⟩|⟨rfl,rfl⟩<;>exact ⟨_,rfl,rfl⟩) (D:=[.bool true,.bool true,.bool false,.bool false,.bool true,.bool false]) rfl) rfl fun f h=>fv 0 h s Tryz.underlying122 Tryz.underlying3 (by exact rfl) rfl rfl rfl rfl (by rfl) ?_;intro w1 s
 refine ae h (bb rC [(0,.bool true),(1,.bool true),(3,.bool true),(4,.bool true)] rfl (by intro i v hiv;simp only [List.mem_cons,Prod.mk.injEq,List.not_mem_nil,or_false] at hiv;rcases hiv with ⟨rfl,rfl⟩|⟨rfl,rfl⟩|⟨rfl,rfl⟩|⟨rfl,rfl⟩<;>exact ⟨_,rfl,rfl⟩) (D:=[.bool true,.bool true,.bool false,.bool true,.bool true,.bool false]) rfl) rfl fun f h=>fv 0 h s Tryz.underlying122 Tryz.underlying3 (by exact rfl) rfl rfl rfl rfl (by rfl) ?_;intro w1 s
 refine ae h (bb rC [(0,.bool true),(1,.bool true)] rfl (by intro i v hiv;simp only [List.mem_cons,Prod.mk.injEq,List.not_mem_nil,or_false] at hiv;rcases hiv with ⟨rfl,rfl⟩|⟨rfl,rfl⟩<;>exact ⟨_,rfl,rfl⟩) (D:=[.bool true,.bool true,.bool false,.bool false,.bool false,.bool false]) rfl) rfl fun f h=>fv 0 h s Tryz.underlying122 Tryz.underlying3 (by exact rfl) rfl rfl rfl rfl (by rfl) ?_;intro w1 s
 refine ae h (bb rC [(0,.bool true),(1,.bool true),(4,.bool true)] rfl (by intro i v hiv;simp only [List.mem_cons,Prod.mk.injEq,List.not_mem_nil,or_false] at hiv;rcases hiv with ⟨rfl,rfl⟩|⟨rfl,rfl⟩|⟨rfl,rfl⟩<;>exact ⟨_,rfl,rfl⟩) (D:=[.bool true,.bool true,.bool false,.bool false,.bool true,.bool false]) rfl) rfl fun f h=>fv 0 h s Tryz.underlying122 Tryz.underlying3 (by exact rfl) rfl rfl rfl rfl (by rfl) ?_;intro w1 s
 refine ae h (bb rC [(0,.bool true)] rfl (by intro i v hiv;simp only [List.mem_cons,Prod.mk.injEq,List.not_mem_nil,or_false] at hiv;rcases hiv with ⟨rfl,rfl⟩<;>exact ⟨_,rfl,rfl⟩) (D:=[.bool true,.bool false,.bool false,.bool false,.bool false,.bool false]) rfl) rfl fun f h=>fv 0 h s Tryz.underlying122 Tryz.underlying3 (by exact rfl) rfl rfl rfl rfl (by rfl) ?_;intro w1 s
 refine ae h (bb rC [(0,.bool true),(3,.bool true)] rfl (by intro i v hiv;simp only [List.mem_cons,Prod.mk.injEq,List.not_mem_nil,or_false] at hiv;rcases hiv with ⟨rfl,rfl⟩|⟨rfl,rfl⟩<;>exact ⟨_,rfl,rfl⟩) (D:=[.bool true,.bool false,.bool false,.bool true,.bool false,.bool false]) rfl) rfl fun f h=>fv 0 h s Tryz.underlying122 Tryz.underlying3 (by exact rfl) rfl rfl rfl rfl (by rfl) ?_;intro w1 s
 refine ae h (bb rC [(0,.bool true),(3,.bool true)] rfl (by intro i v hiv;simp only [List.mem_cons,Prod.mk.injEq,List.not_mem_nil,or_false] at hiv;rcases hiv with ⟨rfl,rfl⟩|⟨rfl,rfl⟩<;>exact ⟨_,rfl,rfl⟩) (D:=[.bool true,.bool false,.bool false,.bool true,.bool false,.bool false]) rfl) rfl fun f h=>fv 0 h s Tryz.underlying122 Tryz.underlying3 (by exact rfl) rfl rfl rfl rfl (by rfl) ?_;intro w1 s
 refine ae h (bb rC [(0,.bool true),(3,.bool true)] rfl (by intro i v hiv;simp only [List.mem_cons,Prod.mk.injEq,List.not_mem_nil,or_false] at hiv;rcases hiv with ⟨rfl,rfl⟩|⟨rfl,rfl⟩<;>exact ⟨_,rfl,rfl⟩) (D:=[.bool true,.bool false,.bool false,.bool true,.bool false,.bool false]) rfl) rfl fun f h=>fv 0 h s Tryz.underlying122 Tryz.underlying3 (by exact rfl) rfl rfl rfl rfl (by rfl) ?_;intro w1 s
 refine am ab 2 h rfl fun f h=>Ew (V:=.agg (fq k)) (ok:=rq k) 0 h s Tryz.underlying122 Tryz.underlying3 (by exact rfl) tB rfl rfl rfl (wk k) rfl ?_;intro f h
 refine am ab 3 h rfl fun f h=>aK (fq 0) h s tB rfl rfl fun f w1 b4 h s=>aj 0 h s wj rfl rfl rfl (rfl) (rfl) (ot _) fun w1 s=>e9 ab 1 h rfl fun f h=>qr (ak 0 h s wj rfl rfl (rfl) rfl fun f h=>am ab 1 h rfl fun f h=>aj 2 h s wj rfl rfl rfl (rfl) (rfl) (ot _) fun w1 s=>e9 ab 1 h rfl fun f h=>wpIn_ret (cY 2 rfl h s wj rfl rfl (rfl) rfl (rfl)))
theorem bW (a b c:Bool) (w:World):Calls Tryz.prog 44 [.bool a,.bool b,.bool c].toArray w (cp w (is (.bool (bif a then b else c)))):=by
 refine bF Tryz.func44 rfl Tryz.ntmps44 rfl fun f h s=>bH ab 1 h rfl fun f h=>al (bH ab 1 h rfl fun f h=>cd h rfl (fun hc=>?_) (fun hc=>?_))
 ·refine bH ab 2 h rfl fun f h=>rt (aH rfl h s rfl (by show _=_;rw [hc];rfl))
 ·refine kt (bH ab 2 h rfl fun f h=>wpIn_ret (aH rfl h s rfl (by show _=_;rw [hc];rfl)))
set_option maxHeartbeats 4000000 in
theorem gh (m:Mg) (vs:Value) (w:World) (hv:bI w vs 34 m.l.length (br m.l)) (hln:m.l.length≤1000000):Calls Tryz.prog 23 [.agg (aP m vs)].toArray w (cp w (is (.bool (bD m)))):=by
 refine bF Tryz.func23 rfl Tryz.ntmps23 rfl fun f h s=>qr (aZ (aP m vs) h s rfl rfl rfl fun f w1 b1 h s=>e9 ab 1 h rfl fun f h=>bZ ab 1 h rfl fun f h=>ag (ac (aG.of_own s 0 rfl) 0 (cN _ _)) h bo rfl rfl fun f h=>c7 h s L9 (xL _ _) rfl rfl fun f w1 h s=>am ab 3 h rfl fun f h=>aK (fq 0) h s tB rfl rfl fun f w1 b3 h s=>aj 0 h s wj rfl rfl rfl (rfl) (rfl) (ot _) fun w1 s=>e9 ab 1 h rfl fun f h=>al ?_)
 refine eo 75 h (by kernel_rfl) (FD ab h rfl (fun h0 f h=>?_) (fun h0 f h=>?_))
 ·refine az ab 74 h rfl fun f h=>cj s fun w1 s=>nt (wpIn_ret (aH rfl h s rfl (by show _=_;unfold bD;rw [h0];rfl)))
 ·skip
  cases h1:(c1 m:Bool)
  ·refine az ab 2 h rfl fun f h=>bA h rfl (ay (ac (aG.of_own s 0 rfl) 0 (rfl)) h gO rfl rfl fun f h=>az ab 1 h rfl fun f h=>bA h rfl (bj (aG.subL (aG.of_own s 1 rfl) 1 32 (D:=aA (_)) (cQ _ _)) h aN rfl (by first|exact ai _|exact ah _ _) rfl fun f h=>bA h rfl (au h (dA d8) rfl fun f h=>bA h rfl (au h (cn d8 (h.ev rfl) (h.ev rfl)) rfl fun f h=>bA h rfl (aY h eF (fun w9 hE9=>bG (.bool false) (bW _ _ _ w9) (congrArg Value.bool h1)) rfl rfl fun f h=>az ab 66 h rfl fun f h=>cj s fun w1 s=>nt (wpIn_ret (aH rfl h s rfl (by show _=_;unfold bD;rw [h0,h1];rfl))))))))
  ·skip
   cases h2:(c2 m:Bool)
   ·refine az ab 2 h rfl fun f h=>bA h rfl (ay (ac (aG.of_own s 0 rfl) 0 (rfl)) h gO rfl rfl fun f h=>az ab 1 h rfl fun f h=>bA h rfl (bj (aG.subL (aG.of_own s 1 rfl) 1 32 (D:=aA (_)) (cQ _ _)) h aN rfl (by first|exact ai _|exact ah _ _) rfl fun f h=>bA h rfl (au h (dA d8) rfl fun f h=>bA h rfl (au h (cn d8 (h.ev rfl) (h.ev rfl)) rfl fun f h=>bA h rfl (aY h eF (fun w9 hE9=>bG (.bool true) (bW _ _ _ w9) (congrArg Value.bool h1)) rfl rfl fun f h=>az ab 3 h rfl fun f h=>bA h rfl (ay (ac (aG.of_own s 0 rfl) 1 (rfl)) h gO rfl rfl fun f h=>az ab 1 h rfl fun f h=>bA h rfl (bj (aG.subL (aG.of_own s 1 rfl) 33 34 (D:=bg (_)) (cI _ _)) h bY rfl (aC _) rfl fun f h=>bA h rfl (aY h oU (fun w9 hE9=>lB _ w9) rfl rfl fun f h=>az ab 1 h rfl fun f h=>bA h rfl (bj (aG.subL (aG.of_own s 1 rfl) 33 34 (D:=bg (_)) (cI _ _)) h bY rfl (aC _) rfl fun f h=>bA h rfl (au h (gm yf) rfl fun f h=>bA h rfl (au h (fU (xP _ _) (by kernel_rfl) (by decide) (h.ev rfl) (h.ev rfl) (decide (m.t=(0,0#256,0))) (BR _ _)) rfl fun f h=>bA h rfl (aY h eF (fun w9 hE9=>bG (.bool false) (bW _ _ _ w9) (congrArg Value.bool h2)) rfl rfl fun f h=>az ab 54 h rfl fun f h=>cj s fun w1 s=>nt (wpIn_ret (aH rfl h s rfl (by show _=_;unfold bD;rw [h0,h1,h2];rfl)))))))))))))))
   ·skip
    cases h3:(c3 m:Bool)
    ·refine az ab 2 h rfl fun f h=>bA h rfl (ay (ac (aG.of_own s 0 rfl) 0 (rfl)) h gO rfl rfl fun f h=>az ab 1 h rfl fun f h=>bA h rfl (bj (aG.subL (aG.of_own s 1 rfl) 1 32 (D:=aA (_)) (cQ _ _)) h aN rfl (by first|exact ai _|exact ah _ _) rfl fun f h=>bA h rfl (au h (dA d8) rfl fun f h=>bA h rfl (au h (cn d8 (h.ev rfl) (h.ev rfl)) rfl fun f h=>bA h rfl (aY h eF (fun w9 hE9=>bG (.bool true) (bW _ _ _ w9) (congrArg Value.bool h1)) rfl rfl fun f h=>az ab 3 h rfl fun f h=>bA h rfl (ay (ac (aG.of_own s 0 rfl) 1 (rfl)) h gO rfl rfl fun f h=>az ab 1 h rfl fun f h=>bA h rfl (bj (aG.subL (aG.of_own s 1 rfl) 33 34 (D:=bg (_)) (cI _ _)) h bY rfl (aC _) rfl fun f h=>bA h rfl (aY h oU (fun w9 hE9=>lB _ w9) rfl rfl fun f h=>az ab 1 h rfl fun f h=>bA h rfl (bj (aG.subL (aG.of_own s 1 rfl) 33 34 (D:=bg (_)) (cI _ _)) h bY rfl (aC _) rfl fun f h=>bA h rfl (au h (gm yf) rfl fun f h=>bA h rfl (au h (fU (xP _ _) (by kernel_rfl) (by decide) (h.ev rfl) (h.ev rfl) (decide (m.t=(0,0#256,0))) (BR _ _)) rfl fun f h=>bA h rfl (aY h eF (fun w9 hE9=>bG (.bool true) (bW _ _ _ w9) (congrArg Value.bool h2)) rfl rfl fun f h=>az ab 3 h rfl fun f h=>bA h rfl (ay (ac (aG.of_own s 0 rfl) 2 (rfl)) h gO rfl rfl fun f h=>az ab 1 h rfl fun f h=>bA h rfl (ay (ac (aG.of_own s 1 rfl) 67 (dq _ _)) h cG rfl rfl fun f h=>bA h rfl (aY h rQ (fun w9 hE9=>gS m.l _ w9 (hv.keep (s.ext.trans hE9)) hln) rfl rfl fun f h=>az ab 1 h rfl fun f h=>bA h rfl (ay (ac (aG.of_own s 1 rfl) 67 (dq _ _)) h cG rfl rfl fun f h=>bA h rfl (au h (jf (hv.keep s.ext) Tryz.underlying29 (h.ev rfl)) rfl fun f h=>bA h rfl (au h (aV (.bool (decide (m.l.length=0))) (kz (h.ev rfl) (h.ev rfl)) (congrArg Value.bool (by simp))) rfl fun f h=>bA h rfl (aY h eF (fun w9 hE9=>bG (.bool false) (bW _ _ _ w9) (congrArg Value.bool h3)) rfl rfl fun f h=>az ab 42 h rfl fun f h=>cj s fun w1 s=>nt (wpIn_ret (aH rfl h s rfl (by show _=_;unfold bD;rw [h0,h1,h2,h3];rfl))))))))))))))))))))))
    ·skip
     cases h4:(c4 m:Bool)
     ·skip
      refine az ab 2 h rfl fun f h=>bA h rfl (ay (ac (aG.of_own s 0 rfl) 0 (rfl)) h gO rfl rfl fun f h=>az ab 1 h rfl fun f h=>bA h rfl (bj (aG.subL (aG.of_own s 1 rfl) 1 32 (D:=aA (_)) (cQ _ _)) h aN rfl (by first|exact ai _|exact ah _ _) rfl fun f h=>bA h rfl (au h (dA d8) rfl fun f h=>bA h rfl (au h (cn d8 (h.ev rfl) (h.ev rfl)) rfl fun f h=>bA h rfl (aY h eF (fun w9 hE9=>bG (.bool true) (bW _ _ _ w9) (congrArg Value.bool h1)) rfl rfl fun f h=>az ab 3 h rfl fun f h=>bA h rfl (ay (ac (aG.of_own s 0 rfl) 1 (rfl)) h gO rfl rfl fun f h=>az ab 1 h rfl fun f h=>bA h rfl (bj (aG.subL (aG.of_own s 1 rfl) 33 34 (D:=bg (_)) (cI _ _)) h bY rfl (aC _) rfl fun f h=>bA h rfl (aY h oU (fun w9 hE9=>lB _ w9) rfl rfl fun f h=>az ab 1 h rfl fun f h=>bA h rfl (bj (aG.subL (aG.of_own s 1 rfl) 33 34 (D:=bg (_)) (cI _ _)) h bY rfl (aC _) rfl fun f h=>bA h rfl (au h (gm yf) rfl fun f h=>bA h rfl (au h (fU (xP _ _) (by kernel_rfl) (by decide) (h.ev rfl) (h.ev rfl) (decide (m.t=(0,0#256,0))) (BR _ _)) rfl fun f h=>bA h rfl (aY h eF (fun w9 hE9=>bG (.bool true) (bW _ _ _ w9) (congrArg Value.bool h2)) rfl rfl fun f h=>az ab 3 h rfl fun f h=>bA h rfl (ay (ac (aG.of_own s 0 rfl) 2 (rfl)) h gO rfl rfl fun f h=>az ab 1 h rfl fun f h=>bA h rfl (ay (ac (aG.of_own s 1 rfl) 67 (dq _ _)) h cG rfl rfl fun f h=>bA h rfl (aY h rQ (fun w9 hE9=>gS m.l _ w9 (hv.keep (s.ext.trans hE9)) hln) rfl rfl fun f h=>az ab 1 h rfl fun f h=>bA h rfl (ay (ac (aG.of_own s 1 rfl) 67 (dq _ _)) h cG rfl rfl fun f h=>bA h rfl (au h (jf (hv.keep s.ext) Tryz.underlying29 (h.ev rfl)) rfl fun f h=>bA h rfl (au h (aV (.bool (decide (m.l.length=0))) (kz (h.ev rfl) (h.ev rfl)) (congrArg Value.bool (by simp))) rfl fun f h=>bA h rfl (aY h eF (fun w9 hE9=>bG (.bool true) (bW _ _ _ w9) (congrArg Value.bool h3)) rfl rfl fun f h=>az ab 3 h rfl fun f h=>bA h rfl (ay (ac (aG.of_own s 0 rfl) 3 (rfl)) h gO rfl rfl fun f h=>az ab 1 h rfl fun f h=>bA h rfl (ay (ac (aG.of_own s 1 rfl) 68 (ee _ _)) h bo rfl rfl fun f h=>bA h rfl (FD ab h rfl (fun hn f h=>?_) (fun hn f h=>?_)))))))))))))))))))))))
      ·refine az ab 6 h rfl fun f h=>bA h rfl (ay (ac (aG.of_own s 1 rfl) 68 (ee _ _)) h bo rfl rfl fun f h=>az ab 1 h rfl fun f h=>bA h rfl (aY h eF (fun w9 hE9=>bG (.bool false) (bW _ _ _ w9) (congrArg Value.bool (Eq.trans (by unfold c4;rw [hn];rfl) h4))) rfl rfl fun f h=>az ab 26 h rfl fun f h=>cj s fun w1 s=>nt (wpIn_ret (aH rfl h s rfl (by show _=_;unfold bD;rw [h0,h1,h2,h3,h4];rfl)))))
      ·refine az ab 2 h rfl fun f h=>bA h rfl (ay (ac (aG.of_own s 1 rfl) 68 (ee _ _)) h bo rfl rfl fun f h=>az ab 3 h rfl fun f h=>bA h rfl (ay (ac (aG.of_own s 1 rfl) 68 (ee _ _)) h bo rfl rfl fun f h=>az ab 1 h rfl fun f h=>bA h rfl (aY h eF (fun w9 hE9=>bG (.bool false) (bW _ _ _ w9) (congrArg Value.bool (Eq.trans (by unfold c4;rw [hn];rfl) h4))) rfl rfl fun f h=>az ab 26 h rfl fun f h=>cj s fun w1 s=>nt (wpIn_ret (aH rfl h s rfl (by show _=_;unfold bD;rw [h0,h1,h2,h3,h4];rfl))))))
     ·skip
      cases h5:(c5 m:Bool)
      ·refine az ab 2 h rfl fun f h=>bA h rfl (ay (ac (aG.of_own s 0 rfl) 0 (rfl)) h gO rfl rfl fun f h=>az ab 1 h rfl fun f h=>bA h rfl (bj (aG.subL (aG.of_own s 1 rfl) 1 32 (D:=aA (_)) (cQ _ _)) h aN rfl (by first|exact ai _|exact ah _ _) rfl fun f h=>bA h rfl (au h (dA d8) rfl fun f h=>bA h rfl (au h (cn d8 (h.ev rfl) (h.ev rfl)) rfl fun f h=>bA h rfl (aY h eF (fun w9 hE9=>bG (.bool true) (bW _ _ _ w9) (congrArg Value.bool h1)) rfl rfl fun f h=>az ab 3 h rfl fun f h=>bA h rfl (ay (ac (aG.of_own s 0 rfl) 1 (rfl)) h gO rfl rfl fun f h=>az ab 1 h rfl fun f h=>bA h rfl (bj (aG.subL (aG.of_own s 1 rfl) 33 34 (D:=bg (_)) (cI _ _)) h bY rfl (aC _) rfl fun f h=>bA h rfl (aY h oU (fun w9 hE9=>lB _ w9) rfl rfl fun f h=>az ab 1 h rfl fun f h=>bA h rfl (bj (aG.subL (aG.of_own s 1 rfl) 33 34 (D:=bg (_)) (cI _ _)) h bY rfl (aC _) rfl fun f h=>bA h rfl (au h (gm yf) rfl fun f h=>bA h rfl (au h (fU (xP _ _) (by kernel_rfl) (by decide) (h.ev rfl) (h.ev rfl) (decide (m.t=(0,0#256,0))) (BR _ _)) rfl fun f h=>bA h rfl (aY h eF (fun w9 hE9=>bG (.bool true) (bW _ _ _ w9) (congrArg Value.bool h2)) rfl rfl fun f h=>az ab 3 h rfl fun f h=>bA h rfl (ay (ac (aG.of_own s 0 rfl) 2 (rfl)) h gO rfl rfl fun f h=>az ab 1 h rfl fun f h=>bA h rfl (ay (ac (aG.of_own s 1 rfl) 67 (dq _ _)) h cG rfl rfl fun f h=>bA h rfl (aY h rQ (fun w9 hE9=>gS m.l _ w9 (hv.keep (s.ext.trans hE9)) hln) rfl rfl fun f h=>az ab 1 h rfl fun f h=>bA h rfl (ay (ac (aG.of_own s 1 rfl) 67 (dq _ _)) h cG rfl rfl fun f h=>bA h rfl (au h (jf (hv.keep s.ext) Tryz.underlying29 (h.ev rfl)) rfl fun f h=>bA h rfl (au h (aV (.bool (decide (m.l.length=0))) (kz (h.ev rfl) (h.ev rfl)) (congrArg Value.bool (by simp))) rfl fun f h=>bA h rfl (aY h eF (fun w9 hE9=>bG (.bool true) (bW _ _ _ w9) (congrArg Value.bool h3)) rfl rfl fun f h=>az ab 3 h rfl fun f h=>bA h rfl (ay (ac (aG.of_own s 0 rfl) 3 (rfl)) h gO rfl rfl fun f h=>az ab 1 h rfl fun f h=>bA h rfl (ay (ac (aG.of_own s 1 rfl) 68 (ee _ _)) h bo rfl rfl fun f h=>bA h rfl (qu ab h rfl (decide_eq_true (AY h4)) fun f h=>az ab 2 h rfl fun f h=>bA h rfl (ay (ac (aG.of_own s 1 rfl) 68 (ee _ _)) h bo rfl rfl fun f h=>az ab 3 h rfl fun f h=>bA h rfl (ay (ac (aG.of_own s 1 rfl) 68 (ee _ _)) h bo rfl rfl fun f h=>az ab 1 h rfl fun f h=>bA h rfl (aY h eF (fun w9 hE9=>bG (.bool true) (bW _ _ _ w9) (congrArg Value.bool (Eq.trans (by unfold c4;rw [decide_eq_true (AY h4)];rfl) h4))) rfl rfl fun f h=>az ab 3 h rfl fun f h=>bA h rfl (ay (ac (aG.of_own s 0 rfl) 4 (rfl)) h gO rfl rfl fun f h=>az ab 1 h rfl fun f h=>bA h rfl (ay (ac (aG.of_own s 1 rfl) 69 (eW _ _)) h dG rfl rfl fun f h=>bA h rfl (au h (ct Tryz.underlying9 (h.ev rfl)) rfl fun f h=>bA h rfl (au h (aV (.bool (decide (m.o.size=16))) (kz (h.ev rfl) (h.ev rfl)) (congrArg Value.bool (by rw [decide_eq_decide];omega))) rfl fun f h=>az ab 1 h rfl fun f h=>bA h rfl (ay (ac (aG.of_own s 1 rfl) 69 (eW _ _)) h dG rfl rfl fun f h=>bA h rfl (au h (cS (h.ev rfl) (h.ev rfl)) rfl fun f h=>bA h rfl (aY h eF (fun w9 hE9=>bG (.bool false) (bW _ _ _ w9) (congrArg Value.bool h5)) rfl rfl fun f h=>az ab 14 h rfl fun f h=>cj s fun w1 s=>nt (wpIn_ret (aH rfl h s rfl (by show _=_;unfold bD;rw [h0,h1,h2,h3,h4,h5];rfl)))))))))))))))))))))))))))))))))))
      ·skip
       cases h6:(c6 m:Bool)
       ·refine az ab 2 h rfl fun f h=>bA h rfl (ay (ac (aG.of_own s 0 rfl) 0 (rfl)) h gO rfl rfl fun f h=>az ab 1 h rfl fun f h=>bA h rfl (bj (aG.subL (aG.of_own s 1 rfl) 1 32 (D:=aA (_)) (cQ _ _)) h aN rfl (by first|exact ai _|exact ah _ _) rfl fun f h=>bA h rfl (au h (dA d8) rfl fun f h=>bA h rfl (au h (cn d8 (h.ev rfl) (h.ev rfl)) rfl fun f h=>bA h rfl (aY h eF (fun w9 hE9=>bG (.bool true) (bW _ _ _ w9) (congrArg Value.bool h1)) rfl rfl fun f h=>az ab 3 h rfl fun f h=>bA h rfl (ay (ac (aG.of_own s 0 rfl) 1 (rfl)) h gO rfl rfl fun f h=>az ab 1 h rfl fun f h=>bA h rfl (bj (aG.subL (aG.of_own s 1 rfl) 33 34 (D:=bg (_)) (cI _ _)) h bY rfl (aC _) rfl fun f h=>bA h rfl (aY h oU (fun w9 hE9=>lB _ w9) rfl rfl fun f h=>az ab 1 h rfl fun f h=>bA h rfl (bj (aG.subL (aG.of_own s 1 rfl) 33 34 (D:=bg (_)) (cI _ _)) h bY rfl (aC _) rfl fun f h=>bA h rfl (au h (gm yf) rfl fun f h=>bA h rfl (au h (fU (xP _ _) (by kernel_rfl) (by decide) (h.ev rfl) (h.ev rfl) (decide (m.t=(0,0#256,0))) (BR _ _)) rfl fun f h=>bA h rfl (aY h eF (fun w9 hE9=>bG (.bool true) (bW _ _ _ w9) (congrArg Value.bool h2)) rfl rfl fun f h=>az ab 3 h rfl fun f h=>bA h rfl (ay (ac (aG.of_own s 0 rfl) 2 (rfl)) h gO rfl rfl fun f h=>az ab 1 h rfl fun f h=>bA h rfl (ay (ac (aG.of_own s 1 rfl) 67 (dq _ _)) h cG rfl rfl fun f h=>bA h rfl (aY h rQ (fun w9 hE9=>gS m.l _ w9 (hv.keep (s.ext.trans hE9)) hln) rfl rfl fun f h=>az ab 1 h rfl fun f h=>bA h rfl (ay (ac (aG.of_own s 1 rfl) 67 (dq _ _)) h cG rfl rfl fun f h=>bA h rfl (au h (jf (hv.keep s.ext) Tryz.underlying29 (h.ev rfl)) rfl fun f h=>bA h rfl (au h (aV (.bool (decide (m.l.length=0))) (kz (h.ev rfl) (h.ev rfl)) (congrArg Value.bool (by simp))) rfl fun f h=>bA h rfl (aY h eF (fun w9 hE9=>bG (.bool true) (bW _ _ _ w9) (congrArg Value.bool h3)) rfl rfl fun f h=>az ab 3 h rfl fun f h=>bA h rfl (ay (ac (aG.of_own s 0 rfl) 3 (rfl)) h gO rfl rfl fun f h=>az ab 1 h rfl fun f h=>bA h rfl (ay (ac (aG.of_own s 1 rfl) 68 (ee _ _)) h bo rfl rfl fun f h=>bA h rfl (qu ab h rfl (decide_eq_true (AY h4)) fun f h=>az ab 2 h rfl fun f h=>bA h rfl (ay (ac (aG.of_own s 1 rfl) 68 (ee _ _)) h bo rfl rfl fun f h=>az ab 3 h rfl fun f h=>bA h rfl (ay (ac (aG.of_own s 1 rfl) 68 (ee _ _)) h bo rfl rfl fun f h=>az ab 1 h rfl fun f h=>bA h rfl (aY h eF (fun w9 hE9=>bG (.bool true) (bW _ _ _ w9) (congrArg Value.bool (Eq.trans (by unfold c4;rw [decide_eq_true (AY h4)];rfl) h4))) rfl rfl fun f h=>az ab 3 h rfl fun f h=>bA h rfl (ay (ac (aG.of_own s 0 rfl) 4 (rfl)) h gO rfl rfl fun f h=>az ab 1 h rfl fun f h=>bA h rfl (ay (ac (aG.of_own s 1 rfl) 69 (eW _ _)) h dG rfl rfl fun f h=>bA h rfl (au h (ct Tryz.underlying9 (h.ev rfl)) rfl fun f h=>bA h rfl (au h (aV (.bool (decide (m.o.size=16))) (kz (h.ev rfl) (h.ev rfl)) (congrArg Value.bool (by rw [decide_eq_decide];omega))) rfl fun f h=>az ab 1 h rfl fun f h=>bA h rfl (ay (ac (aG.of_own s 1 rfl) 69 (eW _ _)) h dG rfl rfl fun f h=>bA h rfl (au h (cS (h.ev rfl) (h.ev rfl)) rfl fun f h=>bA h rfl (aY h eF (fun w9 hE9=>bG (.bool true) (bW _ _ _ w9) (congrArg Value.bool h5)) rfl rfl fun f h=>az ab 3 h rfl fun f h=>bA h rfl (ay (ac (aG.of_own s 0 rfl) 5 (rfl)) h gO rfl rfl fun f h=>az ab 1 h rfl fun f h=>bA h rfl (ay (ac (aG.of_own s 1 rfl) 70 (fx _ _)) h dG rfl rfl fun f h=>bA h rfl (au h (ct Tryz.underlying9 (h.ev rfl)) rfl fun f h=>bA h rfl (au h (aV (.bool (decide (m.d.size≤64))) (wO (h.ev rfl) (h.ev rfl)) (congrArg Value.bool (by rw [decide_eq_decide];omega))) rfl fun f h=>az ab 1 h rfl fun f h=>bA h rfl (ay (ac (aG.of_own s 1 rfl) 70 (fx _ _)) h dG rfl rfl fun f h=>bA h rfl (au h (cS (h.ev rfl) (h.ev rfl)) rfl fun f h=>bA h rfl (aY h eF (fun w9 hE9=>bG (.bool false) (bW _ _ _ w9) (congrArg Value.bool h6)) rfl rfl fun f h=>az ab 2 h rfl fun f h=>cj s fun w1 s=>nt (wpIn_ret (aH rfl h s rfl (by show _=_;unfold bD;rw [h0,h1,h2,h3,h4,h5,h6];rfl))))))))))))))))))))))))))))))))))))))))))
       ·refine az ab 2 h rfl fun f h=>bA h rfl (ay (ac (aG.of_own s 0 rfl) 0 (rfl)) h gO rfl rfl fun f h=>az ab 1 h rfl fun f h=>bA h rfl (bj (aG.subL (aG.of_own s 1 rfl) 1 32 (D:=aA (_)) (cQ _ _)) h aN rfl (by first|exact ai _|exact ah _ _) rfl fun f h=>bA h rfl (au h (dA d8) rfl fun f h=>bA h rfl (au h (cn d8 (h.ev rfl) (h.ev rfl)) rfl fun f h=>bA h rfl (aY h eF (fun w9 hE9=>bG (.bool true) (bW _ _ _ w9) (congrArg Value.bool h1)) rfl rfl fun f h=>az ab 3 h rfl fun f h=>bA h rfl (ay (ac (aG.of_own s 0 rfl) 1 (rfl)) h gO rfl rfl fun f h=>az ab 1 h rfl fun f h=>bA h rfl (bj (aG.subL (aG.of_own s 1 rfl) 33 34 (D:=bg (_)) (cI _ _)) h bY rfl (aC _) rfl fun f h=>bA h rfl (aY h oU (fun w9 hE9=>lB _ w9) rfl rfl fun f h=>az ab 1 h rfl fun f h=>bA h rfl (bj (aG.subL (aG.of_own s 1 rfl) 33 34 (D:=bg (_)) (cI _ _)) h bY rfl (aC _) rfl fun f h=>bA h rfl (au h (gm yf) rfl fun f h=>bA h rfl (au h (fU (xP _ _) (by kernel_rfl) (by decide) (h.ev rfl) (h.ev rfl) (decide (m.t=(0,0#256,0))) (BR _ _)) rfl fun f h=>bA h rfl (aY h eF (fun w9 hE9=>bG (.bool true) (bW _ _ _ w9) (congrArg Value.bool h2)) rfl rfl fun f h=>az ab 3 h rfl fun f h=>bA h rfl (ay (ac (aG.of_own s 0 rfl) 2 (rfl)) h gO rfl rfl fun f h=>az ab 1 h rfl fun f h=>bA h rfl (ay (ac (aG.of_own s 1 rfl) 67 (dq _ _)) h cG rfl rfl fun f h=>bA h rfl (aY h rQ (fun w9 hE9=>gS m.l _ w9 (hv.keep (s.ext.trans hE9)) hln) rfl rfl fun f h=>az ab 1 h rfl fun f h=>bA h rfl (ay (ac (aG.of_own s 1 rfl) 67 (dq _ _)) h cG rfl rfl fun f h=>bA h rfl (au h (jf (hv.keep s.ext) Tryz.underlying29 (h.ev rfl)) rfl fun f h=>bA h rfl (au h (aV (.bool (decide (m.l.length=0))) (kz (h.ev rfl) (h.ev rfl)) (congrArg Value.bool (by simp))) rfl fun f h=>bA h rfl (aY h eF (fun w9 hE9=>bG (.bool true) (bW _ _ _ w9) (congrArg Value.bool h3)) rfl rfl fun f h=>az ab 3 h rfl fun f h=>bA h rfl (ay (ac (aG.of_own s 0 rfl) 3 (rfl)) h gO rfl rfl fun f h=>az ab 1 h rfl fun f h=>bA h rfl (ay (ac (aG.of_own s 1 rfl) 68 (ee _ _)) h bo rfl rfl fun f h=>bA h rfl (qu ab h rfl (decide_eq_true (AY h4)) fun f h=>az ab 2 h rfl fun f h=>bA h rfl (ay (ac (aG.of_own s 1 rfl) 68 (ee _ _)) h bo rfl rfl fun f h=>az ab 3 h rfl fun f h=>bA h rfl (ay (ac (aG.of_own s 1 rfl) 68 (ee _ _)) h bo rfl rfl fun f h=>az ab 1 h rfl fun f h=>bA h rfl (aY h eF (fun w9 hE9=>bG (.bool true) (bW _ _ _ w9) (congrArg Value.bool (Eq.trans (by unfold c4;rw [decide_eq_true (AY h4)];rfl) h4))) rfl rfl fun f h=>az ab 3 h rfl fun f h=>bA h rfl (ay (ac (aG.of_own s 0 rfl) 4 (rfl)) h gO rfl rfl fun f h=>az ab 1 h rfl fun f h=>bA h rfl (ay (ac (aG.of_own s 1 rfl) 69 (eW _ _)) h dG rfl rfl fun f h=>bA h rfl (au h (ct Tryz.underlying9 (h.ev rfl)) rfl fun f h=>bA h rfl (au h (aV (.bool (decide (m.o.size=16))) (kz (h.ev rfl) (h.ev rfl)) (congrArg Value.bool (by rw [decide_eq_decide];omega))) rfl fun f h=>az ab 1 h rfl fun f h=>bA h rfl (ay (ac (aG.of_own s 1 rfl) 69 (eW _ _)) h dG rfl rfl fun f h=>bA h rfl (au h (cS (h.ev rfl) (h.ev rfl)) rfl fun f h=>bA h rfl (aY h eF (fun w9 hE9=>bG (.bool true) (bW _ _ _ w9) (congrArg Value.bool h5)) rfl rfl fun f h=>az ab 3 h rfl fun f h=>bA h rfl (ay (ac (aG.of_own s 0 rfl) 5 (rfl)) h gO rfl rfl fun f h=>az ab 1 h rfl fun f h=>bA h rfl (ay (ac (aG.of_own s 1 rfl) 70 (fx _ _)) h dG rfl rfl fun f h=>bA h rfl (au h (ct Tryz.underlying9 (h.ev rfl)) rfl fun f h=>bA h rfl (au h (aV (.bool (decide (m.d.size≤64))) (wO (h.ev rfl) (h.ev rfl)) (congrArg Value.bool (by rw [decide_eq_decide];omega))) rfl fun f h=>az ab 1 h rfl fun f h=>bA h rfl (ay (ac (aG.of_own s 1 rfl) 70 (fx _ _)) h dG rfl rfl fun f h=>bA h rfl (au h (cS (h.ev rfl) (h.ev rfl)) rfl fun f h=>bA h rfl (aY h eF (fun w9 hE9=>bG (.bool true) (bW _ _ _ w9) (congrArg Value.bool h6)) rfl rfl fun f h=>az ab 2 h rfl fun f h=>cj s fun w1 s=>nt (wpIn_ret (aH rfl h s rfl (by show _=_;unfold bD;rw [h0,h1,h2,h3,h4,h5,h6];rfl))))))))))))))))))))))))))))))))))))))))))
theorem D8 (n:Nat) (hn:n≤1000) (w:World):Calls Tryz.prog 140 [.slice none 0 0,.int .i64 (n:Int)].toArray w (cp w (fun v w'=>cB w' w.heap.size 28 34 v 0 [])):=by
 refine bF Tryz.func140 rfl Tryz.ntmps140 rfl fun f h s=>bH ab 1 h rfl fun f h=>al (bZ ab 1 h rfl fun f h=>gE ab h rfl (decide_eq_false (by omega)) fun f h=>rH h rfl (al (bZ ab 2 h rfl fun f h=>ae h (kB Tryz.underlying29 (h.ev rfl)) rfl fun f h=>am ab 1 h rfl fun f h=>ae h (kL Tryz.underlying29 (h.ev rfl)) rfl fun f h=>ae h (aV (.int .i64 0) (ea (h.ev rfl) (h.ev rfl) (by omega)) (rfl)) rfl fun f h=>ae h (aV (.int .i64 (n:Int)) (ea (h.ev rfl) (h.ev rfl) (by omega)) (congrArg (Value.int .i64) (by omega))) rfl fun f h=>e9 ab 1 h rfl fun f h=>bH ab 2 h rfl fun f h=>cV h rfl (fun hc=>?_) (fun hc=>?_))))
 ·refine rs ab 2 h rfl fun f h=>ae h (kB Tryz.underlying29 (h.ev rfl)) rfl fun f h=>ae h (ny Tryz.underlying29 fp (h.ev rfl) (h.ev rfl)) rfl fun f h=>am ab 1 h rfl fun f h=>lG (n:=n) (base:=w.heap.size) h Tryz.underlying29 Tryz.underlying3 pm rfl rfl (by omega) (by omega) (by omega) (Nat.le_refl _) rfl fun f w1 v22 xs9 h hE9 hO9=>?_
  replace s:=s.sl_new hE9 hO9
  refine am ab 1 h rfl fun f h=>ae h (kL Tryz.underlying29 (h.ev rfl)) rfl fun f h=>ae h (mD hO9 Tryz.underlying29 fp (h.ev rfl) (h.ev rfl)) rfl fun f h=>e9 ab 1 h rfl fun f h=>bH ab 2 h rfl fun f h=>wpIn_ret (aH rfl h s rfl (hO9.cut0))
 ·refine kt (bH ab 2 h rfl fun f h=>wpIn_ret (aH rfl h s rfl (nN _ _ _ _)))
theorem wQ (vh:Value) (vs:List Value) (ls:List (List cU)) (hls:vs.length=ls.length) (htot:ls.flatten.length≤1000) (hvn:vs.length≤1000) (w:World) (hv:bI w vh 1 vs.length vs) (hr:∀ k,k<vs.length→bI w (vs.getD k undef) 34 (ls.getD k []).length (br (ls.getD k []))):Calls Tryz.prog 130 [vh].toArray w (cp w (fun v w'=>cB w' w.heap.size 28 34 v ls.flatten.length (br ls.flatten))):=by
 refine bF Tryz.func130 rfl Tryz.ntmps130 rfl fun f h s=>bH ab 1 h rfl fun f h=>bH ab 1 h rfl fun f h=>al (bZ ab 1 h rfl fun f h=>dN h (hv.keep s.ext) Tryz.underlying203 rfl rfl fun f h=>e9 ab 1 h rfl fun f h=>wpIn_block (wpIn_loop_ghost (fun nn aa ww=>∃ k:Nat,Sl 36 aa [(0,vh),(3,.int .i64 (((ls.take k).flatten.length:Nat):Int)),(9,vh),(10,.int .i64 (vs.length:Int)),(11,.int .i64 (k:Int))]∧St w [] ww∧nn=vs.length - k∧k≤vs.length) (vs.length - (0)) ⟨0,h.only ⟨rfl,aq rfl rfl,rfl,rfl,aq rfl (by omega),trivial⟩,s.as trivial,rfl,Nat.zero_le _⟩ ?_))
 rintro _ f w1 ⟨k,h,s,hnn,hp0⟩
 refine bH ab 1 h rfl fun f h=>al (cV h rfl (fun hc=>?_) (fun hc=>?_))
 ·refine kt (al (wpIn_block (qr ?_)))
  have hkl:k<vs.length:=by omega
  refine ae h (a7 (hv.keep s.ext) (k) Tryz.underlying203 Ip (h.ev rfl) (h.ev rfl) (by omega) (by omega)) rfl fun f h=>ag ((hv.keep s.ext).el1 (k) (V:=vs.getD k undef) (pQ hkl)) h cG rfl rfl fun f h=>e9 ab 1 h rfl fun f h=>bZ ab 2 h rfl fun f h=>dN h ((hr k hkl).keep s.ext) Tryz.underlying29 rfl rfl fun f h=>?_
  have hk1:=qx ls k (by omega)
  have hk2:=zU ls (k+1)
  refine ae h (a6 (h.ev rfl) (h.ev rfl) (by omega)) rfl fun f h=>e9 ab 1 h rfl fun f h=>bZ ab 1 h rfl fun f h=>gE ab h rfl (decide_eq_false (by omega)) fun f h=>A8 h rfl (wpIn_skip (ba (aE (aF (ae h (a6 (h.ev rfl) (h.ev rfl) (by omega)) rfl fun f h=>e9 ab 1 h rfl fun f h=>?_)))))
  exact ⟨_,by omega,⟨k+1,h.only ⟨rfl,aq rfl (by omega),rfl,rfl,aq rfl (by omega),trivial⟩,St.as s trivial,rfl,by omega⟩⟩
 ·refine wpIn_exit (aU (aU (bR (aE (qr ?_)))))
  obtain rfl:k=vs.length:=by omega
  refine qh ab (.int .i64 ((ls.flatten.length:Nat):Int)) h rfl (by rw [hls,List.take_length]) rfl fun f h=>bq h s Kf (D8 ls.flatten.length (by omega) _) rfl rfl ?_;intro f w1 v24 hT hE h sq;replace s:=s.sl_new hE hT
  refine e9 ab 1 h rfl fun f h=>al (bZ ab 1 h rfl fun f h=>dN h (hv.keep s.ext) Tryz.underlying203 rfl rfl fun f h=>e9 ab 1 h rfl fun f h=>wpIn_block (wpIn_loop_ghost (fun nn aa ww=>∃ i:Nat,∃ vb:Value,Sl 36 aa [(0,vh),(6,vb),(25,vh),(26,.int .i64 (vs.length:Int)),(27,.int .i64 (i:Int))]∧St w [.sl vb 28 34 (ls.take i).flatten.length (br (ls.take i).flatten)] ww∧nn=vs.length - i∧i≤vs.length) (vs.length - (0)) ⟨0,v24,h.only ⟨rfl,rfl,rfl,rfl,aq rfl (by omega),trivial⟩,s.as ⟨eJ rfl rfl,trivial⟩,rfl,Nat.zero_le _⟩ ?_))
  rintro _ f w1 ⟨i,vb,h,s,hnn,hp0⟩
  refine bH ab 1 h rfl fun f h=>al (cV h rfl (fun hc=>?_) (fun hc=>?_))
  ·refine kt (al (wpIn_block (qr ?_)))
   have hkl:i<vs.length:=by omega
   have hk1:=qx ls i (by omega)
   have hk2:=zU ls (i+1)
   refine ae h (a7 (hv.keep s.ext) (i) Tryz.underlying203 Ip (h.ev rfl) (h.ev rfl) (by omega) (by omega)) rfl fun f h=>ag ((hv.keep s.ext).el1 (i) (V:=vs.getD i undef) (pQ hkl)) h cG rfl rfl fun f h=>e9 ab 1 h rfl fun f h=>rs ab 2 h rfl fun f h=>i9 0 ((hr i hkl).keep s.ext) h s Tryz.underlying29 pm rfl rfl rfl (lA _) (by unfold maxLen;omega) (by omega) rfl fun f w1 v33 h s=>am ab 1 h rfl fun f h=>av (ba (aE (aF (ae h (a6 (h.ev rfl) (h.ev rfl) (by omega)) rfl fun f h=>e9 ab 1 h rfl fun f h=>?_))))
   exact ⟨_,by omega,⟨i+1,v33,h.only ⟨rfl,rfl,rfl,rfl,aq rfl (by omega),trivial⟩,St.as s ⟨eJ (qx ls i (by omega)) (wA ls i (by omega)),trivial⟩,rfl,by omega⟩⟩
  ·refine wpIn_exit (aU (aU (bR (aE (bH ab 2 h rfl fun f h=>wpIn_ret (aH rfl h s rfl (wP (by omega) (s.getSl 0 rfl))))))))
theorem By (l m:List cU) (vh vu:Value) (w:World) (hv:bI w vh 34 l.length (br l)) (hu:bI w vu 34 m.length (br m)) (hln:l.length≤1000000) (hmn:m.length≤1000000):Calls Tryz.prog 115 [vh,vu].toArray w (cp w (fun v w'=>∃ vs,v=.tuple #[vs,.int .i64 (iy l m)]∧cB w' w.heap.size 28 34 vs (ld l m).length (br (ld l m)))):=by
 refine bF Tryz.func115 rfl Tryz.ntmps115 rfl fun f h s=>bH ab 2 h rfl fun f h=>al (al ?_)
 refine rs ab 1 h rfl fun f h=>gg h s zI (pD m vu _ (hu.keep s.ext) hmn) rfl rfl (fun hf f w1 h s=>?_) (fun hf f w1 h s=>?_)
 ·refine e9 ab 6 h rfl fun f h=>cy h rfl (bH ab 2 h rfl fun f h=>rt (dr rfl h s rfl rfl (qz (Gn hf) (by decide))))
 ·skip
  cases hl:(l.all fK:Bool)
  ·refine am ab 3 h rfl fun f h=>bf h rfl (jm false h s zI (pD l vh _ (hv.keep s.ext) hln) (hl) rfl rfl fun f w1 h s=>e9 ab 2 h rfl fun f h=>cy h rfl (bH ab 2 h rfl fun f h=>rt (dr rfl h s rfl rfl (qz (Hu hl) (by decide)))))
  ·refine am ab 3 h rfl fun f h=>bf h rfl (bq h s zI (bG (.bool true) (pD l vh _ (hv.keep s.ext) hln) (congrArg Value.bool hl)) rfl rfl ?_);intro f w1 v9 hT hE h s;obtain rfl:=hT
   refine e9 ab 2 h rfl fun f h=>iU h rfl (al (bZ ab 1 h rfl fun f h=>dN h (hu.keep s.ext) Tryz.underlying29 rfl rfl fun f h=>am ab 1 h rfl fun f h=>dN h (hv.keep s.ext) Tryz.underlying29 rfl rfl fun f h=>ae h (a6 (h.ev rfl) (h.ev rfl) (by omega)) rfl fun f h=>e9 ab 1 h rfl fun f h=>cV h rfl (fun hc=>?_) (fun hc=>?_)))
   ·have h4:=hc
    refine bH ab 2 h rfl fun f h=>rt (dr rfl h s rfl rfl (qz (El hf hl h4) (by decide)))
   ·have h4:=hc
    refine kt (bZ ab 2 h rfl fun f h=>bn (vs:=[vu,vh]) [.tmp 20,.tmp 21] h s Tryz.underlying203 Nr rfl rfl (by intro v hv9;simp only [List.mem_cons,List.not_mem_nil,or_false] at hv9;rcases hv9 with rfl|rfl;exact congrArg Array.size (nh hu);exact congrArg Array.size (nh hv)) rfl rfl rfl fun f w1 v22 h s=>?_)
    have s:=s.as (B':=[.sl v22 29 1 2 [vu,vh]]) ⟨eJ rfl (Ca (nh hu) (nh hv)),trivial⟩
    refine bq h s IN (wQ v22 [vu,vh] [m,l] rfl (by simp;omega) (by simp) _ (bI.of_own (s.getSl 0 rfl)) (IZ (hu.keep s.ext) (hv.keep s.ext))) rfl rfl ?_;intro f w1 v23 hT hE h sq;replace s:=s.sl_new hE hT
    refine e9 ab 2 h rfl fun f h=>wpIn_ret (dr rfl h s rfl rfl (uB (th hf hl h4) (by rw [zi (th hf hl h4)];have h9:=s.getSl 0 rfl;rw [show [m,l].flatten=m++l from by simp] at h9;exact h9)))
theorem xZ (p:Pk) (vs:Value) (w:World) (hP:bI w vs 34 p.1.length (br p.1)) (hpl:p.1.length≤1000):Calls Tryz.prog 96 [.agg (bO vs p.2.1 p.2.2)].toArray w (cp w (is (.bool (eK p)))):=by
 refine bF Tryz.func96 rfl Tryz.ntmps96 rfl fun f h s=>qr (aZ (bO vs p.2.1 p.2.2) h s rfl rfl rfl fun f w1 b1 h s=>e9 ab 1 h rfl fun f h=>al ?_)
 refine rs ab 1 h rfl fun f h=>ag (V:=vs) (ac (aG.of_own s 0 rfl) 0 (rK _ _ _)) h cG rfl rfl fun f h=>gg h s rQ (gS p.1 vs _ (hP.keep s.ext) (by omega)) rfl rfl (fun h0 f w1 h s=>?_) (fun h0 f w1 h s=>?_)
 ·refine e9 ab 17 h rfl fun f h=>wpIn_ret (aH rfl h s rfl (by show _=_;unfold eK;rw [h0]<;>rfl))
 ·skip
  refine am ab 2 h rfl fun f h=>bf h rfl (ag (V:=.int .i64 p.2.1) (ac (aG.of_own s 0 rfl) 1 (rJ _ _ _)) h bo rfl rfl fun f h=>bf h rfl (cZ ab h rfl (fun h1 f h=>?_) (fun h1 f h=>?_)))
  ·refine e9 ab 13 h rfl fun f h=>wpIn_ret (aH rfl h s rfl (by show _=_;unfold eK;rw [h0,h1]<;>rfl))
  ·skip
   refine am ab 3 h rfl fun f h=>bf h rfl (ag (V:=.int .i64 p.2.1) (ac (aG.of_own s 0 rfl) 1 (rJ _ _ _)) h bo rfl rfl fun f h=>bf h rfl (cZ ab h rfl (fun h2 f h=>?_) (fun h2 f h=>?_)))
   ·refine e9 ab 8 h rfl fun f h=>wpIn_ret (aH rfl h s rfl (by show _=_;unfold eK;rw [h0,h1,h2]<;>rfl))
   ·refine am ab 3 h rfl fun f h=>bf h rfl (ag (V:=.string p.2.2) (ac (aG.of_own s 0 rfl) 2 (A9 _ _ _)) h dG rfl rfl fun f h=>bf h rfl (ae h (ct Tryz.underlying9 (h.ev rfl)) rfl fun f h=>bf h rfl (qh ab (.bool (decide (p.2.2.size≤64))) h rfl (congrArg Value.bool (decide_eq_decide.2 (by omega))) rfl fun f h=>e9 ab 2 h rfl fun f h=>wpIn_ret (aH rfl h s rfl (by show _=_;unfold eK;rw [h0,h1,h2]<;>rfl)))))
theorem pb (n:Int) (d:ByteArray) (rs fr:List cU) (vr vf:Value) (w:World) (hR:bI w vr 34 rs.length (br rs)) (hF:bI w vf 34 fr.length (br fr)) (hre:rs.all fK=true) (hfe:fr.all fK=true) (h4:fr.length+rs.length≤4):Calls Tryz.prog 97 [.int .i64 n,.string d,vr,vf].toArray w (cp w (fun v w'=>∃ u,v=.agg (bO u n d)∧cB w' w.heap.size 28 34 u (fr++rs).length (br (fr++rs)))):=by
 refine bF Tryz.func97 rfl Tryz.ntmps97 rfl fun f h s=>qr (aK (bO aI 0 ByteArray.empty) h s sM rfl rfl fun f w1 b8 h s=>nt (bZ ab 2 h rfl fun f h=>bq h s Jh (By rs fr vr vf _ (hR.keep s.ext) (hF.keep s.ext) (by omega) (by omega)) rfl rfl ?_));rintro f w1 v14 ⟨vx,rfl,hvx⟩ hE h sq
 rw [zi (th hfe hre (by omega))] at hvx
 replace s:=s.sl_new hE hvx
 refine e9 ab 5 h rfl fun f h=>bZ ab 3 h rfl fun f h=>ae h (iD E3 (gx (bI.of_own (s.getSl 0 rfl))) (eR (bI.of_own (s.getSl 0 rfl))) (h.ev rfl) (h.ev rfl) (h.ev rfl)) rfl fun f h=>aj 1 h s fc rfl rfl rfl (cf _ _ _) (cf _ _ _) (kR _ _ (dm (s.getSl 0 rfl))) fun w1 s=>nt (wpIn_ret (cR 1 rfl h s fc rfl rfl (cf _ _ _) (⟨_,rfl,s.getSl 0 rfl⟩)))
theorem sh (y:Int) (w:World):Calls Tryz.prog 98 [.int .i64 y].toArray w (cp w (fun v w'=>cB w' w.heap.size 107 73 v 1 (cb [(dU y,aI)]))):=by
 refine bF Tryz.func98 rfl Tryz.ntmps98 rfl fun f h s=>bH ab 1 h rfl fun f h=>bZ ab 1 h rfl fun f h=>ae h (gX wG rfl (h.ev rfl)) rfl fun f h=>bn (vs:=[.agg (cu 3 0 aI 0 ByteArray.empty aW y)]) [.tmp 4] h s Tryz.underlying104 fJ rfl rfl (n4 (dU y,aI)) rfl rfl rfl fun f w1 v5 h s=>?_
 replace s:=s.resl (m:=[(dU y,aI)].length) (ys:=cb [(dU y,aI)]) 0 rfl rfl (by exact kG [] (dU y,aI))
 refine e9 ab 1 h rfl fun f h=>wpIn_ret (aH rfl h s rfl (s.getSl 0 rfl))
theorem pj (p:Pk) (vs:Value) (b:Tg) (fr:List cU) (vf:Value) (w:World) (hP:bI w vs 34 p.1.length (br p.1)) (hpl:p.1.length≤1000) (hea:p.1.all fK=true) (h1:1≤p.1.length) (h41:p.1.length≤4) (hh:0≤p.2.1∧p.2.1≤64) (hFr:bI w vf 34 fr.length (br fr)) (hfe:fr.all fK=true) (hfl:fr.length≤1):Calls Tryz.prog 101 [.agg (bO vs p.2.1 p.2.2),.agg (aB b),vf].toArray w (cp w (fun v w'=>∃ u,v=.agg (cu 2 0 u (p.2.1 - 1) p.2.2 b 0)∧cB w' w.heap.size 28 34 u (fr++p.1.drop 1).length (br (fr++p.1.drop 1)))):=by
 have hD:dM w (eg vs 34 1) (p.1.drop 1):=oh hP 1 (by omega)
 refine bF Tryz.func101 rfl Tryz.ntmps101 rfl fun f h s=>qr (aZ (bO vs p.2.1 p.2.2) h s rfl rfl rfl fun f w1 b3 h s=>aZ (aB b) h s rfl rfl rfl fun f w1 b4 h s=>aK (cu 0 0 aI 0 ByteArray.empty aW 0) h s pK rfl rfl fun f w1 b6 h s=>nt (al (ka 0 12 [[],[0],[0,1],[],[3],[],[5],[5,6],[],[0,1,2,3,4,5,6,7,8],[],[0,1,2,3,4,5,6,7,8,9,10],[0,1,2,3,4,5,6,7,8,9,10,11]] [[],[],[],[],[],[],[],[],[],[],[],[],[]] [] [.v _,.v (.int .i64 p.2.1),.v (.int .i64 (p.2.1 - 1)),.v _,.v (.string p.2.2),.v _,.v vs,.v (eg vs 34 1),.v _,.r (fun v=>[.sl (nY (v 9)) 28 34 (fr++p.1.drop 1).length (br (fr++p.1.drop 1))]) (fun v=>v 9=.agg (bO (nY (v 9)) (p.2.1 - 1) p.2.2)),.v (.agg (aB b)),.f (fun v=>v 11=.agg (cu 2 0 (nY (v 9)) (p.2.1 - 1) p.2.2 b 0)),.n] _ h s rfl (by kernel_rfl) (by kernel_rfl) (by kernel_rfl) (iz ab h rfl rfl rfl (cF ?_ (cF ?_ (iz ab h rfl rfl rfl (cF ?_ (iz ab h rfl rfl rfl (cF ?_ (cF ?_ (iz ab h rfl rfl rfl (cF ?_ (cF ?_ (cF ?_ (trivial))))))))))))) [0,1,2,3,4,5,6,7,8,9,10,11] (by kernel_rfl) ?_)))
 ·intro f9 w2 vl1 E9 hs9 hd9 hl hF s
  have h:=dh [(7,_)] h hs9 hd9 ⟨bu hl 7 0 (by kernel_rfl) (hF 0 (by decide)),trivial⟩
  refine ag (V:=.int .i64 p.2.1) (ac (aG.of_own s 2 rfl) 1 (rJ _ _ _)) h bo rfl rfl fun f h=>av ⟨_,bw 8 h rfl rfl,rfl,s⟩
 ·intro f9 w2 vl1 E9 hs9 hd9 hl hF s
  have h:=dh [(8,_)] h hs9 hd9 ⟨bu hl 8 1 (by kernel_rfl) (hF 1 (by decide)),trivial⟩
  refine ae h (ea (h.ev rfl) (h.ev rfl) (by omega)) rfl fun f h=>av ⟨_,bw 9 h rfl rfl,rfl,s⟩
 ·intro f9 w2 vl1 E9 hs9 hd9 hl hF s
  have h:=dh [(10,_)] h hs9 hd9 ⟨bu hl 10 3 (by kernel_rfl) (hF 3 (by decide)),trivial⟩
  refine ag (V:=.string p.2.2) (ac (aG.of_own s 2 rfl) 2 (A9 _ _ _)) h dG rfl rfl fun f h=>av ⟨_,bw 11 h rfl rfl,rfl,s⟩
 ·intro f9 w2 vl1 E9 hs9 hd9 hl hF s
  have h:=dh [(12,_)] h hs9 hd9 ⟨bu hl 12 5 (by kernel_rfl) (hF 5 (by decide)),trivial⟩
  refine ag (V:=vs) (ac (aG.of_own s 2 rfl) 0 (rK _ _ _)) h cG rfl rfl fun f h=>av ⟨_,bw 13 h rfl rfl,rfl,s⟩
 ·intro f9 w2 vl1 E9 hs9 hd9 hl hF s
  have h:=dh [(13,_)] h hs9 hd9 ⟨bu hl 13 6 (by kernel_rfl) (hF 6 (by decide)),trivial⟩
  refine ae h (gq (hP.keep s.ext) (1) Tryz.underlying29 fp (h.ev rfl) (h.ev rfl) (rfl) (by omega)) rfl fun f h=>av ⟨_,bw 14 h rfl rfl,rfl,s⟩
 ·intro f9 w2 vl1 E9 hs9 hd9 hl hF s
  have h:=dh [(9,_),(11,_),(14,_),(15,_)] h hs9 hd9 ⟨bu hl 9 2 (by kernel_rfl) (hF 2 (by decide)),bu hl 11 4 (by kernel_rfl) (hF 4 (by decide)),bu hl 14 7 (by kernel_rfl) (hF 7 (by decide)),bu hl 15 8 (by kernel_rfl) (hF 8 (by decide)),trivial⟩
  refine bq h s H6 (pb (p.2.1 - 1) p.2.2 (p.1.drop 1) fr (eg vs 34 1) vf _ (hD.keep s.ext) (hFr.keep s.ext) (ud hea 1) (hfe) (by rw [List.length_drop];omega)) rfl rfl ?_;rintro f w1 v16 ⟨u9,hv9,hOw⟩ hE h sq
  have h66:u9=(nY v16):=by rw [hv9];exact(CF (bI.of_own hOw) _ _).symm
  subst h66
  replace s:=s.sl_new hE hOw
  clear hOw
  exact av ⟨_,bw 16 h rfl rfl,hv9,s⟩
 ·intro f9 w2 vl1 E9 hs9 hd9 hl hF s
  have h:=dh [(4,_)] h hs9 hd9 ⟨gN hl 4 (by kernel_rfl) (h.holds 4 _ rfl),trivial⟩
  refine ak 1 h s a8 rfl rfl (ao _) rfl fun f h=>av ⟨_,bw 17 h rfl rfl,rfl,s⟩
 ·intro f9 w2 vl1 E9 hs9 hd9 hl hF s
  have h:=dh [(16,.agg (bO (nY (vl1 9)) (p.2.1 - 1) p.2.2)),(17,_)] h hs9 hd9 ⟨bu hl 16 9 (by kernel_rfl) (hF 9 (by decide)),bu hl 17 10 (by kernel_rfl) (hF 10 (by decide)),trivial⟩
  refine ae h (lT wG (A7 _) rfl (h.ev rfl) (h.ev rfl)) rfl fun f h=>av ⟨_,bw 18 h rfl rfl,rfl,s⟩
 intro f w1 vl1 hs9 hd9 hv hr hF s
 replace hv:=fun i d h9=>hv i d (show Nat.blt i 12=true from h9)
 replace h:=kO 12 (ops:=_) [(7,_),(8,_),(9,_),(10,_),(11,_),(12,_),(13,_),(14,_),(15,_),(16,.agg (bO (nY (vl1 9)) (p.2.1 - 1) p.2.2)),(17,_),(18,.agg (cu 2 0 (nY (vl1 9)) (p.2.1 - 1) p.2.2 b 0))] h hs9 hd9 hr ⟨(hv 0 7 rfl rfl).trans (hF 0 rfl),(hv 1 8 rfl rfl).trans (hF 1 rfl),(hv 2 9 rfl rfl).trans (hF 2 rfl),(hv 3 10 rfl rfl).trans (hF 3 rfl),(hv 4 11 rfl rfl).trans (hF 4 rfl),(hv 5 12 rfl rfl).trans (hF 5 rfl),(hv 6 13 rfl rfl).trans (hF 6 rfl),(hv 7 14 rfl rfl).trans (hF 7 rfl),(hv 8 15 rfl rfl).trans (hF 8 rfl),(hv 9 16 rfl rfl).trans (hF 9 rfl),(hv 10 17 rfl rfl).trans (hF 10 rfl),(hv 11 18 rfl rfl).trans (hF 11 rfl),trivial⟩ (by kernel_rfl)
 replace s:St w [.sl (nY (vl1 9)) 28 34 (fr++p.1.drop 1).length (br (fr++p.1.drop 1)),.blk b6 (.cells (cu 0 0 aI 0 ByteArray.empty aW 0) 107),.blk b4 (.cells (aB b) 67),.blk b3 (.cells (bO vs p.2.1 p.2.2) 103)] _:=s
 refine aj 1 h s lJ rfl rfl rfl (dH _ _ _ _ _ _ _) (dH _ _ _ _ _ _ _) (eE _ _ _ _ _ _ (dm (s.getSl 0 rfl))) fun w1 s=>nt (wpIn_ret (cR 1 rfl h s lJ rfl rfl (dH _ _ _ _ _ _ _) (⟨_,rfl,s.getSl 0 rfl⟩)))
set_option maxHeartbeats 2000000 in
theorem uO (M:List Tg) (vm:Value) (p:Pk) (vs:Value) (w:World) (hM:bI w vm 67 M.length (aJ M)) (hMl:M.length≤1000) (hP:bI w vs 34 p.1.length (br p.1)) (hpl:p.1.length≤1000) (hea:p.1.all fK=true) (h1:1≤p.1.length) (h41:p.1.length≤4) (hh:0≤p.2.1∧p.2.1≤64) (hme:∀ y∈M,fK y.2.1=true):Calls Tryz.prog 100 [vm,.agg (bO vs p.2.1 p.2.2)].toArray w (cp w (OV w 107 vs p (M.map (io p)))):=by
 refine bF Tryz.func100 rfl Tryz.ntmps100 rfl fun f h s=>qr (aZ (bO vs p.2.1 p.2.2) h s rfl rfl rfl fun f w1 b3 h s=>e9 ab 1 h rfl fun f h=>bH ab 1 h rfl fun f h=>al (qr ?_))
 replace s:=s.nilSl 107 73
 replace s:=s.grp0 (S:=fun w9=>dM w9 vs p.1→kM [] w9) (fun w9 _=>tC w9)
 refine am ab 1 h rfl fun f h=>dN h (hM.keep s.ext) Tryz.underlying22 rfl rfl fun f h=>e9 ab 1 h rfl fun f h=>wpIn_block (wpIn_loop_ghost (fun nn aa ww=>∃ k:Nat,∃ vb:Value,∃ K:List O2,∃ kg:List Nat,Sl 25 aa [(0,vm),(1,.agg (bO vs p.2.1 p.2.2)),(3,.pointer (some ⟨b3,0,none⟩)),(5,vb),(8,vm),(9,.int .i64 (M.length:Int)),(10,.int .i64 (k:Int))]∧St w [(.grp kg (fun w9=>dM w9 vs p.1→kM K w9)),.sl vb 107 73 K.length (cb K),.blk b3 (.cells (bO vs p.2.1 p.2.2) 103)] ww∧nn=M.length - k∧k≤M.length∧eN K=(M.take k).map (io p)) (M.length - (0)) ⟨0,aI,[],[],h.only ⟨rfl,rfl,rfl,rfl,rfl,rfl,aq rfl (by omega),trivial⟩,s.as ⟨rfl,rfl,rfl,trivial⟩,rfl,Nat.zero_le _,rfl⟩ ?_)
 rintro _ f w1 ⟨k,vb,K,kg,h,s,hnn,hp0,hp1⟩
 refine bH ab 1 h rfl fun f h=>al (cV h rfl (fun hc=>?_) (fun hc=>?_))
 ·refine kt (al (wpIn_block (qr ?_)))
  have hkm:k<M.length:=by omega
  have hKk:K.length=k:=by rw [← fi,hp1,List.length_map,List.length_take];omega
  refine ae h (a7 (hM.keep s.ext) (k) Tryz.underlying22 dZ (h.ev rfl) (h.ev rfl) (by omega) (by omega)) rfl fun f h=>ar ((hM.keep s.ext).el (k) (by omega) (by decide) (D:=aB (M.getD k aW)) (dX M k hkm)) h a8 rfl (ao _) rfl fun f h=>aK (aB aW) h s eL rfl rfl fun f w1 b7 h s=>aj 0 h s a8 rfl rfl rfl (ao _) (ao _) (bm _) fun w1 s=>nt (rs ab 1 h rfl fun f h=>ak 3 h s fc rfl rfl (cf _ _ _) rfl fun f h=>ak 0 h s a8 rfl rfl (ao _) rfl fun f h=>am ab 1 h rfl fun f h=>ar (aG.subL (aG.of_own s 0 rfl) 32 34 (D:=bg (_)) (iT _)) h bY rfl (aC _) rfl fun f h=>bn (vs:=[.agg (bg (M.getD k aW).2.1)]) [.tmp 18] h s Tryz.underlying29 pm rfl rfl (Ey _) rfl rfl rfl fun f w1 v19 h s=>?_)
  replace s:=s.resl (m:=[(M.getD k aW).2.1].length) (ys:=br [(M.getD k aW).2.1]) 0 rfl rfl ((De _).trans (nb _).symm)
  refine bq h s Cu (pj p vs (M.getD k aW) [(M.getD k aW).2.1] v19 _ (hP.keep s.ext) hpl hea h1 h41 hh (bI.of_own (s.getSl 0 rfl)) (yW (JD hme hkm)) (Nat.le_refl _)) rfl rfl ?_;rintro f w1 v20 ⟨vu,rfl,hOw⟩ hE h sq;have hu1:=bs (bI.of_own hOw);replace s:=s.sl_new hE hOw;clear hOw
  refine bn (vs:=[.agg (cu 2 0 vu (p.2.1 - 1) p.2.2 (M.getD k aW) 0)]) [.tmp 20] h s Tryz.underlying104 fJ rfl rfl (n4 (io p (M.getD k aW),vu)) rfl rfl rfl fun f w1 v21 h s=>cq 5 0 h s Tryz.underlying104 fJ rfl rfl rfl rfl (by decide) (by exact eE _ _ _ _ _ _ (hu1)) (by unfold maxLen;omega) (by omega) rfl fun f w1 v22 h s=>?_
  replace s:=s.pick _ (List.sublist_cons_self _ _)
  replace s:=s.resl (m:=(K++[(io p (M.getD k aW),vu)]).length) (ys:=cb (K++[(io p (M.getD k aW),vu)])) 4 rfl (oI K (io p (M.getD k aW),vu)) (by exact kG K (io p (M.getD k aW),vu))
  refine am ab 1 h rfl fun f h=>av (ba (aE (aF ?_)))
  replace s:=s.sel [0,3,1,2,4,5] rfl (by decide)
  obtain ⟨kn,s⟩:=s.grp1 (S':=fun w9=>dM w9 vs p.1→kM (K++[(io p (M.getD k aW),vu)]) w9) (fun w9 h1 h2 h3=>ni (h2 h3) h1)
  refine ae h (a6 (h.ev rfl) (h.ev rfl) (by omega)) rfl fun f h=>e9 ab 1 h rfl fun f h=>?_
  exact ⟨_,by omega,⟨k+1,v22,K++[(io p (M.getD k aW),vu)],kn,h.only ⟨rfl,rfl,rfl,rfl,rfl,rfl,aq rfl (by omega),trivial⟩,St.as (s.pick _ (List.Sublist.cons_cons _ (List.Sublist.cons _ (List.Sublist.cons _ (List.Sublist.cons_cons _ (List.Sublist.cons_cons _ (List.nil_sublist _))))))) ⟨rfl,rfl,rfl,trivial⟩,rfl,by omega,vJ hkm hp1⟩⟩
 ·refine wpIn_exit (aU (aU (bR (aE (qr ?_)))))
  obtain rfl:k=M.length:=by omega
  rw [List.take_length] at hp1
  refine e9 ab 2 h rfl fun f h=>wpIn_ret (aH rfl h s rfl (⟨K,kg,hp1,s.sel [1,0] rfl (by decide)⟩))
set_option maxHeartbeats 2000000 in
theorem AP (t:List Tg) (vh:Value) (p:Pk) (vs:Value) (w:World) (hR:bI w vh 67 t.length (aJ t)) (hln:t.length≤1000) (hP:bI w vs 34 p.1.length (br p.1)) (hpl:p.1.length≤1000):Calls Tryz.prog 73 [vh,.agg (bO vs p.2.1 p.2.2)].toArray w (cp w (LB w vs p (Jk t p) (KM t p))):=by
 refine bF Tryz.func73 rfl Tryz.ntmps73 rfl fun f h s=>qr (aZ (bO vs p.2.1 p.2.2) h s rfl rfl rfl fun f w1 b3 h s=>e9 ab 2 h rfl fun f h=>al (al ?_))
 refine rs ab 1 h rfl fun f h=>gg h s qU (gb t vh _ (hR.keep s.ext) hln) rfl rfl (fun t0 f w1 h s=>?_) (fun t0 f w1 h s=>?_)
 ·refine e9 ab 6 h rfl fun f h=>cy h rfl (bH ab 2 h rfl fun f h=>rt (dr rfl h s rfl rfl (zl (zq p t0).1 (zq p t0).2 (s.sel [] rfl (by decide)))))
 ·skip
  refine am ab 2 h rfl fun f h=>bf h rfl (ak 0 h s fc rfl rfl (cf _ _ _) rfl fun f h=>bf h rfl (gg h s Na (xZ p vs _ (hP.keep s.ext) hpl) rfl rfl (fun r0 f w1 h s=>?_) (fun r0 f w1 h s=>?_)))
  ·refine e9 ab 2 h rfl fun f h=>cy h rfl (bH ab 2 h rfl fun f h=>rt (dr rfl h s rfl rfl (zl (ze t r0).1 (ze t r0).2 (s.sel [] rfl (by decide)))))
  ·refine e9 ab 2 h rfl fun f h=>iU h rfl (al ?_)
   obtain ⟨⟨h1,h41,hea9⟩,hh1,hh2,hd9⟩:=dI.1 r0
   have hea:=Kd hea9
   have hh:=And.intro hh1 hh2
   have hD:dM w (eg vs 34 1) (p.1.drop 1):=oh hP 1 (by omega)
   obtain ⟨e0,l0⟩:=CE (t:=t) r0 t0
   refine ka 0 9 [[],[0],[0,1],[0,1,2],[],[4],[4,5],[],[0,1,2,3,7],[0,1,2,3,4,5,6,7,8]] [[],[],[],[],[],[],[],[],[7],[]] [] [.v _,.v vs,.v (.pointer (some (dy vs (0*34)))),.v (.agg (bg (bk p))),.v _,.v vs,.v (eg vs 34 1),.q (fun v=>[.blk (Dz (v 7)) (.cells (bg (0,0#256,0)) 28)]),.m (fun v=>[.blk (Dz (v 7)) (.cells (bg (bk p)) 28)]),.n] _ h s rfl (by kernel_rfl) (by kernel_rfl) (by kernel_rfl) (iz ab h rfl rfl rfl (cF ?_ (cF ?_ (cF ?_ (iz ab h rfl rfl rfl (cF ?_ (cF ?_ (cF ?_ (cF ?_ (trivial)))))))))) [0,1,2,3,4,5,6,8] (by kernel_rfl) ?_
   ·intro f9 w2 vl3 E9 hs9 hd9 hl hF s
    have h:=dh [(18,_)] h hs9 hd9 ⟨bu hl 18 0 (by kernel_rfl) (hF 0 (by decide)),trivial⟩
    refine ag (V:=vs) (ac (aG.of_own s 0 rfl) 0 (rK _ _ _)) h cG rfl rfl fun f h=>av ⟨_,bw 19 h rfl rfl,rfl,s⟩
   ·intro f9 w2 vl3 E9 hs9 hd9 hl hF s
    have h:=dh [(19,_)] h hs9 hd9 ⟨bu hl 19 1 (by kernel_rfl) (hF 1 (by decide)),trivial⟩
    refine ae h (a7 (hP.keep s.ext) (0) Tryz.underlying29 fp (h.ev rfl) (h.ev rfl) (rfl) (by omega)) rfl fun f h=>av ⟨_,bw 20 h rfl rfl,rfl,s⟩
   ·intro f9 w2 vl3 E9 hs9 hd9 hl hF s
    have h:=dh [(20,_)] h hs9 hd9 ⟨bu hl 20 2 (by kernel_rfl) (hF 2 (by decide)),trivial⟩
    refine ar ((hP.keep s.ext).el (0) (by omega) (by decide) (D:=bg (bk p)) (pX p.1 0 (by omega))) h bY rfl (aC _) rfl fun f h=>av ⟨_,bw 21 h rfl rfl,rfl,s⟩
   ·intro f9 w2 vl3 E9 hs9 hd9 hl hF s
    have h:=dh [(22,_)] h hs9 hd9 ⟨bu hl 22 4 (by kernel_rfl) (hF 4 (by decide)),trivial⟩
    refine ag (V:=vs) (ac (aG.of_own s 0 rfl) 0 (rK _ _ _)) h cG rfl rfl fun f h=>av ⟨_,bw 23 h rfl rfl,rfl,s⟩
   ·intro f9 w2 vl3 E9 hs9 hd9 hl hF s
    have h:=dh [(23,_)] h hs9 hd9 ⟨bu hl 23 5 (by kernel_rfl) (hF 5 (by decide)),trivial⟩
    refine ae h (gq (hP.keep s.ext) (1) Tryz.underlying29 fp (h.ev rfl) (h.ev rfl) (rfl) (by omega)) rfl fun f h=>av ⟨_,bw 24 h rfl rfl,rfl,s⟩
   ·intro f9 w2 vl3 E9 hs9 hd9 hl hF s
    have h:=aD [] (hs9.trans h.size) (hd9.trans h.defers) (holds_lk trivial)
    refine aK (bg (0,0#256,0)) h s ob rfl rfl fun f w1 b6 h s=>av ⟨_,bw 6 h rfl rfl,⟨_,rfl⟩,s⟩
   ·intro f9 w2 vl3 E9 hs9 hd9 hl hF s
    obtain ⟨b6,hb6⟩:∃ b,vl3 7=.pointer (some ⟨b,0,none⟩):=hF 7 (by decide)
    have e6:f9.tmps.getD 6 undef=.pointer (some ⟨b6,0,none⟩):=(dK hl 6 7 (by kernel_rfl) (by kernel_rfl)).trans hb6
    have e21:f9.tmps.getD 21 undef=.agg (bg (bk p)):=(dK hl 21 3 (by kernel_rfl) (by kernel_rfl)).trans (hF 3 (by decide))
    have h:=aD [(6,.pointer (some ⟨b6,0,none⟩)),(21,.agg (bg (bk p)))] (hs9.trans h.size) (hd9.trans h.defers) (holds_lk ⟨e6,e21,trivial⟩)
    replace s:St w (.blk (Dz (vl3 7)) (.cells (bg (0,0#256,0)) 28)::.blk b3 (.cells (bO vs p.2.1 p.2.2) 103)::E9) _:=s
    rw [hb6] at s
    replace s:St w (.blk b6 (.cells (bg (0,0#256,0)) 28)::.blk b3 (.cells (bO vs p.2.1 p.2.2) 103)::E9) _:=s
    refine aj 0 h s bY rfl rfl rfl (aC _) (aC _) (fD _) fun w1 s=>av ⟨undef,iL rfl,trivial,?_⟩
    have z:=s
    rw [← show Dz (vl3 7)=b6 from by rw [hb6];rfl] at z
    exact z
   intro f w1 vl3 hs9 hd9 hv hr hF s
   replace hv:=fun i d h9=>hv i d (show Nat.blt i 9=true from h9)
   obtain ⟨b6,hb6⟩:∃ b,vl3 7=.pointer (some ⟨b,0,none⟩):=hF 7 (by kernel_rfl)
   replace h:=kO 9 (ops:=_) [(18,_),(19,_),(20,_),(21,_),(22,_),(23,_),(24,_),(6,.pointer (some ⟨b6,0,none⟩))] h hs9 hd9 hr ⟨(hv 0 18 rfl rfl).trans (hF 0 rfl),(hv 1 19 rfl rfl).trans (hF 1 rfl),(hv 2 20 rfl rfl).trans (hF 2 rfl),(hv 3 21 rfl rfl).trans (hF 3 rfl),(hv 4 22 rfl rfl).trans (hF 4 rfl),(hv 5 23 rfl rfl).trans (hF 5 rfl),(hv 6 24 rfl rfl).trans (hF 6 rfl),(hv 7 6 rfl rfl).trans hb6,trivial⟩ (by kernel_rfl)
   replace s:St w [.blk (Dz (vl3 7)) (.cells (bg (bk p)) 28),.blk b3 (.cells (bO vs p.2.1 p.2.2) 103)] _:=s
   rw [hb6] at s
   replace s:St w [.blk b6 (.cells (bg (bk p)) 28),.blk b3 (.cells (bO vs p.2.1 p.2.2) 103)] _:=s
   refine e9 ab 1 h rfl fun f h=>al (bZ ab 1 h rfl fun f h=>ag (ac (aG.of_own s 0 rfl) 0 (d7 _)) h bo rfl rfl fun f h=>e9 ab 1 h rfl fun f h=>cd h rfl (fun hc=>?_) (fun hc=>?_))
   ·have k0:=hc
    refine al (ka 0 12 [[],[0],[],[2],[],[4],[],[],[7],[2,3,4,5,6,7,8],[0,1,2,3,4,5,6,7,8,9],[0,1,2,3,4,5,6,7,8,9,10],[0,1,2,3,4,5,6,7,8,9,10,11],[0,1,2,3,4,5,6,7,8,9,10,11,12]] [[],[],[],[],[],[],[],[],[],[8],[],[],[],[]] [] [.v _,.v (.int .i64 (bk p).2.2),.v _,.v (.int .i64 p.2.1),.v _,.v (.string p.2.2),.v _,.v (.agg (bg (bk p))),.m (fun v=>[.sl (v 8) 28 34 [bk p].length (br [bk p])]),.r (fun v=>[.sl (nY (v 9)) 28 34 p.1.length (br p.1)]) (fun v=>v 9=.agg (bO (nY (v 9)) p.2.1 p.2.2)),.f (fun v=>v 10=.agg (cu 1 (bk p).2.2 (nY (v 9)) p.2.1 p.2.2 aW 0)),.m (fun v=>[.sl (v 11) 107 73 1 (cb [(gu p,nY (v 9))])]),.n,.n] _ h s rfl (by kernel_rfl) (by kernel_rfl) (by kernel_rfl) (iz ab h rfl rfl rfl (cF ?_ (iz ab h rfl rfl rfl (cF ?_ (iz ab h rfl rfl rfl (cF ?_ (iz ab h rfl rfl rfl (cF ?_ (cF ?_ (cF ?_ (cF ?_ (cF ?_ (trivial))))))))))))) [0,1,2,3,4,5,6,7,9,10,11] (by kernel_rfl) ?_)
    ·intro f9 w2 vl5 E9 hs9 hd9 hl hF s
     have h:=dh [(28,_)] h hs9 hd9 ⟨bu hl 28 0 (by kernel_rfl) (hF 0 (by decide)),trivial⟩
     refine ag (ac (aG.of_own s 0 rfl) 33 (dO _)) h bo rfl rfl fun f h=>av ⟨_,bw 29 h rfl rfl,rfl,s⟩
    ·intro f9 w2 vl5 E9 hs9 hd9 hl hF s
     have h:=dh [(30,_)] h hs9 hd9 ⟨bu hl 30 2 (by kernel_rfl) (hF 2 (by decide)),trivial⟩
     refine ag (V:=.int .i64 p.2.1) (ac (aG.of_own s 1 rfl) 1 (rJ _ _ _)) h bo rfl rfl fun f h=>av ⟨_,bw 31 h rfl rfl,rfl,s⟩
    ·intro f9 w2 vl5 E9 hs9 hd9 hl hF s
     have h:=dh [(32,_)] h hs9 hd9 ⟨bu hl 32 4 (by kernel_rfl) (hF 4 (by decide)),trivial⟩
     refine ag (V:=.string p.2.2) (ac (aG.of_own s 1 rfl) 2 (A9 _ _ _)) h dG rfl rfl fun f h=>av ⟨_,bw 33 h rfl rfl,rfl,s⟩
    ·intro f9 w2 vl5 E9 hs9 hd9 hl hF s
     have h:=dh [(6,_)] h hs9 hd9 ⟨gN hl 6 (by kernel_rfl) (h.holds 6 _ rfl),trivial⟩
     refine ak 0 h s bY rfl rfl (aC _) rfl fun f h=>av ⟨_,bw 35 h rfl rfl,rfl,s⟩
    ·intro f9 w2 vl5 E9 hs9 hd9 hl hF s
     have h:=dh [(35,_)] h hs9 hd9 ⟨bu hl 35 7 (by kernel_rfl) (hF 7 (by decide)),trivial⟩
     refine bn (vs:=[.agg (bg (bk p))]) [.tmp 35] h s Tryz.underlying29 pm rfl rfl (Ey _) rfl rfl rfl fun f w1 v36 h s=>?_
     replace s:=s.resl (m:=[bk p].length) (ys:=br [bk p]) 0 rfl rfl ((De _).trans (nb _).symm)
     exact av ⟨_,bw 36 h rfl rfl,trivial,s⟩
    ·intro f9 w2 vl5 E9 hs9 hd9 hl hF s
     have e31:f9.tmps.getD 31 undef=.int .i64 p.2.1:=(dK hl 31 3 (by kernel_rfl) (by kernel_rfl)).trans (hF 3 (by decide))
     have e33:f9.tmps.getD 33 undef=.string p.2.2:=(dK hl 33 5 (by kernel_rfl) (by kernel_rfl)).trans (hF 5 (by decide))
     have e34:f9.tmps.getD 34 undef=(eg vs 34 1):=(dK hl 34 6 (by kernel_rfl) (by kernel_rfl)).trans (hF 6 (by decide))
     have e36:f9.tmps.getD 36 undef=(vl5 8):=dK hl 36 8 (by kernel_rfl) (by kernel_rfl)
     have h:=aD [(31,.int .i64 p.2.1),(33,.string p.2.2),(34,(eg vs 34 1)),(36,(vl5 8))] (hs9.trans h.size) (hd9.trans h.defers) (holds_lk ⟨e31,e33,e34,e36,trivial⟩)
     refine bq h s H6 (pb (p.2.1) p.2.2 (p.1.drop 1) [bk p] (eg vs 34 1) (vl5 8) _ (hD.keep s.ext) (bI.of_own (s.getSl 0 rfl)) (ud hea 1) (yW (hea9 _ (Hj h1))) (by rw [List.length_drop];show 1+_≤4;omega)) rfl rfl ?_;rintro f w1 v37 ⟨u9,hv9,hOw⟩ hE h sq
     rw [Es h1] at hOw
     have h66:u9=(nY v37):=by rw [hv9];exact(CF (bI.of_own hOw) _ _).symm
     subst h66
     replace s:=s.sl_new hE hOw
     clear hOw
     exact av ⟨_,bw 37 h rfl rfl,hv9,(s.pick _ (List.Sublist.cons_cons _ (List.Sublist.cons _ (List.Sublist.cons_cons _ (List.Sublist.cons_cons _ (List.Sublist.refl _))))))⟩
    ·intro f9 w2 vl5 E9 hs9 hd9 hl hF s
     have h:=dh [(29,_),(37,.agg (bO (nY (vl5 9)) p.2.1 p.2.2))] h hs9 hd9 ⟨bu hl 29 1 (by kernel_rfl) (hF 1 (by decide)),bu hl 37 9 (by kernel_rfl) (hF 9 (by decide)),trivial⟩
     refine ae h (jJ wG rfl (h.ev rfl) (h.ev rfl)) rfl fun f h=>av ⟨_,bw 38 h rfl rfl,rfl,s⟩
    ·intro f9 w2 vl5 E9 hs9 hd9 hl hF s
     have h:=dh [(38,.agg (cu 1 (bk p).2.2 (nY (vl5 9)) p.2.1 p.2.2 aW 0))] h hs9 hd9 ⟨bu hl 38 10 (by kernel_rfl) (hF 10 (by decide)),trivial⟩
     refine bn (vs:=[.agg (cu 1 (bk p).2.2 (nY (vl5 9)) p.2.1 p.2.2 aW 0)]) [.tmp 38] h s Tryz.underlying104 fJ rfl rfl (n4 (gu p,nY (vl5 9))) rfl rfl rfl fun f w1 v39 h s=>?_
     replace s:=s.resl (m:=[(gu p,nY (vl5 9))].length) (ys:=cb [(gu p,nY (vl5 9))]) 0 rfl rfl (by exact kG [] (gu p,nY (vl5 9)))
     exact av ⟨_,bw 39 h rfl rfl,trivial,s⟩
    intro f w1 vl5 hs9 hd9 hv hr hF s
    replace hv:=fun i d h9=>hv i d (show Nat.blt i 12=true from h9)
    replace h:=kO 12 (ops:=_) [(28,_),(29,_),(30,_),(31,_),(32,_),(33,_),(34,_),(35,_),(36,(vl5 8)),(37,.agg (bO (nY (vl5 9)) p.2.1 p.2.2)),(38,.agg (cu 1 (bk p).2.2 (nY (vl5 9)) p.2.1 p.2.2 aW 0)),(39,(vl5 11))] h hs9 hd9 hr ⟨(hv 0 28 rfl rfl).trans (hF 0 rfl),(hv 1 29 rfl rfl).trans (hF 1 rfl),(hv 2 30 rfl rfl).trans (hF 2 rfl),(hv 3 31 rfl rfl).trans (hF 3 rfl),(hv 4 32 rfl rfl).trans (hF 4 rfl),(hv 5 33 rfl rfl).trans (hF 5 rfl),(hv 6 34 rfl rfl).trans (hF 6 rfl),(hv 7 35 rfl rfl).trans (hF 7 rfl),hv 8 36 rfl rfl,(hv 9 37 rfl rfl).trans (hF 9 rfl),(hv 10 38 rfl rfl).trans (hF 10 rfl),hv 11 39 rfl rfl,trivial⟩ (by kernel_rfl)
    replace s:St w [.sl (nY (vl5 9)) 28 34 p.1.length (br p.1),.sl (vl5 11) 107 73 1 (cb [(gu p,nY (vl5 9))]),.blk b6 (.cells (bg (bk p)) 28),.blk b3 (.cells (bO vs p.2.1 p.2.2) 103)] _:=s
    refine e9 ab 2 h rfl fun f h=>rt (dr rfl h s rfl rfl (zb (x:=gu p) e0 (l0.trans (jI k0)) rfl (s.sel [1,0] rfl (by decide))))
   ·have k0:=hc
    refine kt (al (bZ ab 1 h rfl fun f h=>ag (V:=.int .i64 p.2.1) (ac (aG.of_own s 1 rfl) 1 (rJ _ _ _)) h bo rfl rfl fun f h=>e9 ab 1 h rfl fun f h=>cd h rfl (fun hc=>?_) (fun hc=>?_)))
    ·have k1:=hc
     refine qr (bq h s H7 (sh 9 _) rfl rfl ?_);intro f w1 v43 hOw hE h sq;replace s:=s.sl_new hE hOw;clear hOw
     refine e9 ab 2 h rfl fun f h=>rt (dr rfl h s rfl rfl (uL e0 (l0.trans (mv k0 k1)) (s.sel [0] rfl (by decide))))
    ·have k1:=hc
     refine kt (al (bZ ab 2 h rfl fun f h=>ar (aG.subL (aG.of_own s 0 rfl) 1 32 (D:=aA (_)) (fR _)) h aN rfl (by first|exact ai _|exact ah _ _) rfl fun f h=>bq h s LA (xw t vh (bk p).2.1 _ (hR.keep s.ext) (by omega)) rfl rfl ?_));rintro f w1 v48 ⟨vm,kvm,rfl,hG⟩ hE h sq;replace s:=s.add hG;clear hG
     obtain ⟨m1,m2⟩:=G0 t0 (bk p).2.1
     rw [m2] at s
     have hMl:=wY t (bk p).2.1
     refine e9 ab 5 h rfl fun f h=>bH ab 2 h rfl fun f h=>cd h rfl (fun hc=>?_) (fun hc=>?_)
     ·have z0:=Fm t0 (of_decide_eq_true hc)
      refine bZ ab 1 h rfl fun f h=>ak 2 h s fc rfl rfl (cf _ _ _) rfl fun f h=>bq h s KE (uO (jU t (bk p).2.1) vm p vs _ ((s.getG 0 rfl) (hR.keep s.ext)) (by omega) (hP.keep s.ext) hpl hea h1 h41 hh (FI t0)) rfl rfl ?_;rintro f w1 v55 ⟨K,ke,hK,hG⟩ hE h sq;replace s:=s.add hG;clear hG
      refine e9 ab 2 h rfl fun f h=>rt (dr rfl h s rfl rfl (sT e0 (hK.trans (l0.trans (ng k0 k1 z0)).symm) (s.sel [0,1] rfl (by decide))))
     ·have z0:=GK t0 (of_decide_eq_false hc)
      refine kt (al (bZ ab 1 h rfl fun f h=>dN h (hD.keep s.ext) Tryz.underlying29 rfl rfl fun f h=>qh ab (.bool (decide (¬ 1<p.1.length))) h rfl (congrArg Value.bool (decide_eq_decide.2 (by rw [List.length_drop];omega))) rfl fun f h=>nt (cd h rfl (fun hc=>?_) (fun hc=>?_))))
      ·have k2:decide (1<p.1.length)=false:=decide_eq_false (of_decide_eq_true hc)
       refine qr (bq h s H7 (sh 6 _) rfl rfl ?_);intro f w1 v59 hOw hE h sq;replace s:=s.sl_new hE hOw;clear hOw
       refine e9 ab 2 h rfl fun f h=>rt (dr rfl h s rfl rfl (uL e0 (l0.trans (mg k0 k1 z0 k2)) (s.sel [0] rfl (by decide))))
      ·have k2:decide (1<p.1.length)=true:=decide_eq_true (Decidable.of_not_not (of_decide_eq_false hc))
       refine kt (qr (ak 2 h s fc rfl rfl (cf _ _ _) rfl fun f h=>ae h (cK jM) rfl fun f h=>bq h s Cu (pj p vs aW [] aI _ (hP.keep s.ext) hpl hea h1 h41 hh (fk _) rfl (Nat.zero_le _)) rfl rfl ?_));rintro f w1 v62 ⟨vn,rfl,hOw⟩ hE h sq;have hu1:=bs (bI.of_own hOw);replace s:=s.sl_new hE hOw;clear hOw
       refine bn (vs:=[.agg (cu 2 0 vn (p.2.1 - 1) p.2.2 aW 0)]) [.tmp 62] h s Tryz.underlying104 fJ rfl rfl (n4 (sJ p aW [],vn)) rfl rfl rfl fun f w1 v63 h s=>?_
       replace s:=s.resl (m:=[(sJ p aW [],vn)].length) (ys:=cb [(sJ p aW [],vn)]) 0 rfl rfl (by exact kG [] (sJ p aW [],vn))
       refine e9 ab 2 h rfl fun f h=>wpIn_ret (dr rfl h s rfl rfl (zb (x:=sJ p aW []) e0 (l0.trans (kH k0 k1 z0 k2)) rfl (s.sel [0,1] rfl (by decide))))
end Go.Proofs.YtobfeflheaobiaaGreatDoor
