/- Which entries, stacks and messages may be, and which are the same, by the references. -/
import Derived.Test.YtobfeflheaobiaaGreatDoorCon
set_option linter.unusedVariables false
set_option linter.unusedSimpArgs false
set_option linter.unusedSectionVars false
namespace Go.Proofs.YtobfeflheaobiaaGreatDoor
open Go.RowKit
theorem Co (e:cw) (hk:e.1=1) (w:World):Calls Tryz.prog 30 [.agg (bc e)].toArray w (bT w (is (.bool (eR e)))):=by
 refine br Tryz.func30 rfl Tryz.ntmps30 rfl fun f h s=>qr (aR (bc e) h s rfl rfl rfl fun f w1 b1 h s=>e9 ac 1 h rfl fun f h=>bG ac 1 h rfl fun f h=>al (cd ac 1 h rfl fun f h=>aE (aO.subL (aO.of_own s 0 rfl) 1 32 (D:=aw (_)) (gh _)) h aP rfl (by first|exact am _|exact ah _ _) rfl fun f h=>e9 ac 1 h rfl fun f h=>wpIn_block (wpIn_loop_ghost (fun nn aa ww=>∃ k:Nat,Sl 43 aa [(0,.agg (bc e)),(1,.pointer (some ⟨b1,0,none⟩)),(3,.bool (zB e.2.1 k)),(7,.agg (aw e.2.1)),(8,.int .i64 (k:Int))]∧St w [.blk b1 (.cells (bc e) 28)] ww∧nn=32 - k∧k≤32) (32 - (0)) ⟨0,h.only ⟨rfl,rfl,rfl,rfl,ar rfl (by omega),trivial⟩,s.as ⟨rfl,trivial⟩,rfl,Nat.zero_le _⟩ ?_)))
 rintro _ f w1 ⟨k,h,s,hnn,hp0⟩
 refine bG ac 1 h rfl fun f h=>al (cL h rfl (fun hc=>?_) (fun hc=>?_))
 ·refine kt (al (wpIn_block (qr (ag h (l9 ep (k) (h.ev rfl) (h.ev rfl) (by omega) (by omega)) rfl fun f h=>e9 ac 1 h rfl fun f h=>?_))))
  refine rs ac 1 h rfl fun f h=>da ac h rfl (fun hz f h=>?_) (fun hz f h=>?_)
  ·refine aq ac 4 h rfl fun f h=>aB (bg (aH (az (ag h (bh (h.ev rfl) (h.ev rfl) (by omega)) rfl fun f h=>e9 ac 1 h rfl fun f h=>?_))))
   exact ⟨_,by omega,⟨k+1,h.only ⟨rfl,rfl,fh rfl (by rw [mE,hz];rfl),rfl,ar rfl (by omega),trivial⟩,St.as s ⟨rfl,trivial⟩,rfl,by omega⟩⟩
  ·refine aq ac 4 h rfl fun f h=>aB (bg (aH (az (ag h (bh (h.ev rfl) (h.ev rfl) (by omega)) rfl fun f h=>e9 ac 1 h rfl fun f h=>?_))))
   exact ⟨_,by omega,⟨k+1,h.only ⟨rfl,rfl,fh rfl (by rw [mE,hz];simp),rfl,ar rfl (by omega),trivial⟩,St.as s ⟨rfl,trivial⟩,rfl,by omega⟩⟩
 ·refine wpIn_exit (aZ (aZ (bQ (aH (al ?_)))))
  refine rs ac 1 h rfl fun f h=>ap (ae (aO.of_own s 0 rfl) 0 (dC _)) h bJ rfl rfl fun f h=>jK ac h rfl (decide_eq_true (hk)) fun f h=>aq ac 2 h rfl fun f h=>ca h rfl (ap (ae (aO.of_own s 0 rfl) 33 (df _)) h bJ rfl rfl fun f h=>ca h rfl (da ac h rfl (fun hh f h=>?_) (fun hh f h=>?_)))
  ·refine aq ac 3 h rfl fun f h=>ca h rfl (ap (ae (aO.of_own s 0 rfl) 0 (dC _)) h bJ rfl rfl fun f h=>ca h rfl (my ac h rfl (decide_eq_false (by omega)) fun f h=>e9 ac 15 h rfl fun f h=>wpIn_ret (aI rfl h s rfl (by show _=_;rw [pF _ hk,hh]))))
  ·refine aq ac 6 h rfl fun f h=>gp h rfl rfl rfl rfl ?_;intro f h
   refine aq ac 2 h rfl fun f h=>gp h rfl rfl rfl rfl ?_;intro f h
   refine gp h rfl rfl rfl rfl ?_;intro f h
   refine gp h rfl rfl rfl rfl ?_;intro f h
   refine aq ac 2 h rfl fun f h=>gp h rfl rfl rfl rfl ?_;intro f h
   refine gp h rfl rfl rfl rfl ?_;intro f h
   refine gp h rfl rfl rfl rfl ?_;intro f h
   refine e9 ac 3 h rfl fun f h=>wpIn_ret (aI rfl h s rfl (by show _=_;rw [pF _ hk,hh]))
theorem Cz (e:cw) (hk:e.1≠1) (w:World):Calls Tryz.prog 30 [.agg (bc e)].toArray w (bT w (is (.bool (eR e)))):=by
 refine br Tryz.func30 rfl Tryz.ntmps30 rfl fun f h s=>qr (aR (bc e) h s rfl rfl rfl fun f w1 b1 h s=>e9 ac 1 h rfl fun f h=>bG ac 1 h rfl fun f h=>al (cd ac 1 h rfl fun f h=>aE (aO.subL (aO.of_own s 0 rfl) 1 32 (D:=aw (_)) (gh _)) h aP rfl (by first|exact am _|exact ah _ _) rfl fun f h=>e9 ac 1 h rfl fun f h=>wpIn_block (wpIn_loop_ghost (fun nn aa ww=>∃ k:Nat,Sl 43 aa [(0,.agg (bc e)),(1,.pointer (some ⟨b1,0,none⟩)),(3,.bool (zB e.2.1 k)),(7,.agg (aw e.2.1)),(8,.int .i64 (k:Int))]∧St w [.blk b1 (.cells (bc e) 28)] ww∧nn=32 - k∧k≤32) (32 - (0)) ⟨0,h.only ⟨rfl,rfl,rfl,rfl,ar rfl (by omega),trivial⟩,s.as ⟨rfl,trivial⟩,rfl,Nat.zero_le _⟩ ?_)))
 rintro _ f w1 ⟨k,h,s,hnn,hp0⟩
 refine bG ac 1 h rfl fun f h=>al (cL h rfl (fun hc=>?_) (fun hc=>?_))
 ·refine kt (al (wpIn_block (qr (ag h (l9 ep (k) (h.ev rfl) (h.ev rfl) (by omega) (by omega)) rfl fun f h=>e9 ac 1 h rfl fun f h=>?_))))
  refine rs ac 1 h rfl fun f h=>da ac h rfl (fun hz f h=>?_) (fun hz f h=>?_)
  ·refine aq ac 4 h rfl fun f h=>aB (bg (aH (az (ag h (bh (h.ev rfl) (h.ev rfl) (by omega)) rfl fun f h=>e9 ac 1 h rfl fun f h=>?_))))
   exact ⟨_,by omega,⟨k+1,h.only ⟨rfl,rfl,fh rfl (by rw [mE,hz];rfl),rfl,ar rfl (by omega),trivial⟩,St.as s ⟨rfl,trivial⟩,rfl,by omega⟩⟩
  ·refine aq ac 4 h rfl fun f h=>aB (bg (aH (az (ag h (bh (h.ev rfl) (h.ev rfl) (by omega)) rfl fun f h=>e9 ac 1 h rfl fun f h=>?_))))
   exact ⟨_,by omega,⟨k+1,h.only ⟨rfl,rfl,fh rfl (by rw [mE,hz];simp),rfl,ar rfl (by omega),trivial⟩,St.as s ⟨rfl,trivial⟩,rfl,by omega⟩⟩
 ·refine wpIn_exit (aZ (aZ (bQ (aH (al ?_)))))
  refine rs ac 1 h rfl fun f h=>ap (ae (aO.of_own s 0 rfl) 0 (dC _)) h bJ rfl rfl fun f h=>my ac h rfl (decide_eq_false (hk)) fun f h=>aq ac 7 h rfl fun f h=>ca h rfl (ap (ae (aO.of_own s 0 rfl) 0 (dC _)) h bJ rfl rfl fun f h=>ca h rfl (da ac h rfl (fun h2 f h=>?_) (fun h2 f h=>?_)))
  ·refine e9 ac 15 h rfl fun f h=>wpIn_ret ?_
   obtain rfl:k=32:=by omega
   exact aI rfl h s rfl (by show _=_;rw [qE _ hk (of_decide_eq_false h2)])
  ·skip
   refine aq ac 1 h rfl fun f h=>ca h rfl (da ac h rfl (fun hz f h=>?_) (fun hz f h=>?_))
   ·refine e9 ac 13 h rfl fun f h=>wpIn_ret ?_
    obtain rfl:k=32:=by omega
    exact aI rfl h s rfl (by show _=_;rw [i3 _ (of_decide_eq_true h2),← sR,hz];rfl)
   ·skip
    refine aq ac 3 h rfl fun f h=>ca h rfl (ap (ae (aO.of_own s 0 rfl) 33 (df _)) h bJ rfl rfl fun f h=>ca h rfl (da ac h rfl (fun hg f h=>?_) (fun hg f h=>?_)))
    ·refine e9 ac 8 h rfl fun f h=>wpIn_ret ?_
     obtain rfl:k=32:=by omega
     exact aI rfl h s rfl (by show _=_;rw [i3 _ (of_decide_eq_true h2),← sR,hz,hg];rfl)
    ·refine aq ac 3 h rfl fun f h=>ca h rfl (ap (ae (aO.of_own s 0 rfl) 33 (df _)) h bJ rfl rfl fun f h=>e9 ac 4 h rfl fun f h=>wpIn_ret ?_)
     obtain rfl:k=32:=by omega
     exact aI rfl h s rfl (by show _=_;rw [i3 _ (of_decide_eq_true h2),← sR,hz,hg];simp;omega)
theorem Cw (e:cw) (w:World):Calls Tryz.prog 30 [.agg (bc e)].toArray w (bT w (is (.bool (eR e)))):=by
 by_cases h:e.1=1
 ·exact Co e h w
 ·exact Cz e h w
end Go.Proofs.YtobfeflheaobiaaGreatDoor
