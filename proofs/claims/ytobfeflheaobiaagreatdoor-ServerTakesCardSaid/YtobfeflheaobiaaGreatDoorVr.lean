/- What the reference of ident answers: comparisons, what is on the way, what is in common: for all identifiers. -/
import Derived.Test.YtobfeflheaobiaaGreatDoorCon
set_option linter.unusedVariables false
set_option linter.unusedSimpArgs false
set_option linter.unusedSectionVars false
namespace Go.Proofs.YtobfeflheaobiaaGreatDoor
open Go.RowKit
theorem mc (a:Id) (n:Nat) (hn:n<256) (w:World):Calls Tryz.prog 93 [gp a,.int .i64 (n:Int)].toArray w (cp w (is (.int .i64 (jX a.toNat n:Int)))):=by
 have ha:=go a (n / 8)
 refine bF Tryz.func93 rfl Tryz.ntmps93 rfl fun f h s=>qr (aZ (aA a) h s rfl rfl rfl fun f w1 b2 h s=>e9 ab 1 h rfl fun f h=>bZ ab 1 h rfl fun f h=>ae h (qM (h.ev rfl) (h.ev rfl) (by omega)) rfl fun f h=>ae h (dF (n / 8) Tryz.underlying26 ec (h.ev rfl) (h.ev rfl) (by omega) (by omega)) rfl fun f h=>fw 0 h s lm rfl rfl (dP _ _ (by omega)) rfl fun f h=>ae h (gK Tryz.underlying5 Tryz.underlying3 (h.ev rfl) (IntWalk.i64_in _ (by omega))) rfl fun f h=>e9 ab 1 h rfl fun f h=>al (bH ab 1 h rfl fun f h=>wpIn_block (wpIn_loop_ghost (fun nn aa ww=>∃ k:Nat,Sl 23 aa [(0,gp a),(1,.int .i64 (n:Int)),(2,.pointer (some ⟨b2,0,none⟩)),(5,.int .i64 ((bz a (n / 8) / 2 ^ k:Nat):Int)),(6,.int .i64 (k:Int))]∧St w [.blk b2 (.cells (aA a) 26)] ww∧nn=8 - k∧k≤7 - n % 8) (8 - (0)) ⟨0,h.only ⟨rfl,rfl,rfl,aq rfl (by simp),aq rfl (by omega),trivial⟩,s.as ⟨rfl,trivial⟩,rfl,by omega⟩ ?_)))
 rintro _ f w1 ⟨k,h,s,hnn,hp0⟩
 have hd:bz a (n / 8) / 2 ^ k≤bz a (n / 8):=Nat.div_le_self _ _
 have hd0:(0:Int)≤((bz a (n / 8) / 2 ^ k:Nat):Int):=Int.natCast_nonneg _
 refine al (bZ ab 2 h rfl fun f h=>ae h (kD (h.ev rfl) (h.ev rfl) (by omega)) rfl fun f h=>ae h (ea (h.ev rfl) (h.ev rfl) (by omega)) rfl fun f h=>e9 ab 1 h rfl fun f h=>cV h rfl (fun hc=>?_) (fun hc=>?_))
 ·refine kt (al (wpIn_block (rs ab 1 h rfl fun f h=>ae h (qM (h.ev rfl) (h.ev rfl) (by omega)) rfl fun f h=>am ab 1 h rfl fun f h=>av (ba (aE (rs ab 1 h rfl fun f h=>ae h (a6 (h.ev rfl) (h.ev rfl) (by omega)) rfl fun f h=>e9 ab 1 h rfl fun f h=>?_))))))
  exact ⟨_,by omega,⟨k+1,h.only ⟨rfl,rfl,rfl,aq rfl (Ar _ _),aq rfl (by omega),trivial⟩,St.as s ⟨rfl,trivial⟩,rfl,by omega⟩⟩
 ·refine wpIn_exit (aU (aU (bR (aE (bZ ab 1 h rfl fun f h=>ae h (kD (h.ev rfl) (h.ev rfl) (by omega)) rfl fun f h=>e9 ab 1 h rfl fun f h=>wpIn_ret ?_)))))
  have hk8:k=7 - n % 8:=by omega
  subst hk8
  exact aH rfl h s rfl (by show _=_;rw [← Hp a n hn];rfl)
theorem nA (a b:Id) (w:World):Calls Tryz.prog 68 [gp a,gp b].toArray w (cp w (is (.int .i64 (eH a b)))):=by
 refine bF Tryz.func68 rfl Tryz.ntmps68 rfl fun f h s=>qr (aZ (aA a) h s rfl rfl rfl fun f w1 b2 h s=>aZ (aA b) h s rfl rfl rfl fun f w1 b3 h s=>e9 ab 1 h rfl fun f h=>al (bH ab 1 h rfl fun f h=>wpIn_block (wpIn_loop_ghost (fun nn aa ww=>∃ k:Nat,Sl 24 aa [(0,gp a),(1,gp b),(2,.pointer (some ⟨b2,0,none⟩)),(3,.pointer (some ⟨b3,0,none⟩)),(5,.int .i64 (k:Int))]∧St w [.blk b3 (.cells (aA b) 26),.blk b2 (.cells (aA a) 26)] ww∧nn=256 - k∧k≤256∧a.toNat / 2 ^ (256 - k)=b.toNat / 2 ^ (256 - k)) (256 - (0)) ⟨0,h.only ⟨rfl,rfl,rfl,rfl,aq rfl (by omega),trivial⟩,s.as ⟨rfl,rfl,trivial⟩,rfl,by omega,oa a b⟩ ?_)))
 rintro _ f w1 ⟨k,h,s,hnn,hp0,hp1⟩
 refine al (bH ab 2 h rfl fun f h=>cV h rfl (fun hc=>?_) (fun hc=>?_))
 ·refine kt (al (wpIn_block (al (al (eo 7 h (by kernel_rfl) (bh 1 h s aN rfl rfl (by first|exact ai _|exact ah _ _) rfl fun f h=>az ab 1 h rfl fun f h=>aY h rU (fun w9 hE9=>mc _ _ (by omega) w9) rfl rfl fun f h=>bh 0 h s aN rfl rfl (by first|exact ai _|exact ah _ _) rfl fun f h=>az ab 1 h rfl fun f h=>aY h rU (fun w9 hE9=>mc _ _ (by omega) w9) rfl rfl fun f h=>az ab 1 h rfl fun f h=>cj s fun w1 s=>nt (cV h rfl (fun hc=>?_) (fun hc=>?_))))))))
  ·refine bH ab 1 h rfl fun f h=>rt (ck (bK (bK (ck (bK (aH rfl h s rfl (by show _=_;rw [GM a b k (by omega) hp1 hc])))))))
  ·refine kt (al (eo 7 h (by kernel_rfl) (bh 1 h s aN rfl rfl (by first|exact ai _|exact ah _ _) rfl fun f h=>az ab 1 h rfl fun f h=>aY h rU (fun w9 hE9=>mc _ _ (by omega) w9) rfl rfl fun f h=>bh 0 h s aN rfl rfl (by first|exact ai _|exact ah _ _) rfl fun f h=>az ab 1 h rfl fun f h=>aY h rU (fun w9 hE9=>mc _ _ (by omega) w9) rfl rfl fun f h=>az ab 1 h rfl fun f h=>cj s fun w1 s=>nt (cV h rfl (fun hc=>?_) (fun hc=>?_)))))
   ·refine bH ab 1 h rfl fun f h=>wpIn_ret (ck (bK (bK (ck (bK (aH rfl h s rfl (by show _=_;rw [Gk a b k (by omega) hp1 hc])))))))
   ·refine wpIn_skip (ba (aE (rs ab 1 h rfl fun f h=>ae h (a6 (h.ev rfl) (h.ev rfl) (by omega)) rfl fun f h=>e9 ab 1 h rfl fun f h=>?_)))
    exact ⟨_,by omega,⟨k+1,h.only ⟨rfl,rfl,rfl,rfl,aq rfl (by omega),trivial⟩,St.as s ⟨rfl,rfl,trivial⟩,rfl,by omega,oM a b k (by omega) hp1 (by omega)⟩⟩
 ·refine wpIn_exit (aU (aU (bR (aE (bH ab 1 h rfl fun f h=>wpIn_ret (aH rfl h s rfl (by show _=_;rw [v6 a b k (by omega) hp1,sE])))))))
theorem uE (a b:Id) (w:World):Calls Tryz.prog 104 [gp a,gp b].toArray w (cp w (is (.int .i64 (iH a b:Int)))):=by
 refine bF Tryz.func104 rfl Tryz.ntmps104 rfl fun f h s=>qr (aZ (aA a) h s rfl rfl rfl fun f w1 b2 h s=>aZ (aA b) h s rfl rfl rfl fun f w1 b3 h s=>e9 ab 1 h rfl fun f h=>bH ab 1 h rfl fun f h=>al (wpIn_block (wpIn_loop_ghost (fun nn aa ww=>∃ k:Nat,Sl 20 aa [(0,gp a),(1,gp b),(2,.pointer (some ⟨b2,0,none⟩)),(3,.pointer (some ⟨b3,0,none⟩)),(5,.int .i64 (k:Int))]∧St w [.blk b3 (.cells (aA b) 26),.blk b2 (.cells (aA a) 26)] ww∧nn=256 - k∧k≤256∧a.toNat / 2 ^ (256 - k)=b.toNat / 2 ^ (256 - k)) (256 - (0)) ⟨0,h.only ⟨rfl,rfl,rfl,rfl,aq rfl (by omega),trivial⟩,s.as ⟨rfl,rfl,trivial⟩,rfl,by omega,oa a b⟩ ?_)))
 rintro _ f w1 ⟨k,h,s,hnn,hp0,hp1⟩
 refine al (al ?_)
 refine eo 11 h (by kernel_rfl) (az ab 1 h rfl fun f h=>FD ab h rfl (fun hx f h=>?_) (fun hx f h=>?_))
 ·refine az ab 9 h rfl fun f h=>cj s fun w1 s=>A8 h rfl (wpIn_exit (aU (aU (bR (aE (bH ab 2 h rfl fun f h=>wpIn_ret (aH rfl h s rfl (by show _=_;rw [Bu a b k (by have:=of_decide_eq_false hx;omega) hp1]))))))))
 ·refine az ab 1 h rfl fun f h=>bA h rfl (bh 1 h s aN rfl rfl (by first|exact ai _|exact ah _ _) rfl fun f h=>az ab 1 h rfl fun f h=>bA h rfl ?_)
  have hx1:=of_decide_eq_true hx
  refine aY h rU (fun w9 hE9=>mc _ _ (by omega) w9) rfl rfl fun f h=>bA h rfl (bh 0 h s aN rfl rfl (by first|exact ai _|exact ah _ _) rfl fun f h=>az ab 1 h rfl fun f h=>bA h rfl (aY h rU (fun w9 hE9=>mc _ _ (by omega) w9) rfl rfl fun f h=>az ab 2 h rfl fun f h=>cj s fun w1 s=>nt (cV h rfl (fun hc=>?_) (fun hc=>?_))))
  ·refine kt (wpIn_block (rs ab 1 h rfl fun f h=>ae h (a6 (h.ev rfl) (h.ev rfl) (by omega)) rfl fun f h=>am ab 1 h rfl fun f h=>av (ba (aE ?_))))
   exact ⟨_,by omega,⟨k+1,h.only ⟨rfl,rfl,rfl,rfl,aq rfl (by omega),trivial⟩,St.as s ⟨rfl,rfl,trivial⟩,rfl,by omega,oM a b k (by omega) hp1 (by omega)⟩⟩
  ·refine wpIn_exit (aU (aU (bR (aE (bH ab 2 h rfl fun f h=>wpIn_ret (aH rfl h s rfl (by show _=_;rw [C3 a b k (by omega) hp1 hc])))))))
end Go.Proofs.YtobfeflheaobiaaGreatDoor
