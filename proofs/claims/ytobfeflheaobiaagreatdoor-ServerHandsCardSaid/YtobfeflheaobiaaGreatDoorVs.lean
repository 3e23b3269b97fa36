/- Servers, what they send and take, by the reference. -/
import Derived.Test.YtobfeflheaobiaaGreatDoorVg
import Derived.Test.YtobfeflheaobiaaGreatDoorVp
set_option linter.unusedVariables false
set_option linter.unusedSimpArgs false
set_option linter.unusedSectionVars false
namespace Go.Proofs.YtobfeflheaobiaaGreatDoor
open Go.RowKit
theorem mf (sv:Sv) (vt:Value) (w:World) (hT:cK w vt sv.tb) (htl:sv.tb.length≤1000):Calls Tryz.prog 10 [.agg (aC sv.no sv.sec vt)].toArray w (bT w (is (.bool (bO sv)))):=by
 refine br Tryz.func10 rfl Tryz.ntmps10 rfl fun f h s=>qr (aR (aC sv.no sv.sec vt) h s rfl rfl rfl fun f w1 b1 h s=>e9 ac 1 h rfl fun f h=>al ?_)
 refine rs ac 1 h rfl fun f h=>ap (V:=.int .i64 sv.no) (ae (aO.of_own s 0 rfl) 0 (so _ _ _)) h bJ rfl rfl fun f h=>da ac h rfl (fun h0 f h=>?_) (fun h0 f h=>?_)
 ·refine e9 ac 17 h rfl fun f h=>wpIn_ret (aI rfl h s rfl (by show _=_;unfold bO;rw [h0];rfl))
 ·skip
  refine aq ac 2 h rfl fun f h=>ca h rfl (ap (V:=.int .i64 sv.no) (ae (aO.of_own s 0 rfl) 0 (so _ _ _)) h bJ rfl rfl fun f h=>ca h rfl (da ac h rfl (fun h1 f h=>?_) (fun h1 f h=>?_)))
  ·refine e9 ac 13 h rfl fun f h=>wpIn_ret (aI rfl h s rfl (by show _=_;unfold bO;rw [h0,h1];rfl))
  ·skip
   refine aq ac 3 h rfl fun f h=>ca h rfl (ap (V:=.string sv.sec) (ae (aO.of_own s 0 rfl) 1 (pX _ _ _)) h fa rfl rfl fun f h=>ca h rfl (ag h (cA Tryz.underlying9 (h.ev rfl)) rfl fun f h=>ca h rfl (sg ac (decide (sv.sec.size≤64)) h rfl ((decide_eq_decide.2 (by omega))) (fun h2 f h=>?_) (fun h2 f h=>?_))))
   ·refine e9 ac 7 h rfl fun f h=>wpIn_ret (aI rfl h s rfl (by show _=_;unfold bO;rw [h0,h1,h2];rfl))
   ·refine aq ac 3 h rfl fun f h=>ca h rfl (ap (V:=vt) (ae (aO.of_own s 0 rfl) 2 (im _ _ _)) h di rfl rfl fun f h=>ca h rfl (cn h s DT (mc sv.tb vt _ (hT.keep s.ext) htl) rfl rfl fun f w1 h s=>e9 ac 2 h rfl fun f h=>wpIn_ret (aI rfl h s rfl (by show _=_;unfold bO;rw [h0,h1,h2];rfl))))
theorem fR (a b:Sv) (vt vu:Value) (w:World) (hT:cK w vt a.tb) (hU:cK w vu b.tb) (hal:a.tb.length≤1000) (hbl:b.tb.length≤1000):Calls Tryz.prog 14 [.agg (aC a.no a.sec vt),.agg (aC b.no b.sec vu)].toArray w (bT w (is (.bool (decide (a=b))))):=by
 refine br Tryz.func14 rfl Tryz.ntmps14 rfl fun f h s=>qr (aR (aC a.no a.sec vt) h s rfl rfl rfl fun f w1 b2 h s=>aR (aC b.no b.sec vu) h s rfl rfl rfl fun f w1 b3 h s=>e9 ac 1 h rfl fun f h=>al ?_)
 refine rs ac 1 h rfl fun f h=>ap (V:=.int .i64 a.no) (ae (aO.of_own s 1 rfl) 0 (so _ _ _)) h bJ rfl rfl fun f h=>aq ac 1 h rfl fun f h=>ap (V:=.int .i64 b.no) (ae (aO.of_own s 0 rfl) 0 (so _ _ _)) h bJ rfl rfl fun f h=>da ac h rfl (fun h0 f h=>?_) (fun h0 f h=>?_)
 ·refine e9 ac 15 h rfl fun f h=>wpIn_ret (aI rfl h s rfl (by show _=_;rw [ye h0]))
 ·skip
  cases h1:(decide (a.sec=b.sec):Bool)
  ·refine aq ac 2 h rfl fun f h=>ca h rfl (ap (V:=.string a.sec) (ae (aO.of_own s 1 rfl) 1 (pX _ _ _)) h fa rfl rfl fun f h=>aq ac 1 h rfl fun f h=>ca h rfl (ap (V:=.string b.sec) (ae (aO.of_own s 0 rfl) 1 (pX _ _ _)) h fa rfl rfl fun f h=>ca h rfl (ag h (bm (.bool false) (d7 (h.ev rfl) (h.ev rfl)) (congrArg Value.bool h1)) rfl fun f h=>e9 ac 9 h rfl fun f h=>wpIn_ret (aI rfl h s rfl (by show _=_;rw [zp h0 h1])))))
  ·refine aq ac 2 h rfl fun f h=>ca h rfl (ap (V:=.string a.sec) (ae (aO.of_own s 1 rfl) 1 (pX _ _ _)) h fa rfl rfl fun f h=>aq ac 1 h rfl fun f h=>ca h rfl (ap (V:=.string b.sec) (ae (aO.of_own s 0 rfl) 1 (pX _ _ _)) h fa rfl rfl fun f h=>ca h rfl (ag h (bm (.bool true) (d7 (h.ev rfl) (h.ev rfl)) (congrArg Value.bool h1)) rfl fun f h=>aq ac 3 h rfl fun f h=>ca h rfl (ap (V:=vt) (ae (aO.of_own s 1 rfl) 2 (im _ _ _)) h di rfl rfl fun f h=>aq ac 1 h rfl fun f h=>ca h rfl (ap (V:=vu) (ae (aO.of_own s 0 rfl) 2 (im _ _ _)) h di rfl rfl fun f h=>ca h rfl (cn h s D1 (nu a.tb b.tb vt vu _ (hT.keep s.ext) (hU.keep s.ext) hal hbl) rfl rfl fun f w1 h s=>e9 ac 2 h rfl fun f h=>wpIn_ret (aI rfl h s rfl (by show _=_;rw [yI h0 h1]))))))))
set_option maxHeartbeats 2000000 in
theorem xF (sv:Sv) (vt:Value) (l:List Tg) (vh:Value) (w:World) (hT:cK w vt sv.tb) (htl:sv.tb.length≤1000) (hR:cK w vh l) (hl:l.length≤1000):Calls Tryz.prog 21 [.agg (aC sv.no sv.sec vt),vh].toArray w (bT w (KN w sv vt (jn l (sv.tb,0)))):=by
 refine br Tryz.func21 rfl Tryz.ntmps21 rfl fun f h s=>qr (aR (aC sv.no sv.sec vt) h s rfl rfl rfl fun f w1 b2 h s=>aJ (aC 0 ByteArray.empty aM) h s dZ rfl rfl fun f w1 b4 h s=>e9 ac 1 h rfl fun f h=>bG ac 1 h rfl fun f h=>al (qr ?_))
 replace s:=s.grp0 (S:=fun w9=>cK w9 vt sv.tb→cK w9 vt (eT l sv.tb 0).1) (fun _ h9=>h9)
 refine aq ac 1 h rfl fun f h=>eh h (hR.keep s.ext) Tryz.underlying22 rfl rfl fun f h=>e9 ac 1 h rfl fun f h=>wpIn_block (wpIn_loop_ghost (fun nn aa ww=>∃ k:Nat,∃ vp:Value,∃ kp:List Nat,Sl 32 aa [(0,.agg (aC sv.no sv.sec vt)),(2,.pointer (some ⟨b2,0,none⟩)),(4,.pointer (some ⟨b4,0,none⟩)),(1,vh),(6,.int .i64 ((eT l sv.tb k).2:Int)),(11,vh),(12,.int .i64 (l.length:Int)),(13,.int .i64 (k:Int))]∧St w [(.grp kp (fun w9=>cK w9 vt sv.tb→cK w9 vp (eT l sv.tb k).1)),.blk b4 (.cells (aC 0 ByteArray.empty aM) 24),.blk b2 (.cells (aC sv.no sv.sec vp) 24)] ww∧nn=l.length - k∧k≤l.length) (l.length - (0)) ⟨0,vt,[],h.only ⟨rfl,rfl,rfl,rfl,rfl,rfl,rfl,ar rfl (by omega),trivial⟩,s.as ⟨rfl,rfl,rfl,trivial⟩,rfl,Nat.zero_le _⟩ ?_)
 rintro _ f w1 ⟨k,vp,kp,h,s,hnn,hp0⟩
 refine bG ac 1 h rfl fun f h=>al (cL h rfl (fun hc=>?_) (fun hc=>?_))
 ·refine kt (al (wpIn_block (qr ?_)))
  have hkl:k<l.length:=by omega
  refine ag h (bW (hR.keep s.ext) (k) Tryz.underlying22 cZ (h.ev rfl) (h.ev rfl) (by omega) (by omega)) rfl fun f h=>aE ((hR.keep s.ext).el (k) (by omega) (by decide) (D:=au (l.getD k aN)) (dd l k hkl)) h aT rfl (ai _) rfl fun f h=>aJ (au aN) h s dM rfl rfl fun f w1 b8 h s=>ao 0 h s aT rfl rfl rfl (ai _) (ai _) (aY _) fun w1 s=>nt (cd ac 1 h rfl fun f h=>ap (V:=vp) (ae (aO.of_own s 3 rfl) 2 (im _ _ _)) h di rfl rfl fun f h=>aj 0 h s aT rfl rfl (ai _) rfl fun f h=>bk h s Hn (wZ (eT l sv.tb k).1 vp (l.getD k aN) _ ((s.getG 1 rfl) (hT.keep s.ext)) (jT htl k).1) rfl rfl ?_);rintro f w1 v21 ⟨p9,rfl,hO9⟩ hE h sq;replace s:=s.sl_new hE hO9;clear hO9
  replace s:=(s.grp0 (S:=fun _=>True) (fun _=>trivial)).perm (List.Perm.swap ..)
  obtain ⟨kn,s⟩:=s.grp1 (S':=fun w9=>cK w9 vt sv.tb→cK w9 p9 (cP (eT l sv.tb k).1 (l.getD k aN))) (fun w9 h9 _ _=>h9)
  refine e9 ac 5 h rfl fun f h=>bG ac 1 h rfl fun f h=>cq h rfl (fun hc=>?_) (fun hc=>?_)
  ·have hq:=wo hkl hc
   refine rs ac 2 h rfl fun f h=>bD 4 h s di rfl rfl rfl (by rw [ak];omega) (bV (((s.getG 0 rfl) (hT.keep s.ext)))) fun w1 s=>?_
   replace s:=s.recell (D:=aC sv.no sv.sec p9) 4 rfl (rfl)
   refine aB (bg (aH (az (ag h (bh (h.ev rfl) (h.ev rfl) (by omega)) rfl fun f h=>e9 ac 1 h rfl fun f h=>?_))))
   have e1:(eT l sv.tb (k+1)).1=cP (eT l sv.tb k).1 (l.getD k aN):=by rw [hq]
   rw [← e1] at s
   exact ⟨_,by omega,⟨k+1,p9,kn,h.only ⟨rfl,rfl,rfl,rfl,ar rfl (by rw [hq]),rfl,rfl,ar rfl (by omega),trivial⟩,St.as (s.pick _ (List.Sublist.cons_cons _ (List.Sublist.cons _ (List.Sublist.cons _ (List.Sublist.cons_cons _ (List.Sublist.cons_cons _ (List.nil_sublist _))))))) ⟨rfl,rfl,rfl,trivial⟩,rfl,by omega⟩⟩
  ·have hq:=vk hkl hc
   refine rs ac 1 h rfl fun f h=>?_
   have hle9:=(jT htl (l:=l) k).2
   refine ag h (bh (h.ev rfl) (h.ev rfl) (by omega)) rfl fun f h=>aq ac 1 h rfl fun f h=>aB (bg (aH (az (ag h (bh (h.ev rfl) (h.ev rfl) (by omega)) rfl fun f h=>e9 ac 1 h rfl fun f h=>?_))))
   have e1:(eT l sv.tb (k+1)).1=(eT l sv.tb k).1:=by rw [hq]
   exact ⟨_,by omega,⟨k+1,vp,kp,h.only ⟨rfl,rfl,rfl,rfl,ar rfl (by rw [hq];show _=(((eT l sv.tb k).2+1:Nat):Int);omega),rfl,rfl,ar rfl (by omega),trivial⟩,St.as (s.pick _ (List.Sublist.cons _ (List.Sublist.cons _ (List.Sublist.cons_cons _ (List.Sublist.cons_cons _ (List.Sublist.cons_cons _ (List.nil_sublist _))))))) ⟨(by rw [e1]),rfl,rfl,trivial⟩,rfl,by omega⟩⟩
 ·refine wpIn_exit (aZ (aZ (bQ (aH (qr (aj 2 h s a6 rfl rfl (ak _ _ _) rfl fun f h=>aq ac 1 h rfl fun f h=>ao 1 h s a6 rfl rfl rfl (ak _ _ _) (ak _ _ _) (a7 _ _ (bV (((s.getG 0 rfl) (hT.keep s.ext))))) fun w1 s=>e9 ac 1 h rfl fun f h=>wpIn_ret (cU 1 rfl h s a6 rfl rfl (ak _ _ _) rfl (by rw [← qj,← show k=l.length from by omega];exact ⟨vp,kp,rfl,s.sel [0] rfl (by decide)⟩))))))))
end Go.Proofs.YtobfeflheaobiaaGreatDoor
