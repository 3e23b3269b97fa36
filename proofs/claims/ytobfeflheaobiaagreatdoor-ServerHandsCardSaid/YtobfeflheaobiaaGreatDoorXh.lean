/- Triggers handed over: Hand and Give. -/
import Derived.Test.YtobfeflheaobiaaGreatDoorXs
set_option linter.unusedVariables false
set_option linter.unusedSimpArgs false
set_option linter.unusedSectionVars false
namespace Go.Proofs.YtobfeflheaobiaaGreatDoor
open Go.RowKit
set_option maxHeartbeats 2000000 in
theorem wO (sv:Sv) (vt:Value) (l:List Tg) (vh:Value) (w:World) (hT:cK w vt sv.tb) (htl:sv.tb.length≤1000) (hR:cK w vh l) (hln:l.length≤1000):Calls Tryz.prog 16 [.agg (aC sv.no sv.sec vt),vh].toArray w (bT w (JG w sv vt l vh)):=by
 refine br Tryz.func16 rfl Tryz.ntmps16 rfl fun f h s=>qr (aR (aC sv.no sv.sec vt) h s rfl rfl rfl fun f w1 b2 h s=>aJ (aC 0 ByteArray.empty aM) h s dZ rfl rfl fun f w1 b4 h s=>e9 ac 2 h rfl fun f h=>al (al ?_))
 refine az (aj 1 h s a6 rfl rfl (ak _ _ _) rfl fun f h=>fJ h s zO (fV sv vt _ (hT.keep s.ext) htl) rfl rfl (fun r0 f w1 h s=>?_) (fun r0 f w1 h s=>?_))
 ·refine e9 ac 6 h rfl fun f h=>cv h rfl (qr (ag h (bC eG) rfl fun f h=>ao 0 h s a6 rfl rfl rfl (ak _ _ _) (ak _ _ _) (a7 _ _ (rfl)) fun w1 s=>e9 ac 2 h rfl fun f h=>rt ?_))
  exact bs 0 rfl h s a6 rfl rfl (ak _ _ _) rfl rfl (vD (.inl r0) (s.pick _ (List.nil_sublist _)))
 ·skip
  cases t0:(bp l:Bool)
  ·refine aq ac 3 h rfl fun f h=>ca h rfl (jQ false h s iW (c0 l vh _ (hR.keep s.ext) hln) (t0) rfl rfl fun f w1 h s=>e9 ac 2 h rfl fun f h=>cv h rfl (qr (ag h (bC eG) rfl fun f h=>ao 0 h s a6 rfl rfl rfl (ak _ _ _) (ak _ _ _) (a7 _ _ (rfl)) fun w1 s=>e9 ac 2 h rfl fun f h=>rt ?_)))
   exact bs 0 rfl h s a6 rfl rfl (ak _ _ _) rfl rfl (vD (.inr ⟨r0,t0⟩) (s.pick _ (List.nil_sublist _)))
  ·refine aq ac 3 h rfl fun f h=>ca h rfl (bk h s iW (bj (.bool true) (c0 l vh _ (hR.keep s.ext) hln) (congrArg Value.bool t0)) rfl rfl ?_);intro f w1 v9 hT hE h s;obtain rfl:=hT
   refine e9 ac 2 h rfl fun f h=>jw h rfl (cd ac 1 h rfl fun f h=>ap (V:=vt) (ae (aO.of_own s 1 rfl) 2 (im _ _ _)) h di rfl rfl fun f h=>bk h s AE (jB sv.tb htl vt _ (hT.keep s.ext)) rfl rfl ?_);intro f w1 v23 hT9 hE h sq;replace s:=s.sl_new hE hT9
   refine aq ac 1 h rfl fun f h=>bD 2 h s di rfl rfl rfl (by rw [ak];omega) (gR (s.getSl 0 rfl)) fun w1 s=>?_
   replace s:=s.recell (D:=aC sv.no sv.sec v23) 2 rfl (rfl)
   refine nt (bG ac 1 h rfl fun f h=>al (qr ?_))
   obtain ⟨k0,s⟩:=((s.grp0 (S:=fun _=>True) (fun _=>trivial)).perm (List.Perm.swap ..)).grp1 (S':=fun w9=>cK w9 vt sv.tb→cK w9 v23 (eT l sv.tb 0).1) (fun w9 h9 _ _=>h9)
   refine aq ac 1 h rfl fun f h=>eh h (hR.keep s.ext) Tryz.underlying22 rfl rfl fun f h=>e9 ac 1 h rfl fun f h=>wpIn_block (wpIn_loop_ghost (fun nn aa ww=>∃ k:Nat,∃ vp:Value,∃ kp:List Nat,Sl 47 aa [(0,.agg (aC sv.no sv.sec vt)),(1,vh),(2,.pointer (some ⟨b2,0,none⟩)),(4,.pointer (some ⟨b4,0,none⟩)),(23,v23),(7,.int .i64 ((eT l sv.tb k).2:Int)),(25,vh),(26,.int .i64 (l.length:Int)),(27,.int .i64 (k:Int))]∧St w [(.grp kp (fun w9=>cK w9 vt sv.tb→cK w9 vp (eT l sv.tb k).1)),.blk b4 (.cells (aC 0 ByteArray.empty aM) 24),.blk b2 (.cells (aC sv.no sv.sec vp) 24)] ww∧nn=l.length - k∧k≤l.length) (l.length - (0)) ⟨0,v23,k0,h.only ⟨rfl,rfl,rfl,rfl,rfl,rfl,rfl,rfl,ar rfl (by omega),trivial⟩,s.as ⟨rfl,rfl,rfl,trivial⟩,rfl,Nat.zero_le _⟩ ?_)
   rintro _ f w1 ⟨k,vp,kp,h,s,hnn,hp0⟩
   refine bG ac 1 h rfl fun f h=>al (cL h rfl (fun hc=>?_) (fun hc=>?_))
   ·refine kt (al (wpIn_block (qr ?_)))
    have hkl:k<l.length:=by omega
    refine ag h (bW (hR.keep s.ext) (k) Tryz.underlying22 cZ (h.ev rfl) (h.ev rfl) (by omega) (by omega)) rfl fun f h=>aE ((hR.keep s.ext).el (k) (by omega) (by decide) (D:=au (l.getD k aN)) (dd l k hkl)) h aT rfl (ai _) rfl fun f h=>aJ (au aN) h s dM rfl rfl fun f w1 b9 h s=>ao 0 h s aT rfl rfl rfl (ai _) (ai _) (aY _) fun w1 s=>nt (al ?_)
    cases p0:(decide ((cP (eT l sv.tb k).1 (l.getD k aN)).length≤32):Bool)
    ·refine az ?_
     have hle9:=(jT htl (l:=l) k).1
     have hle8:=(jT htl (l:=l) k).2
     have hrk:=oK (dq.1 r0).2.2.2 (dK.1 t0).may k
     have hmk:=(dK.1 t0).may _ (fC hkl)
     refine aq ac 1 h rfl fun f h=>ap (V:=vp) (ae (aO.of_own s 3 rfl) 2 (im _ _ _)) h di rfl rfl fun f h=>aj 0 h s aT rfl rfl (ai _) rfl fun f h=>bk h s x5 (m4 (eT l sv.tb k).1 vp (l.getD k aN) _ ((s.getG 1 rfl) (hT.keep s.ext)) hle9) rfl rfl ?_;rintro f w1 v35 ⟨vq,kq,rfl,hG⟩ hE h sq;replace s:=s.add hG;clear hG
     refine aq ac 1 h rfl fun f h=>?_
     obtain ⟨z1,z2⟩:=pq hrk hmk p0
     refine e9 ac 4 h rfl fun f h=>al (cd ac 1 h rfl fun f h=>jK ac h rfl (by rw [z1];rfl) fun f h=>A4 h rfl (cd ac 1 h rfl fun f h=>ag h (bh (h.ev rfl) (h.ev rfl) (by omega)) rfl fun f h=>e9 ac 1 h rfl fun f h=>wpIn_exit (aZ (bQ (aH (az (ag h (bh (h.ev rfl) (h.ev rfl) (by omega)) rfl fun f h=>e9 ac 1 h rfl fun f h=>?_)))))))
     have hq:=vk hkl p0
     have e1:(eT l sv.tb (k+1)).1=(eT l sv.tb k).1:=by rw [hq]
     exact ⟨_,by omega,⟨k+1,vp,kp,h.only ⟨rfl,rfl,rfl,rfl,rfl,ar rfl (by rw [hq];show _=(((eT l sv.tb k).2+1:Nat):Int);omega),rfl,rfl,ar rfl (by omega),trivial⟩,St.as (s.pick _ (List.Sublist.cons _ (List.Sublist.cons _ (List.Sublist.cons_cons _ (List.Sublist.cons_cons _ (List.Sublist.cons_cons _ (List.nil_sublist _))))))) ⟨(by rw [e1]),rfl,rfl,trivial⟩,rfl,by omega⟩⟩
    ·refine az ?_
     have hle9:=(jT htl (l:=l) k).1
     have hle8:=(jT htl (l:=l) k).2
     have hrk:=oK (dq.1 r0).2.2.2 (dK.1 t0).may k
     have hmk:=(dK.1 t0).may _ (fC hkl)
     refine aq ac 1 h rfl fun f h=>ap (V:=vp) (ae (aO.of_own s 3 rfl) 2 (im _ _ _)) h di rfl rfl fun f h=>aj 0 h s aT rfl rfl (ai _) rfl fun f h=>bk h s x5 (m4 (eT l sv.tb k).1 vp (l.getD k aN) _ ((s.getG 1 rfl) (hT.keep s.ext)) hle9) rfl rfl ?_;rintro f w1 v35 ⟨vq,kq,rfl,hG⟩ hE h sq;replace s:=s.add hG;clear hG
     refine aq ac 1 h rfl fun f h=>?_
     obtain ⟨z1,z2⟩:=zo hrk hmk p0
     refine e9 ac 4 h rfl fun f h=>al (cd ac 1 h rfl fun f h=>my ac h rfl (by rw [z1];rfl) fun f h=>tY h rfl (rs ac 2 h rfl fun f h=>bD 4 h s di rfl rfl rfl (by rw [ak];omega) (bV (((s.getG 0 rfl) ((s.getG 2 rfl) (hT.keep s.ext))))) fun w1 s=>?_))
     replace s:=s.recell (D:=aC sv.no sv.sec vq) 4 rfl (rfl)
     refine aB (bg (aH (az (ag h (bh (h.ev rfl) (h.ev rfl) (by omega)) rfl fun f h=>e9 ac 1 h rfl fun f h=>?_))))
     have hq:=wo hkl p0
     have e1:(eT l sv.tb (k+1)).1=(ip (eT l sv.tb k).1 (l.getD k aN)):=by rw [hq,z2]
     replace s:=(s.sel [0,2,3,4] rfl (by decide))
     replace s:=s.merge (S:=fun w9=>cK w9 vt sv.tb→cK w9 vq (eT l sv.tb (k+1)).1) (fun w9 a b c=>by rw [e1];exact a (b c))
     exact ⟨_,by omega,⟨k+1,vq,kq++kp,h.only ⟨rfl,rfl,rfl,rfl,rfl,ar rfl (by rw [hq]),rfl,rfl,ar rfl (by omega),trivial⟩,St.as (s.pick _ (List.Sublist.cons_cons _ (List.Sublist.cons_cons _ (List.Sublist.cons_cons _ (List.nil_sublist _))))) ⟨rfl,rfl,rfl,trivial⟩,rfl,by omega⟩⟩
   ·refine wpIn_exit (aZ (aZ (bQ (aH (qr (aj 2 h s a6 rfl rfl (ak _ _ _) rfl fun f h=>aq ac 1 h rfl fun f h=>ao 1 h s a6 rfl rfl rfl (ak _ _ _) (ak _ _ _) (a7 _ _ (bV (((s.getG 0 rfl) (hT.keep s.ext))))) fun w1 s=>e9 ac 2 h rfl fun f h=>wpIn_ret ?_))))))
    exact bs 1 rfl h s a6 rfl rfl (ak _ _ _) rfl rfl (by obtain rfl:k=l.length:=(by omega);exact F5 r0 t0 rfl (s.sel [0] rfl (by decide)))
theorem xR (sv:Sv) (vt:Value) (a b:Id) (w:World) (hT:cK w vt sv.tb) (htl:sv.tb.length≤1000):Calls Tryz.prog 17 [.agg (aC sv.no sv.sec vt),en a,en b].toArray w (bT w (Jm w sv vt a b)):=by
 refine br Tryz.func17 rfl Tryz.ntmps17 rfl fun f h s=>qr (aR (aC sv.no sv.sec vt) h s rfl rfl rfl fun f w1 b3 h s=>aR (aw a) h s rfl rfl rfl fun f w1 b4 h s=>aR (aw b) h s rfl rfl rfl fun f w1 b5 h s=>aJ (aC 0 ByteArray.empty aM) h s dZ rfl rfl fun f w1 b6 h s=>e9 ac 2 h rfl fun f h=>al (al ?_))
 refine az (aj 3 h s a6 rfl rfl (ak _ _ _) rfl fun f h=>fJ h s zO (fV sv vt _ (hT.keep s.ext) htl) rfl rfl (fun r0 f w1 h s=>?_) (fun r0 f w1 h s=>?_))
 ·refine e9 ac 1 h rfl fun f h=>cv h rfl (qr (ag h (bC eG) rfl fun f h=>ao 0 h s a6 rfl rfl rfl (ak _ _ _) (ak _ _ _) (a7 _ _ (rfl)) fun w1 s=>e9 ac 2 h rfl fun f h=>rt ?_))
  exact bs 0 rfl h s a6 rfl rfl (ak _ _ _) rfl rfl (CM r0 (s.pick _ (List.nil_sublist _)))
 ·refine e9 ac 1 h rfl fun f h=>jw h rfl (cd ac 1 h rfl fun f h=>ap (V:=vt) (ae (aO.of_own s 3 rfl) 2 (im _ _ _)) h di rfl rfl fun f h=>aj 2 h s aP rfl rfl (by first|exact am _|exact ah _ _) rfl fun f h=>aj 1 h s aP rfl rfl (by first|exact am _|exact ah _ _) rfl fun f h=>bk h s G5 (yC sv.tb vt a b _ (hT.keep s.ext) (by omega)) rfl rfl ?_);rintro f w1 v21 ⟨va,vb,kva,rfl,hG⟩ hE h sq;replace s:=s.add hG;clear hG
  refine e9 ac 7 h rfl fun f h=>cd ac 2 h rfl fun f h=>bD 4 h s di rfl rfl rfl (by rw [ak];omega) (bV (((s.getG 0 rfl) (hT.keep s.ext)).2)) fun w1 s=>?_
  replace s:=s.recell (D:=aC sv.no sv.sec vb) 4 rfl (rfl)
  refine nt (qr (aj 4 h s a6 rfl rfl (ak _ _ _) rfl fun f h=>aq ac 1 h rfl fun f h=>ao 1 h s a6 rfl rfl rfl (ak _ _ _) (ak _ _ _) (a7 _ _ (bV (((s.getG 0 rfl) (hT.keep s.ext)).2))) fun w1 s=>e9 ac 2 h rfl fun f h=>wpIn_ret ?_))
  exact bs 1 rfl h s a6 rfl rfl (ak _ _ _) rfl rfl (F9 r0 (s.sel [0] rfl (by decide)))
end Go.Proofs.YtobfeflheaobiaaGreatDoor
