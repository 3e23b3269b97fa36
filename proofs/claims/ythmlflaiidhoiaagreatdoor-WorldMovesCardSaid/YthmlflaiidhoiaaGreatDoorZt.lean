/- Package server: what its functions answer. -/
import Derived.Test.YthmlflaiidhoiaaGreatDoorZq
set_option linter.unusedVariables false
namespace Go.Proofs.YthmlflaiidhoiaaGreatDoor
open Go.RowKit
theorem jB (sv:Sv) (vt:Value) (w:World) (hT:eP w vt sv.tb) (htl:sv.tb.length<=1000):Calls Tryz.prog 71 [.agg (bC sv.no sv.sec vt)].toArray w (cb w (is (.bool (cW sv)))):=by
 refine bK Tryz.func71 rfl Tryz.ntmps71 rfl λf h s=>qr (aV (bC sv.no sv.sec vt) h s rfl rfl rfl λf w1 b1 h s=>e9 ac 1 h rfl λf h=>ah ?_)
 refine rs ac 1 h rfl λf h=>ag (V:=.int .i64 sv.no) (ae (aJ.of_own s 0 rfl) 0 (CY _ _ _)) h bJ rfl rfl λf h=>lL ac h rfl (λh0 f h=>?_) (λh0 f h=>?_)
 ·refine e9 ac 17 h rfl λf h=>aL3 (av rfl h s rfl (by show _=_;unfold cW;rw [h0];rfl))
 ·skip
  refine am ac 2 h rfl λf h=>cy h rfl (ag (V:=.int .i64 sv.no) (ae (aJ.of_own s 0 rfl) 0 (CY _ _ _)) h bJ rfl rfl λf h=>cy h rfl (j8 ac (decide (sv.no<=15)) h rfl ((aI3.2 (by omega))) (λh1 f h=>?_) (λh1 f h=>?_)))
  ·refine e9 ac 13 h rfl λf h=>aL3 (av rfl h s rfl (by show _=_;unfold cW;rw [h0,h1];rfl))
  ·skip
   refine am ac 3 h rfl λf h=>cy h rfl (ag (V:=.string sv.sec) (ae (aJ.of_own s 0 rfl) 1 (ar1 _ _ _)) h jv rfl rfl λf h=>cy h rfl (ai h (dU aR4 (h.ev rfl)) rfl λf h=>cy h rfl (j8 ac (decide (sv.sec.size<=64)) h rfl ((aI3.2 (by omega))) (λh2 f h=>?_) (λh2 f h=>?_))))
   ·refine e9 ac 7 h rfl λf h=>aL3 (av rfl h s rfl (by show _=_;unfold cW;rw [h0,h1,h2];rfl))
   ·refine am ac 3 h rfl λf h=>cy h rfl (ag (V:=vt) (ae (aJ.of_own s 0 rfl) 2 (yg _ _ _)) h jb rfl rfl λf h=>cy h rfl (dF h s vR (iq sv.tb vt _ (hT.keep s.ext) htl) rfl rfl λf w1 h s=>e9 ac 2 h rfl λf h=>aL3 (av rfl h s rfl (by show _=_;unfold cW;rw [h0,h1,h2];rfl))))
theorem HJ (sv:Sv) (vt:Value) (a b:Id) (w:World) (hT:eP w vt sv.tb) (htl:sv.tb.length<=1000):Calls Tryz.prog 151 [.agg (bC sv.no sv.sec vt),iy a,iy b].toArray w (cb w (GvP w sv vt a b)):=by
 refine bK Tryz.func151 rfl Tryz.ntmps151 rfl λf h s=>qr (aV (bC sv.no sv.sec vt) h s rfl rfl rfl λf w1 b3 h s=>aV (aH a) h s rfl rfl rfl λf w1 b4 h s=>aV (aH b) h s rfl rfl rfl λf w1 b5 h s=>aK (bC 0 ByteArray.empty ax) h s i4 rfl rfl λf w1 b6 h s=>e9 ac 2 h rfl λf h=>ah (ah ?_))
 refine aw (ak 3 h s cC rfl rfl (aG _ _ _) rfl λf h=>fh h s Aj (jB sv vt _ (hT.keep s.ext) htl) rfl rfl (λr0 f w1 h s=>?_) (λr0 f w1 h s=>?_))
 ·refine e9 ac 1 h rfl λf h=>dG h rfl (qr (ai h (kT FD) rfl λf h=>al 0 h s cC rfl rfl rfl (aG _ _ _) (aG _ _ _) (cA _ _ (rfl)) λw1 s=>e9 ac 2 h rfl λf h=>rt ?_))
  exact cY 0 rfl h s cC rfl rfl (aG _ _ _) rfl rfl (QL r0 (s.pick _ (aJ0 _)))
 ·refine e9 ac 1 h rfl λf h=>nH h rfl (bU ac 1 h rfl λf h=>ag (V:=vt) (ae (aJ.of_own s 3 rfl) 2 (yg _ _ _)) h jb rfl rfl λf h=>ak 2 h s bW rfl rfl (by first|exact aA _|exact au _ _) rfl λf h=>ak 1 h s bW rfl rfl (by first|exact aA _|exact au _ _) rfl λf h=>aY h s XW (Jk sv.tb vt a b _ (hT.keep s.ext) (by omega)) rfl rfl ?_);rintro f w1 v21 ⟨va,vb,kva,rfl,hG⟩ hE h sq;replace s:=s.add hG;clear hG
  refine e9 ac 7 h rfl λf h=>bU ac 2 h rfl λf h=>aM 4 h s jb rfl rfl rfl (by rw [aG];omega) (bI (((s.getG 0 rfl) (hT.keep s.ext)).2)) λw1 s=>?_
  replace s:=s.recell (D:=bC sv.no sv.sec vb) 4 rfl (rfl)
  refine nt (qr (ak 4 h s cC rfl rfl (aG _ _ _) rfl λf h=>am ac 1 h rfl λf h=>al 1 h s cC rfl rfl rfl (aG _ _ _) (aG _ _ _) (cA _ _ (bI (((s.getG 0 rfl) (hT.keep s.ext)).2))) λw1 s=>e9 ac 2 h rfl λf h=>aL3 ?_))
  exact cY 1 rfl h s cC rfl rfl (aG _ _ _) rfl rfl (W8 r0 (s.sel [0] rfl (by decide)))
set_option maxHeartbeats 2000000 in
theorem wm (sv:Sv) (vt:Value) (l:List Tg) (vh:Value) (w:World) (hT:eP w vt sv.tb) (htl:sv.tb.length<=1000) (hR:eP w vh l) (hln:l.length<=1000):Calls Tryz.prog 102 [.agg (bC sv.no sv.sec vt),vh].toArray w (cb w (HaP w sv vt l vh)):=by
 refine bK Tryz.func102 rfl Tryz.ntmps102 rfl λf h s=>qr (aV (bC sv.no sv.sec vt) h s rfl rfl rfl λf w1 b2 h s=>aK (bC 0 ByteArray.empty ax) h s i4 rfl rfl λf w1 b4 h s=>e9 ac 2 h rfl λf h=>ah (ah ?_))
 refine aw (ak 1 h s cC rfl rfl (aG _ _ _) rfl λf h=>fh h s Aj (jB sv vt _ (hT.keep s.ext) htl) rfl rfl (λr0 f w1 h s=>?_) (λr0 f w1 h s=>?_))
 ·refine e9 ac 6 h rfl λf h=>dG h rfl (qr (ai h (kT FD) rfl λf h=>al 0 h s cC rfl rfl rfl (aG _ _ _) (aG _ _ _) (cA _ _ (rfl)) λw1 s=>e9 ac 2 h rfl λf h=>rt ?_))
  exact cY 0 rfl h s cC rfl rfl (aG _ _ _) rfl rfl (Ff (.inl r0) (s.pick _ (aJ0 _)))
 ·skip
  cases t0:(dz l:Bool)
  ·refine am ac 3 h rfl λf h=>cy h rfl (jD false h s vR (iq l vh _ (hR.keep s.ext) hln) (t0) rfl rfl λf w1 h s=>e9 ac 2 h rfl λf h=>dG h rfl (qr (ai h (kT FD) rfl λf h=>al 0 h s cC rfl rfl rfl (aG _ _ _) (aG _ _ _) (cA _ _ (rfl)) λw1 s=>e9 ac 2 h rfl λf h=>rt ?_)))
   exact cY 0 rfl h s cC rfl rfl (aG _ _ _) rfl rfl (Ff (.inr ⟨r0,t0⟩) (s.pick _ (aJ0 _)))
  ·refine am ac 3 h rfl λf h=>cy h rfl (aY h s vR (aR (.bool true) (iq l vh _ (hR.keep s.ext) hln) (aH3 Value.bool t0)) rfl rfl ?_);intro f w1 v9 hT hE h s;obtain rfl:=hT
   refine e9 ac 2 h rfl λf h=>nH h rfl (bU ac 1 h rfl λf h=>ag (V:=vt) (ae (aJ.of_own s 1 rfl) 2 (yg _ _ _)) h jb rfl rfl λf h=>aY h s JR (ol sv.tb htl vt _ (hT.keep s.ext)) rfl rfl ?_);intro f w1 v23 hT9 hE h sq;replace s:=s.sl_new hE hT9
   refine am ac 1 h rfl λf h=>aM 2 h s jb rfl rfl rfl (by rw [aG];omega) (bk (s.getSl 0 rfl)) λw1 s=>?_
   replace s:=s.recell (D:=bC sv.no sv.sec v23) 2 rfl (rfl)
   refine nt (bE ac 1 h rfl λf h=>ah (qr ?_))
   obtain ⟨k0,s⟩:=((s.grp0 (S:=λ_=>True) (λ_=>trivial)).perm (aO3 ..)).grp1 (S':=λw9=>eP w9 vt sv.tb->eP w9 v23 (ie l sv.tb 0).1) (λw9 h9 _ _=>h9)
   refine am ac 1 h rfl λf h=>ck h (hR.keep s.ext) aR9 rfl rfl λf h=>e9 ac 1 h rfl λf h=>aL4 (aL6 (λnn aa ww=>∃ k:Nat,∃ vp:Value,∃ kp:List Nat,Sl 47 aa [(0,.agg (bC sv.no sv.sec vt)),(1,vh),(2,.pointer (some ⟨b2,0,none⟩)),(4,.pointer (some ⟨b4,0,none⟩)),(23,v23),(7,.int .i64 ((ie l sv.tb k).2:Int)),(25,vh),(26,.int .i64 (l.length:Int)),(27,.int .i64 (k:Int))]/\St w [(.grp kp (λw9=>eP w9 vt sv.tb->eP w9 vp (ie l sv.tb k).1)),.blk b4 (.cells (bC 0 ByteArray.empty ax) 54),.blk b2 (.cells (bC sv.no sv.sec vp) 54)] ww/\nn=l.length - k/\k<=l.length) (l.length - (0)) ⟨0,v23,k0,h.only ⟨rfl,rfl,rfl,rfl,rfl,rfl,rfl,rfl,ao rfl (by omega),trivial⟩,s.as ⟨rfl,rfl,rfl,trivial⟩,rfl,aJ3 _⟩ ?_)
   rintro _ f w1 ⟨k,vp,kp,h,s,hnn,hp0⟩
   refine bE ac 1 h rfl λf h=>ah (cB h rfl (λhc=>?_) (λhc=>?_))
   ·refine kt (ah (aL4 (qr ?_)))
    have hkl:k<l.length:=by omega
    refine ai h (bj (hR.keep s.ext) (k) aR9 gf (h.ev rfl) (h.ev rfl) (by omega) (by omega)) rfl λf h=>ap ((hR.keep s.ext).el (k) (by omega) (by decide) (D:=aU (l.getD k cr)) (fP l k hkl)) h cn rfl (aE _) rfl λf h=>aK (aU cr) h s j9 rfl rfl λf w1 b9 h s=>al 0 h s cn rfl rfl rfl (aE _) (aE _) (cP _) λw1 s=>nt (ah ?_)
    cases p0:(decide ((ce (ie l sv.tb k).1 (l.getD k cr)).length<=32):Bool)
    ·refine aw ?_
     have hle9:=(zD htl (l:=l) k).1
     have hle8:=(zD htl (l:=l) k).2
     have hrk:=we (fk.1 r0).2.2.2 (gh.1 t0).may k
     have hmk:=(gh.1 t0).may _ (qt hkl)
     refine am ac 1 h rfl λf h=>ag (V:=vp) (ae (aJ.of_own s 3 rfl) 2 (yg _ _ _)) h jb rfl rfl λf h=>ak 0 h s cn rfl rfl (aE _) rfl λf h=>aY h s Ub (Ci (ie l sv.tb k).1 vp (l.getD k cr) _ ((s.getG 1 rfl) (hT.keep s.ext)) hle9) rfl rfl ?_;rintro f w1 v35 ⟨vq,kq,rfl,hG⟩ hE h sq;replace s:=s.add hG;clear hG
     refine am ac 1 h rfl λf h=>?_
     obtain ⟨z1,z2⟩:=EN hrk hmk p0
     refine e9 ac 4 h rfl λf h=>ah (bU ac 1 h rfl λf h=>jK ac h rfl (by rw [z1];rfl) λf h=>iY h rfl (bU ac 1 h rfl λf h=>ai h (bo (h.ev rfl) (h.ev rfl) (by omega)) rfl λf h=>e9 ac 1 h rfl λf h=>aL5 (aO (bS (aD (aw (ai h (bo (h.ev rfl) (h.ev rfl) (by omega)) rfl λf h=>e9 ac 1 h rfl λf h=>?_)))))))
     have hq:=OG hkl p0
     have e1:(ie l sv.tb (k+1)).1=(ie l sv.tb k).1:=by rw [hq]
     exact ⟨_,by omega,⟨k+1,vp,kp,h.only ⟨rfl,rfl,rfl,rfl,rfl,ao rfl (by rw [hq];show _=(((ie l sv.tb k).2+1:Nat):Int);omega),rfl,rfl,ao rfl (by omega),trivial⟩,St.as (s.pick _ (aG8 _ (aG8 _ (aG7 _ (aG7 _ (aG7 _ (aJ0 _))))))) ⟨(by rw [e1]),rfl,rfl,trivial⟩,rfl,by omega⟩⟩
    ·refine aw ?_
     have hle9:=(zD htl (l:=l) k).1
     have hle8:=(zD htl (l:=l) k).2
     have hrk:=we (fk.1 r0).2.2.2 (gh.1 t0).may k
     have hmk:=(gh.1 t0).may _ (qt hkl)
     refine am ac 1 h rfl λf h=>ag (V:=vp) (ae (aJ.of_own s 3 rfl) 2 (yg _ _ _)) h jb rfl rfl λf h=>ak 0 h s cn rfl rfl (aE _) rfl λf h=>aY h s Ub (Ci (ie l sv.tb k).1 vp (l.getD k cr) _ ((s.getG 1 rfl) (hT.keep s.ext)) hle9) rfl rfl ?_;rintro f w1 v35 ⟨vq,kq,rfl,hG⟩ hE h sq;replace s:=s.add hG;clear hG
     refine am ac 1 h rfl λf h=>?_
     obtain ⟨z1,z2⟩:=TB hrk hmk p0
     refine e9 ac 4 h rfl λf h=>ah (bU ac 1 h rfl λf h=>lj ac h rfl (by rw [z1];rfl) λf h=>gS h rfl (rs ac 2 h rfl λf h=>aM 4 h s jb rfl rfl rfl (by rw [aG];omega) (bI (((s.getG 0 rfl) ((s.getG 2 rfl) (hT.keep s.ext))))) λw1 s=>?_))
     replace s:=s.recell (D:=bC sv.no sv.sec vq) 4 rfl (rfl)
     refine az (aW (aD (aw (ai h (bo (h.ev rfl) (h.ev rfl) (by omega)) rfl λf h=>e9 ac 1 h rfl λf h=>?_))))
     have hq:=ML hkl p0
     have e1:(ie l sv.tb (k+1)).1=(qh (ie l sv.tb k).1 (l.getD k cr)):=by rw [hq,z2]
     replace s:=(s.sel [0,2,3,4] rfl (by decide))
     replace s:=s.merge (S:=λw9=>eP w9 vt sv.tb->eP w9 vq (ie l sv.tb (k+1)).1) (λw9 a b c=>by rw [e1];exact a (b c))
     exact ⟨_,by omega,⟨k+1,vq,kq++kp,h.only ⟨rfl,rfl,rfl,rfl,rfl,ao rfl (by rw [hq]),rfl,rfl,ao rfl (by omega),trivial⟩,St.as (s.pick _ (aG7 _ (aG7 _ (aG7 _ (aJ0 _))))) ⟨rfl,rfl,rfl,trivial⟩,rfl,by omega⟩⟩
   ·refine aL5 (aO (aO (bS (aD (qr (ak 2 h s cC rfl rfl (aG _ _ _) rfl λf h=>am ac 1 h rfl λf h=>al 1 h s cC rfl rfl rfl (aG _ _ _) (aG _ _ _) (cA _ _ (bI (((s.getG 0 rfl) (hT.keep s.ext))))) λw1 s=>e9 ac 2 h rfl λf h=>aL3 ?_))))))
    exact cY 1 rfl h s cC rfl rfl (aG _ _ _) rfl rfl (by obtain rfl:k=l.length:=(by omega);exact UU r0 t0 rfl (s.sel [0] rfl (by decide)))
end Go.Proofs.YthmlflaiidhoiaaGreatDoor
