/- Package world and what it stands on, so far as it is wanted: what each function answers. -/
import Derived.Test.YtkhepdpfdhdlaaaGreatDoorZb
import Derived.Test.YtkhepdpfdhdlaaaGreatDoorZa
import Derived.Test.YtkhepdpfdhdlaaaGreatDoorZi
import Derived.Test.YtkhepdpfdhdlaaaGreatDoorZg
import Derived.Test.YtkhepdpfdhdlaaaGreatDoorZc
import Derived.Test.YtkhepdpfdhdlaaaGreatDoorSu
import Derived.Test.YtkhepdpfdhdlaaaGreatDoorSw
set_option linter.unusedVariables false
set_option linter.unusedSimpArgs false
set_option linter.unusedSectionVars false
namespace Go.Proofs.YtkhepdpfdhdlaaaGreatDoor
open Go.RowKit
theorem Hm (H:List H4) (vh:Value)  (w:World) (hH:bp w vh 5 H.length (aC H)) (hW:∀ x∈H,gn w x.2.1 x.2.2.1 x.2.2.2 x.1) (hHb:∀ x∈H,B9 x.1) (hHl:H.length<=1000):Calls Tryz.prog 16 [vh].toArray w (bW w (is (.bool (pS H)))):=by
 refine bG Tryz.func16 rfl Tryz.ntmps16 rfl λf h s=>bF ac 1 h rfl λf h=>ah (cu ac 1 h rfl λf h=>ce h (hH.keep s.ext) aa0 rfl rfl λf h=>e9 ac 1 h rfl λf h=>Y9 (Zb (λnn aa ww=>∃ k:Nat,Sl 31 aa [(0,vh),(5,vh),(6,.int .i64 (H.length:Int)),(7,.int .i64 (k:Int))]/\St w [] ww/\nn=H.length - k/\k<=H.length/\∀ j,j<k->sE (H.map (·.1)) j=true) (H.length - (0)) ⟨0,h.only ⟨rfl,rfl,rfl,av rfl (by omega),trivial⟩,s.as trivial,rfl,YO _,λj hj=>ZF hj (Zl _)⟩ ?_))
 rintro _ f w1 ⟨k,h,s,hnn,hp0,hp1⟩
 refine bF ac 1 h rfl λf h=>ah (dq h rfl (λhc=>?_) (λhc=>?_))
 ·refine kt (ah (Y9 (cu ac 1 h rfl λf h=>?_)))
  have hkl:k<H.length:=by omega
  refine ai h (bz (hH.keep s.ext) (k) aa0 oR (h.ev rfl) (h.ev rfl) (by omega) (by omega)) rfl λf h=>aB ((hH.keep s.ext).el (k) (by omega) (by decide) (D:=a8 (H.getD k aD).1.no (H.getD k aD).1.gt (H.getD k aD).2.1 (H.getD k aD).2.2.1 (H.getD k aD).2.2.2) (pE _ k hkl)) h dY rfl (aN _ _ _ _ _) rfl λf h=>aS (a8 0 0 aj aj aj) h s m8 rfl rfl λf w1 b4 h s=>ap ac 1 h rfl λf h=>ak 0 h s dY rfl rfl rfl (aN _ _ _ _ _) (aN _ _ _ _ _) (dE _ _ (bf ((hW _ (cr hkl)).1.keep s.ext)) (bf ((hW _ (cr hkl)).2.1.keep s.ext)) (bf ((hW _ (cr hkl)).2.2.keep s.ext))) λw1 s=>nt (ah ?_)
  cases h0:(bT (H.getD k aD).1:Bool)
  ·refine dF 18 h (by kernel_rfl) (ba 0 h s dY rfl rfl (aN _ _ _ _ _) rfl λf h=>bj h Hg (λw9 hE9=>aX (.bool false) (lu (H.getD k aD).1 (H.getD k aD).2.1 (H.getD k aD).2.2.1 (H.getD k aD).2.2.2 w9 ⟨(hW _ (cr hkl)).1.keep (s.ext.trans hE9),(hW _ (cr hkl)).2.1.keep (s.ext.trans hE9),(hW _ (cr hkl)).2.2.keep (s.ext.trans hE9)⟩ (hHb _ (cr hkl))) (Yu Value.bool h0)) rfl rfl λf h=>aq ac 16 h rfl λf h=>bQ s λw1 s=>ie h rfl (bF ac 1 h rfl λf h=>Y8 (bo (aV (aV (bo (aV (au rfl h s rfl (by show _=_;rw [show pS H=false from ur hkl (by rw [pc,h0];rfl)])))))))))
  ·skip
   refine dF 18 h (by kernel_rfl) (ba 0 h s dY rfl rfl (aN _ _ _ _ _) rfl λf h=>bj h Hg (λw9 hE9=>aX (.bool true) (lu (H.getD k aD).1 (H.getD k aD).2.1 (H.getD k aD).2.2.1 (H.getD k aD).2.2.2 w9 ⟨(hW _ (cr hkl)).1.keep (s.ext.trans hE9),(hW _ (cr hkl)).2.1.keep (s.ext.trans hE9),(hW _ (cr hkl)).2.2.keep (s.ext.trans hE9)⟩ (hHb _ (cr hkl))) (Yu Value.bool h0)) rfl rfl λf h=>aq ac 3 h rfl λf h=>a6 h rfl (HH ac (decide (0<k)) h rfl ((YE.2 (by omega))) (λh1 f h=>?_) (λh1 f h=>?_)))
   ·refine aq ac 12 h rfl λf h=>bQ s λw1 s=>yV h rfl (wpIn_skip (bw (aO (aG (ai h (bS (h.ev rfl) (h.ev rfl) (by omega)) rfl λf h=>e9 ac 1 h rfl λf h=>?_)))))
    exact ⟨_,by omega,⟨k+1,h.only ⟨rfl,rfl,rfl,av rfl (by omega),trivial⟩,St.as (s.pick _ (YJ [_] _)) trivial,rfl,by omega,fm hp1 (by rw [pc,h0,h1];rfl)⟩⟩
   ·skip
    refine aq ac 2 h rfl λf h=>a6 h rfl (ao (V:=.int .i64 (H.getD k aD).1.no) (ae (aJ.of_own s 0 rfl) 0 (CH _ _ _ _ _)) h bs rfl rfl λf h=>aq ac 2 h rfl λf h=>a6 h rfl (ar h (eI (h.ev rfl) (h.ev rfl) (by omega)) rfl λf h=>a6 h rfl (ar h (bz (hH.keep s.ext) ((k - 1)) aa0 oR (h.ev rfl) (h.ev rfl) (by have:=Yq h1;omega) (by have:=Yq h1;omega)) rfl λf h=>a6 h rfl (ar h (aW mj (h.ev rfl) ((hH.keep s.ext).some (by omega))) rfl λf h=>a6 h rfl (ao (V:=.int .i64 (H.getD (k - 1) aD).1.no) (cX (hH.keep s.ext) ((k - 1)*5+0) (Td _ (k - 1) (by omega))) h bs rfl rfl λf h=>a6 h rfl (HH ac (decide ((H.getD k aD).1.no<=(H.getD (k - 1) aD).1.no)) h rfl ((YE.2 (by omega))) (λh2 f h=>?_) (λh2 f h=>?_)))))))
    ·refine aq ac 2 h rfl λf h=>bQ s λw1 s=>yV h rfl (wpIn_skip (bw (aO (aG (ai h (bS (h.ev rfl) (h.ev rfl) (by omega)) rfl λf h=>e9 ac 1 h rfl λf h=>?_)))))
     exact ⟨_,by omega,⟨k+1,h.only ⟨rfl,rfl,rfl,av rfl (by omega),trivial⟩,St.as (s.pick _ (YJ [_] _)) trivial,rfl,by omega,fm hp1 (by rw [pc,h0,h1,h2];rfl)⟩⟩
    ·refine aq ac 2 h rfl λf h=>bQ s λw1 s=>ie h rfl (bF ac 1 h rfl λf h=>Y8 (bo (aV (aV (bo (aV (au rfl h s rfl (by show _=_;rw [show pS H=false from ur hkl (by rw [pc,h0,h1,h2];rfl)]))))))))
 ·refine Za (a7 (a7 (cd (aO (bF ac 1 h rfl λf h=>Y8 (au rfl h s rfl (by show _=_;rw [show pS H=true from Qq (λj hj=>hp1 j (by omega))])))))))
set_option maxHeartbeats 4000000 in
theorem vP (X:Wx) (vo vs vh vl:Value)  (w:World) (hX:RdW w vo vs vh vl X) (hb:BdW (ax X)):Calls Tryz.prog 19 [.agg (dM vo vs vh vl X.M.last X.M.now)].toArray w (bW w (Xk w 46 66 X)):=by
 have hbS:=hb.sx
 have hbH:=hb.hx
 have hbM:X.M.l.length<=100:=hb.ml
 have hbL:=hb.ox
 refine bG Tryz.func19 rfl Tryz.ntmps19 rfl λf h s=>qr (bh (dM vo vs vh vl X.M.last X.M.now) h s rfl rfl rfl λf w1 b1 h s=>aS (dM aj aj aj aj 0 0) h s oM rfl rfl λf w1 b2 h s=>nt (cu ac 2 h rfl λf h=>ag (V:=vo) (ae (aJ.of_own s 1 rfl) 0 (uZ _ _ _ _ _ _)) h eG rfl rfl λf h=>bB h s M5 (pN X.L (by omega) vo _ (hX.ov.1.keep s.ext) (λx hx=>(hX.keep s.ext).ov.2 x hx)) rfl rfl ?_));intro f w1 v11 hT hE h sq;replace s:=s.sl_new hE hT
 refine ap ac 2 h rfl λf h=>aR 2 h s eG rfl rfl rfl (by rw [bL];omega) (bA (s.getSl 0 rfl)) λw1 s=>?_
 replace s:=s.recell (D:=dM v11 vs vh vl X.M.last X.M.now) 2 rfl (rfl)
 refine nt (ah (qr ?_))
 replace s:=s.grp0 (S:=jM (X.L.take 0)) (λ_ x hx=>by simp at hx)
 refine ap ac 2 h rfl λf h=>ag (V:=v11) (ae (aJ.of_own s 3 rfl) 0 (uZ _ _ _ _ _ _)) h eG rfl rfl λf h=>jB 1 h s Z8 rfl rfl rfl λf h=>e9 ac 1 h rfl λf h=>Y9 (Zb (λnn aa ww=>∃ k:Nat,∃ Kd:List N3,∃ kd:List Nat,Sl 112 aa [(0,.agg (dM vo vs vh vl X.M.last X.M.now)),(1,.pointer (some ⟨b1,0,none⟩)),(2,.pointer (some ⟨b2,0,none⟩)),(11,v11),(16,v11),(17,.int .i64 (X.L.length:Int)),(18,.int .i64 (k:Int))]/\St w [(.grp kd (jM (Kd.take k))),.sl v11 72 68 Kd.length (aK Kd),.blk b2 (.cells (dM aj aj aj aj 0 0) 31),.blk b1 (.cells (dM v11 vs vh vl X.M.last X.M.now) 31)] ww/\nn=X.L.length - k/\k<=X.L.length/\nds Kd=nds X.L/\∀ j,k<=j->Kd.getD j z3=X.L.getD j z3) (X.L.length - (0)) ⟨0,X.L,[],h.only ⟨rfl,rfl,rfl,rfl,rfl,rfl,av rfl (by omega),trivial⟩,s.as ⟨rfl,rfl,rfl,rfl,trivial⟩,rfl,YO _,rfl,λj _=>rfl⟩ ?_)
 rintro _ f w1 ⟨k,Kd,kd,h,s,hnn,hp0,hp1,hp2⟩
 refine bF ac 1 h rfl λf h=>ah (dq h rfl (λhc=>?_) (λhc=>?_))
 ·refine kt (ah (Y9 (bF ac 2 h rfl λf h=>qr ?_)))
  have hkl:k<X.L.length:=by omega
  have hlk:Kd.length=X.L.length:=by have h9:=Yu List.length hp1;simpa [nds] using h9
  have hdk:k<Kd.length:=by omega
  have hxd:Kd.getD k z3=X.L.getD k z3:=hp2 k (YM _)
  have hx9:=hb.oe.each _ (cF hkl)
  refine ap ac 2 h rfl λf h=>ag (V:=v11) (ae (aJ.of_own s 3 rfl) 0 (uZ _ _ _ _ _ _)) h eG rfl rfl λf h=>ap ac 1 h rfl λf h=>ai h (bz (bp.of_own (s.getSl 1 rfl)) (k) Z8 r4 (h.ev rfl) (h.ev rfl) (by omega) (by omega)) rfl λf h=>e9 ac 1 h rfl λf h=>cu ac 3 h rfl λf h=>ai h (aW l4 (h.ev rfl) ((bp.of_own (s.getSl 1 rfl)).some (by omega))) rfl λf h=>ag (V:=(Kd.getD k z3).2.1) (cX (bp.of_own (s.getSl 1 rfl)) (k*68+66) (Fi Kd k hdk)) h eO rfl rfl λf h=>bB h s A4 (iT (X.L.getD k z3).1.sc (by omega) (Kd.getD k z3).2.1 _ (by rw [hxd];exact(hX.ov.2 _ (cF hkl)).1.keep s.ext)) rfl rfl ?_;intro f w1 v31 hT hE h sq;replace s:=s.sl_new hE hT
  refine ap ac 1 h rfl λf h=>ai h (aW l4 (h.ev rfl) ((bp.of_own (s.getSl 2 rfl)).some (by omega))) rfl λf h=>dX 2 h s eO rfl rfl rfl (by omega) (bA (s.getSl 0 rfl)) (show (aK Kd).set (k*68+66) v31=aK (Kd.set k ((⟨(Kd.getD k z3).1.me,(Kd.getD k z3).1.pr,(Kd.getD k z3).1.sc,(Kd.getD k z3).1.fg⟩,v31,(Kd.getD k z3).2.2):N3)) from xK hdk _ _) λw1 s=>nt (rs ac 3 h rfl λf h=>ai h (aW lX (h.ev rfl) ((bp.of_own (s.getSl 2 rfl)).some (by omega))) rfl λf h=>ag (V:=(Kd.getD k z3).2.2) (cX (bp.of_own (s.getSl 2 rfl)) (k*68+67) ((EN _ k (by rw [List.length_set];exact hdk)).trans (by rw [qo hdk]))) h eO rfl rfl λf h=>bB h s A4 (iT (X.L.getD k z3).1.fg (by omega) (Kd.getD k z3).2.2 _ (by rw [hxd];exact(hX.ov.2 _ (cF hkl)).2.keep s.ext)) rfl rfl ?_);intro f w1 v39 hT hE h sq;replace s:=s.sl_new hE hT
  refine ap ac 1 h rfl λf h=>ai h (aW lX (h.ev rfl) ((bp.of_own (s.getSl 3 rfl)).some (by omega))) rfl λf h=>dX 3 h s eO rfl rfl rfl (by omega) (bA (s.getSl 0 rfl)) (show (aK (Kd.set k ((⟨(Kd.getD k z3).1.me,(Kd.getD k z3).1.pr,(Kd.getD k z3).1.sc,(Kd.getD k z3).1.fg⟩,v31,(Kd.getD k z3).2.2):N3))).set (k*68+67) v39=aK (Kd.set k ((⟨(Kd.getD k z3).1.me,(Kd.getD k z3).1.pr,(Kd.getD k z3).1.sc,(Kd.getD k z3).1.fg⟩,v31,v39):N3)) from (vM (by rw [List.length_set];exact hdk) _ (Kd.getD k z3).1.fg).trans (by rw [qo hdk,xR])) λw1 s=>?_
  replace s:=s.resl (m:=(Kd.set k ((⟨(Kd.getD k z3).1.me,(Kd.getD k z3).1.pr,(Kd.getD k z3).1.sc,(Kd.getD k z3).1.fg⟩,v31,v39):N3)).length) (ys:=aK (Kd.set k ((⟨(Kd.getD k z3).1.me,(Kd.getD k z3).1.pr,(Kd.getD k z3).1.sc,(Kd.getD k z3).1.fg⟩,v31,v39):N3))) 3 rfl (by rw [List.length_set]) rfl
  refine ay (bw (aO (aG (ai h (bS (h.ev rfl) (h.ev rfl) (by omega)) rfl λf h=>e9 ac 1 h rfl λf h=>?_))))
  replace s:=s.bring 2 rfl
  replace s:=s.bring 1 rfl
  replace s:=s.bring 2 rfl
  replace s:St w [.sl v31 69 33 (X.L.getD k z3).1.sc.length (aw (X.L.getD k z3).1.sc),.sl v39 69 33 (X.L.getD k z3).1.fg.length (aw (X.L.getD k z3).1.fg),(.grp kd (jM (Kd.take k))),.sl v11 72 68 (Kd.set k ((⟨(Kd.getD k z3).1.me,(Kd.getD k z3).1.pr,(Kd.getD k z3).1.sc,(Kd.getD k z3).1.fg⟩,v31,v39):N3)).length (aK (Kd.set k ((⟨(Kd.getD k z3).1.me,(Kd.getD k z3).1.pr,(Kd.getD k z3).1.sc,(Kd.getD k z3).1.fg⟩,v31,v39):N3))),.blk b2 (.cells (dM aj aj aj aj 0 0) 31),.blk b1 (.cells (dM v11 vs vh vl X.M.last X.M.now) 31)] _:=s
  obtain ⟨kn,s⟩:=s.grpR (S':=jM ((Kd.set k ((⟨(Kd.getD k z3).1.me,(Kd.getD k z3).1.pr,(Kd.getD k z3).1.sc,(Kd.getD k z3).1.fg⟩,v31,v39):N3)).take (k+1))) (λw9 h1 h2 h3=>AJ hdk h3 ⟨by rw [← hxd] at h1;exact h1,by rw [← hxd] at h2;exact h2⟩)
  replace s:=s.bring 3 rfl
  replace s:=s.bring 3 rfl
  replace s:=s.bring 3 rfl
  replace s:=s.bring 3 rfl
  replace s:St w [(.grp kn (jM ((Kd.set k ((⟨(Kd.getD k z3).1.me,(Kd.getD k z3).1.pr,(Kd.getD k z3).1.sc,(Kd.getD k z3).1.fg⟩,v31,v39):N3)).take (k+1)))),.sl v11 72 68 (Kd.set k ((⟨(Kd.getD k z3).1.me,(Kd.getD k z3).1.pr,(Kd.getD k z3).1.sc,(Kd.getD k z3).1.fg⟩,v31,v39):N3)).length (aK (Kd.set k ((⟨(Kd.getD k z3).1.me,(Kd.getD k z3).1.pr,(Kd.getD k z3).1.sc,(Kd.getD k z3).1.fg⟩,v31,v39):N3))),.blk b2 (.cells (dM aj aj aj aj 0 0) 31),.blk b1 (.cells (dM v11 vs vh vl X.M.last X.M.now) 31)] _:=s
  exact ⟨_,by omega,⟨k+1,(Kd.set k ((⟨(Kd.getD k z3).1.me,(Kd.getD k z3).1.pr,(Kd.getD k z3).1.sc,(Kd.getD k z3).1.fg⟩,v31,v39):N3)),kn,h.only ⟨rfl,rfl,rfl,rfl,rfl,rfl,av rfl (by omega),trivial⟩,St.as s ⟨rfl,rfl,rfl,rfl,trivial⟩,rfl,by omega,Ba hp1 rfl hdk,λj hj=>(Na (by omega) _).trans (hp2 j (by omega))⟩⟩
 ·refine Za (a7 (a7 (cd (aO (qr ?_)))))
  have hpn:=hp1
  have hlz:Kd.length=X.L.length:=by have h9:=Yu List.length hp1;simpa [nds] using h9
  rw [show Kd.take k=Kd from YU (by omega)] at s
  clear hlz
  refine ap ac 1 h rfl λf h=>ag (V:=vs) (ae (aJ.of_own s 3 rfl) 1 (zL _ _ _ _ _ _)) h kL rfl rfl λf h=>bB h s Tz (HW X.S (by omega) vs _ (hX.sv.keep s.ext) (λx hx=>bf ((hX.keep s.ext).sw x hx))) rfl rfl ?_;intro f w1 v45 hT hE h sq;replace s:=s.sl_new hE hT
  refine ap ac 1 h rfl λf h=>aR 4 h s kL rfl rfl rfl (by rw [bL];omega) (bA (s.getSl 0 rfl)) λw1 s=>?_
  replace s:=s.recell (D:=dM v11 v45 vh vl X.M.last X.M.now) 4 rfl (rfl)
  refine nt (ah (qr ?_))
  replace s:=s.grp0 (S:=B3 (X.S.take 0)) (λ_ x hx=>by simp at hx)
  refine ap ac 1 h rfl λf h=>ag (V:=v45) (ae (aJ.of_own s 5 rfl) 1 (zL _ _ _ _ _ _)) h kL rfl rfl λf h=>jB 1 h s Z9 rfl rfl rfl λf h=>e9 ac 1 h rfl λf h=>Y9 (Zb (λnn aa ww=>∃ k:Nat,∃ Ks:List V2,∃ ks:List Nat,Sl 112 aa [(0,.agg (dM vo vs vh vl X.M.last X.M.now)),(1,.pointer (some ⟨b1,0,none⟩)),(2,.pointer (some ⟨b2,0,none⟩)),(11,v11),(16,v11),(45,v45),(48,v45),(49,.int .i64 (X.S.length:Int)),(50,.int .i64 (k:Int))]/\St w [(.grp ks (B3 (Ks.take k))),.sl v45 46 3 Ks.length (aQ Ks),(.grp kd (jM Kd)),.sl v11 72 68 Kd.length (aK Kd),.blk b2 (.cells (dM aj aj aj aj 0 0) 31),.blk b1 (.cells (dM v11 v45 vh vl X.M.last X.M.now) 31)] ww/\nn=X.S.length - k/\k<=X.S.length/\Ks.map (·.1)=X.S.map (·.1)/\∀ j,k<=j->Ks.getD j er=X.S.getD j er) (X.S.length - (0)) ⟨0,X.S,[],h.only ⟨rfl,rfl,rfl,rfl,rfl,rfl,rfl,rfl,av rfl (by omega),trivial⟩,s.as ⟨rfl,rfl,rfl,rfl,rfl,rfl,trivial⟩,rfl,YO _,rfl,λj _=>rfl⟩ ?_)
  rintro _ f w1 ⟨k,Ks,ks,h,s,hnn,hp0,hp1,hp2⟩
  refine bF ac 1 h rfl λf h=>ah (dq h rfl (λhc=>?_) (λhc=>?_))
  ·refine kt (ah (Y9 (qr ?_)))
   have hkl:k<X.S.length:=by omega
   have hlk:Ks.length=X.S.length:=by have h9:=Yu List.length hp1;simpa using h9
   have hdk:k<Ks.length:=by omega
   have hxd:Ks.getD k er=X.S.getD k er:=hp2 k (YM _)
   have hx9:=hb.se hkl
   refine e9 ac 2 h rfl λf h=>eu 0 12 [[],[0],[],[],[3],[],[3,4,5],[3,4,5,6],[3,4,5,6,7],[3,4,5,6,7,8],[0,1,2,3,4,5,6,7,8,9],[0,1,2,3,4,5,6,7,8,9,10],[0,1,2,3,4,5,6,7,8,9,10,11]] [[],[],[],[],[],[],[],[],[],[],[],[],[]] [] [.v _,.v v45,.v _,.v _,.v v45,.v _,.v (.pointer (some (bI v45 (k*3)))),.v (.pointer (some (bI v45 (k*3+2)))),.v ((Ks.getD k er).2),.m (λv=>[.sl (v 9) 50 67 (X.S.getD k er).1.tb.length (eE (X.S.getD k er).1.tb)]),.v (.pointer (some (bI v45 (k*3)))),.v (.pointer (some (bI v45 (k*3+2)))),.n] _ h s rfl (by kernel_rfl) (by kernel_rfl) (by kernel_rfl) (fB ac h rfl rfl rfl (cp ?_ (fB ac h rfl rfl rfl (fB ac h rfl rfl rfl (cp ?_ (fB ac h rfl rfl rfl (cp ?_ (cp ?_ (cp ?_ (cp ?_ (cp ?_ (cp ?_ (trivial))))))))))))) [0,1,2,3,4,5,6,7,8,9,10,11] (by kernel_rfl) ?_
   ·intro f9 w2 vl13 E9 hs9 hd9 hl hF s
    have h:=cG [(53,_)] h hs9 hd9 ⟨bg hl 53 0 (by kernel_rfl) (hF 0 (by decide)),trivial⟩
    refine ag (V:=v45) (ae (aJ.of_own s 5 rfl) 1 (zL _ _ _ _ _ _)) h kL rfl rfl λf h=>ay ⟨_,bk 54 h rfl rfl,rfl,s⟩
   ·intro f9 w2 vl13 E9 hs9 hd9 hl hF s
    have h:=cG [(56,_)] h hs9 hd9 ⟨bg hl 56 3 (by kernel_rfl) (hF 3 (by decide)),trivial⟩
    refine ag (V:=v45) (ae (aJ.of_own s 5 rfl) 1 (zL _ _ _ _ _ _)) h kL rfl rfl λf h=>ay ⟨_,bk 57 h rfl rfl,rfl,s⟩
   ·intro f9 w2 vl13 E9 hs9 hd9 hl hF s
    have h:=cG [(57,_),(58,_)] h hs9 hd9 ⟨bg hl 57 4 (by kernel_rfl) (hF 4 (by decide)),bg hl 58 5 (by kernel_rfl) (hF 5 (by decide)),trivial⟩
    refine ai h (bz (bp.of_own (s.getSl 1 rfl)) (k) Z9 A5 (h.ev rfl) (h.ev rfl) (by omega) (by omega)) rfl λf h=>ay ⟨_,bk 59 h rfl rfl,rfl,s⟩
   ·intro f9 w2 vl13 E9 hs9 hd9 hl hF s
    have h:=cG [(59,_)] h hs9 hd9 ⟨bg hl 59 6 (by kernel_rfl) (hF 6 (by decide)),trivial⟩
    refine ai h (aW tB (h.ev rfl) ((bp.of_own (s.getSl 1 rfl)).some (by omega))) rfl λf h=>ay ⟨_,bk 60 h rfl rfl,rfl,s⟩
   ·intro f9 w2 vl13 E9 hs9 hd9 hl hF s
    have h:=cG [(60,_)] h hs9 hd9 ⟨bg hl 60 7 (by kernel_rfl) (hF 7 (by decide)),trivial⟩
    refine ag (V:=(Ks.getD k er).2) (cX (bp.of_own (s.getSl 1 rfl)) (k*3+2) (Ny hdk)) h Ay rfl rfl λf h=>ay ⟨_,bk 61 h rfl rfl,rfl,s⟩
   ·intro f9 w2 vl13 E9 hs9 hd9 hl hF s
    have h:=cG [(61,_)] h hs9 hd9 ⟨bg hl 61 8 (by kernel_rfl) (hF 8 (by decide)),trivial⟩
    refine bB h s R2 (Ad (X.S.getD k er).1.tb (by omega) (Ks.getD k er).2 _ (by rw [hxd];exact(hX.sw _ (ga hkl)).keep s.ext)) rfl rfl ?_;intro f w1 v62 hT hE h sq;replace s:=s.sl_new hE hT
    exact ay ⟨_,bk 62 h rfl rfl,trivial,s⟩
   ·intro f9 w2 vl13 E9 hs9 hd9 hl hF s
    have h:=cG [(54,_),(55,_)] h hs9 hd9 ⟨bg hl 54 1 (by kernel_rfl) (hF 1 (by decide)),bg hl 55 2 (by kernel_rfl) (hF 2 (by decide)),trivial⟩
    refine ai h (bz (bp.of_own (s.getSl 1 rfl)) (k) Z9 A5 (h.ev rfl) (h.ev rfl) (by omega) (by omega)) rfl λf h=>ay ⟨_,bk 63 h rfl rfl,rfl,s⟩
   ·intro f9 w2 vl13 E9 hs9 hd9 hl hF s
    have h:=cG [(63,_)] h hs9 hd9 ⟨bg hl 63 10 (by kernel_rfl) (hF 10 (by decide)),trivial⟩
    refine ai h (aW tB (h.ev rfl) ((bp.of_own (s.getSl 1 rfl)).some (by omega))) rfl λf h=>ay ⟨_,bk 64 h rfl rfl,rfl,s⟩
   intro f w1 vl13 hs9 hd9 hv hr hF s
   replace hv:=λi d h9=>hv i d (show Nat.blt i 12=true from h9)
   replace h:=dN 12 (ops:=_) [(53,_),(54,_),(55,_),(56,_),(57,_),(58,_),(59,_),(60,_),(61,_),(62,(vl13 9)),(63,_),(64,_)] h hs9 hd9 hr ⟨(hv 0 53 rfl rfl).trans (hF 0 rfl),(hv 1 54 rfl rfl).trans (hF 1 rfl),(hv 2 55 rfl rfl).trans (hF 2 rfl),(hv 3 56 rfl rfl).trans (hF 3 rfl),(hv 4 57 rfl rfl).trans (hF 4 rfl),(hv 5 58 rfl rfl).trans (hF 5 rfl),(hv 6 59 rfl rfl).trans (hF 6 rfl),(hv 7 60 rfl rfl).trans (hF 7 rfl),(hv 8 61 rfl rfl).trans (hF 8 rfl),hv 9 62 rfl rfl,(hv 10 63 rfl rfl).trans (hF 10 rfl),(hv 11 64 rfl rfl).trans (hF 11 rfl),trivial⟩ (by kernel_rfl)
   replace s:St w [.sl (vl13 9) 50 67 (X.S.getD k er).1.tb.length (eE (X.S.getD k er).1.tb),(.grp ks (B3 (Ks.take k))),.sl v45 46 3 Ks.length (aQ Ks),(.grp kd (jM Kd)),.sl v11 72 68 Kd.length (aK Kd),.blk b2 (.cells (dM aj aj aj aj 0 0) 31),.blk b1 (.cells (dM v11 v45 vh vl X.M.last X.M.now) 31)] _:=s
   refine dX 2 h s Ay rfl rfl rfl (by omega) (bA (s.getSl 0 rfl)) (show (aQ Ks).set (k*3+2) (vl13 9)=aQ (Ks.set k (((Ks.getD k er).1,(vl13 9)):V2)) from LC hdk _) λw1 s=>?_
   replace s:=s.resl (m:=(Ks.set k (((Ks.getD k er).1,(vl13 9)):V2)).length) (ys:=aQ (Ks.set k (((Ks.getD k er).1,(vl13 9)):V2))) 2 rfl (by rw [List.length_set]) rfl
   refine ay (bw (aO (aG (ai h (bS (h.ev rfl) (h.ev rfl) (by omega)) rfl λf h=>e9 ac 1 h rfl λf h=>?_))))
   replace s:=s.bring 1 rfl
   replace s:=s.bring 1 rfl
   replace s:St w [.sl (vl13 9) 50 67 (X.S.getD k er).1.tb.length (eE (X.S.getD k er).1.tb),(.grp ks (B3 (Ks.take k))),.sl v45 46 3 (Ks.set k (((Ks.getD k er).1,(vl13 9)):V2)).length (aQ (Ks.set k (((Ks.getD k er).1,(vl13 9)):V2))),(.grp kd (jM Kd)),.sl v11 72 68 Kd.length (aK Kd),.blk b2 (.cells (dM aj aj aj aj 0 0) 31),.blk b1 (.cells (dM v11 v45 vh vl X.M.last X.M.now) 31)] _:=s
   obtain ⟨kn,s⟩:=s.slG (S':=B3 ((Ks.set k (((Ks.getD k er).1,(vl13 9)):V2)).take (k+1))) (λw9 h1 h3=>vj hdk h3 (by rw [← hxd] at h1;exact h1))
   replace s:=s.bring 5 rfl
   replace s:=s.bring 5 rfl
   replace s:=s.bring 5 rfl
   replace s:=s.bring 5 rfl
   replace s:=s.bring 5 rfl
   replace s:=s.bring 5 rfl
   replace s:St w [(.grp kn (B3 ((Ks.set k (((Ks.getD k er).1,(vl13 9)):V2)).take (k+1)))),.sl v45 46 3 (Ks.set k (((Ks.getD k er).1,(vl13 9)):V2)).length (aQ (Ks.set k (((Ks.getD k er).1,(vl13 9)):V2))),(.grp kd (jM Kd)),.sl v11 72 68 Kd.length (aK Kd),.blk b2 (.cells (dM aj aj aj aj 0 0) 31),.blk b1 (.cells (dM v11 v45 vh vl X.M.last X.M.now) 31)] _:=s
   exact ⟨_,by omega,⟨k+1,(Ks.set k (((Ks.getD k er).1,(vl13 9)):V2)),kn,h.only ⟨rfl,rfl,rfl,rfl,rfl,rfl,rfl,rfl,av rfl (by omega),trivial⟩,St.as s ⟨rfl,rfl,rfl,rfl,rfl,rfl,trivial⟩,rfl,by omega,(w8 (x:=((Ks.getD k er).1,(vl13 9))) (z:=er) (·.1) hdk rfl).trans hp1,λj hj=>(HS (by omega) _ _).trans (hp2 j (by omega))⟩⟩
  ·refine Za (a7 (a7 (cd (aO (qr ?_)))))
   have hps:=hp1
   have hlz:Ks.length=X.S.length:=by have h9:=Yu List.length hp1;simpa using h9
   rw [show Ks.take k=Ks from YU (by omega)] at s
   clear hlz
   refine ap ac 1 h rfl λf h=>ag (V:=vh) (ae (aJ.of_own s 5 rfl) 2 (yA _ _ _ _ _ _)) h jl rfl rfl λf h=>bB h s Sm (Hd X.H (by omega) vh _ (hX.ho.keep s.ext) (λx hx=>⟨bf ((hX.keep s.ext).hw x hx).1,bf ((hX.keep s.ext).hw x hx).2.1,bf ((hX.keep s.ext).hw x hx).2.2⟩)) rfl rfl ?_;intro f w1 v68 hT hE h sq;replace s:=s.sl_new hE hT
   refine ap ac 1 h rfl λf h=>aR 6 h s jl rfl rfl rfl (by rw [bL];omega) (bA (s.getSl 0 rfl)) λw1 s=>?_
   replace s:=s.recell (D:=dM v11 v45 v68 vl X.M.last X.M.now) 6 rfl (rfl)
   refine nt (ah (qr ?_))
   replace s:=s.grp0 (S:=sR (X.H.take 0)) (λ_ x hx=>by simp at hx)
   refine ap ac 1 h rfl λf h=>ag (V:=v68) (ae (aJ.of_own s 7 rfl) 2 (yA _ _ _ _ _ _)) h jl rfl rfl λf h=>jB 1 h s aa0 rfl rfl rfl λf h=>e9 ac 1 h rfl λf h=>Y9 (Zb (λnn aa ww=>∃ k:Nat,∃ Kh:List H4,∃ kh:List Nat,Sl 112 aa [(0,.agg (dM vo vs vh vl X.M.last X.M.now)),(1,.pointer (some ⟨b1,0,none⟩)),(2,.pointer (some ⟨b2,0,none⟩)),(11,v11),(16,v11),(45,v45),(48,v45),(68,v68),(71,v68),(72,.int .i64 (X.H.length:Int)),(73,.int .i64 (k:Int))]/\St w [(.grp kh (sR (Kh.take k))),.sl v68 66 5 Kh.length (aC Kh),(.grp ks (B3 Ks)),.sl v45 46 3 Ks.length (aQ Ks),(.grp kd (jM Kd)),.sl v11 72 68 Kd.length (aK Kd),.blk b2 (.cells (dM aj aj aj aj 0 0) 31),.blk b1 (.cells (dM v11 v45 v68 vl X.M.last X.M.now) 31)] ww/\nn=X.H.length - k/\k<=X.H.length/\Kh.map (·.1)=X.H.map (·.1)/\∀ j,k<=j->Kh.getD j aD=X.H.getD j aD) (X.H.length - (0)) ⟨0,X.H,[],h.only ⟨rfl,rfl,rfl,rfl,rfl,rfl,rfl,rfl,rfl,rfl,av rfl (by omega),trivial⟩,s.as ⟨rfl,rfl,rfl,rfl,rfl,rfl,rfl,rfl,trivial⟩,rfl,YO _,rfl,λj _=>rfl⟩ ?_)
   rintro _ f w1 ⟨k,Kh,kh,h,s,hnn,hp0,hp1,hp2⟩
   refine bF ac 1 h rfl λf h=>ah (dq h rfl (λhc=>?_) (λhc=>?_))
   ·refine kt (ah (Y9 (bF ac 2 h rfl λf h=>qr ?_)))
    have hkl:k<X.H.length:=by omega
    have hlk:Kh.length=X.H.length:=by have h9:=Yu List.length hp1;simpa using h9
    have hdk:k<Kh.length:=by omega
    have hxd:Kh.getD k aD=X.H.getD k aD:=hp2 k (YM _)
    have hx9:=hb.he hkl
    refine ap ac 1 h rfl λf h=>ag (V:=v68) (ae (aJ.of_own s 7 rfl) 2 (yA _ _ _ _ _ _)) h jl rfl rfl λf h=>ap ac 1 h rfl λf h=>ai h (bz (bp.of_own (s.getSl 1 rfl)) (k) aa0 oR (h.ev rfl) (h.ev rfl) (by omega) (by omega)) rfl λf h=>e9 ac 1 h rfl λf h=>cu ac 3 h rfl λf h=>ai h (aW tG (h.ev rfl) ((bp.of_own (s.getSl 1 rfl)).some (by omega))) rfl λf h=>ag (V:=(Kh.getD k aD).2.1) (cX (bp.of_own (s.getSl 1 rfl)) (k*5+2) (OE hdk)) h x5 rfl rfl λf h=>bB h s Un (H6 (X.H.getD k aD).1.ws (by omega) (Kh.getD k aD).2.1 _ (by rw [hxd];exact(hX.hw _ (cr hkl)).1.keep s.ext)) rfl rfl ?_;intro f w1 v85 hT hE h sq;replace s:=s.sl_new hE hT
    refine ap ac 1 h rfl λf h=>ai h (aW tG (h.ev rfl) ((bp.of_own (s.getSl 2 rfl)).some (by omega))) rfl λf h=>dX 2 h s x5 rfl rfl rfl (by omega) (bA (s.getSl 0 rfl)) (show (aC Kh).set (k*5+2) v85=aC (Kh.set k (((Kh.getD k aD).1,v85,(Kh.getD k aD).2.2):H4)) from KQ hdk _) λw1 s=>nt (cu ac 3 h rfl λf h=>ai h (aW uc (h.ev rfl) ((bp.of_own (s.getSl 2 rfl)).some (by omega))) rfl λf h=>ag (V:=(Kh.getD k aD).2.2.1) (cX (bp.of_own (s.getSl 2 rfl)) (k*5+3) ((Qk (by rw [List.length_set];exact hdk)).trans (by rw [oh hdk]))) h Al rfl rfl λf h=>bB h s RC (D7 (X.H.getD k aD).1.hs (by omega) (Kh.getD k aD).2.2.1 _ (by rw [hxd];exact(hX.hw _ (cr hkl)).2.1.keep s.ext)) rfl rfl ?_);intro f w1 v93 hT hE h sq;replace s:=s.sl_new hE hT
    refine ap ac 1 h rfl λf h=>ai h (aW uc (h.ev rfl) ((bp.of_own (s.getSl 3 rfl)).some (by omega))) rfl λf h=>dX 3 h s Al rfl rfl rfl (by omega) (bA (s.getSl 0 rfl)) (show (aC (Kh.set k (((Kh.getD k aD).1,v85,(Kh.getD k aD).2.2):H4))).set (k*5+3) v93=aC (Kh.set k (((Kh.getD k aD).1,v85,v93,(Kh.getD k aD).2.2.2):H4)) from (LO (by rw [List.length_set];exact hdk) _).trans (by rw [oh hdk,List.set_set])) λw1 s=>nt (rs ac 3 h rfl λf h=>ai h (aW tu (h.ev rfl) ((bp.of_own (s.getSl 3 rfl)).some (by omega))) rfl λf h=>ag (V:=(Kh.getD k aD).2.2.2) (cX (bp.of_own (s.getSl 3 rfl)) (k*5+4) ((PD (by rw [List.length_set];exact hdk)).trans (by rw [oh hdk]))) h rj rfl rfl λf h=>bB h s M3 (xx (X.H.getD k aD).1.bx (by omega) (Kh.getD k aD).2.2.2 _ (by rw [hxd];exact(hX.hw _ (cr hkl)).2.2.keep s.ext)) rfl rfl ?_);intro f w1 v101 hT hE h sq;replace s:=s.sl_new hE hT
    refine ap ac 1 h rfl λf h=>ai h (aW tu (h.ev rfl) ((bp.of_own (s.getSl 4 rfl)).some (by omega))) rfl λf h=>dX 4 h s rj rfl rfl rfl (by omega) (bA (s.getSl 0 rfl)) (show (aC (Kh.set k (((Kh.getD k aD).1,v85,v93,(Kh.getD k aD).2.2.2):H4))).set (k*5+4) v101=aC (Kh.set k (((Kh.getD k aD).1,v85,v93,v101):H4)) from (IY (by rw [List.length_set];exact hdk) _).trans (by rw [oh hdk,List.set_set])) λw1 s=>?_
    replace s:=s.resl (m:=(Kh.set k (((Kh.getD k aD).1,v85,v93,v101):H4)).length) (ys:=aC (Kh.set k (((Kh.getD k aD).1,v85,v93,v101):H4))) 4 rfl (by rw [List.length_set]) rfl
    refine ay (bw (aO (aG (ai h (bS (h.ev rfl) (h.ev rfl) (by omega)) rfl λf h=>e9 ac 1 h rfl λf h=>?_))))
    replace s:=s.bring 3 rfl
    replace s:=s.bring 1 rfl
    replace s:=s.bring 2 rfl
    replace s:=s.bring 3 rfl
    replace s:St w [.sl v85 109 33 (X.H.getD k aD).1.ws.length (cn (X.H.getD k aD).1.ws),.sl v93 112 34 (X.H.getD k aD).1.hs.length (cm (X.H.getD k aD).1.hs),.sl v101 9 1 (X.H.getD k aD).1.bx.length (rQ (X.H.getD k aD).1.bx),(.grp kh (sR (Kh.take k))),.sl v68 66 5 (Kh.set k (((Kh.getD k aD).1,v85,v93,v101):H4)).length (aC (Kh.set k (((Kh.getD k aD).1,v85,v93,v101):H4))),(.grp ks (B3 Ks)),.sl v45 46 3 Ks.length (aQ Ks),(.grp kd (jM Kd)),.sl v11 72 68 Kd.length (aK Kd),.blk b2 (.cells (dM aj aj aj aj 0 0) 31),.blk b1 (.cells (dM v11 v45 v68 vl X.M.last X.M.now) 31)] _:=s
    obtain ⟨kn,s⟩:=s.sl3G (S':=sR ((Kh.set k (((Kh.getD k aD).1,v85,v93,v101):H4)).take (k+1))) (λw9 h1 h2 h3 h4=>vj hdk h4 (by rw [← hxd] at h1 h2 h3;exact ⟨h1,h2,h3⟩))
    replace s:=s.bring 7 rfl
    replace s:=s.bring 7 rfl
    replace s:=s.bring 7 rfl
    replace s:=s.bring 7 rfl
    replace s:=s.bring 7 rfl
    replace s:=s.bring 7 rfl
    replace s:=s.bring 7 rfl
    replace s:=s.bring 7 rfl
    replace s:St w [(.grp kn (sR ((Kh.set k (((Kh.getD k aD).1,v85,v93,v101):H4)).take (k+1)))),.sl v68 66 5 (Kh.set k (((Kh.getD k aD).1,v85,v93,v101):H4)).length (aC (Kh.set k (((Kh.getD k aD).1,v85,v93,v101):H4))),(.grp ks (B3 Ks)),.sl v45 46 3 Ks.length (aQ Ks),(.grp kd (jM Kd)),.sl v11 72 68 Kd.length (aK Kd),.blk b2 (.cells (dM aj aj aj aj 0 0) 31),.blk b1 (.cells (dM v11 v45 v68 vl X.M.last X.M.now) 31)] _:=s
    exact ⟨_,by omega,⟨k+1,(Kh.set k (((Kh.getD k aD).1,v85,v93,v101):H4)),kn,h.only ⟨rfl,rfl,rfl,rfl,rfl,rfl,rfl,rfl,rfl,rfl,av rfl (by omega),trivial⟩,St.as s ⟨rfl,rfl,rfl,rfl,rfl,rfl,rfl,rfl,trivial⟩,rfl,by omega,(w8 (x:=((Kh.getD k aD).1,v85,v93,v101)) (z:=aD) (·.1) hdk rfl).trans hp1,λj hj=>(HS (by omega) _ _).trans (hp2 j (by omega))⟩⟩
   ·refine Za (a7 (a7 (cd (aO (qr ?_)))))
    have hph:=hp1
    have hlz:Kh.length=X.H.length:=by have h9:=Yu List.length hp1;simpa using h9
    rw [show Kh.take k=Kh from YU (by omega)] at s
    clear hlz
    refine ap ac 2 h rfl λf h=>ag (V:=vl) (ae (aJ.of_own s 7 rfl) 3 (uq _ _ _ _ _ _)) h gf rfl rfl λf h=>bB h s LY (rP X.M.l (by omega) vl _ (hX.ml.keep s.ext)) rfl rfl ?_;intro f w1 v108 hT hE h sq;replace s:=s.sl_new hE hT
    refine ap ac 2 h rfl λf h=>aR 8 h s gf rfl rfl rfl (by rw [bL];omega) (bA (s.getSl 0 rfl)) λw1 s=>?_
    replace s:=s.recell (D:=dM v11 v45 v68 v108 X.M.last X.M.now) 8 rfl (rfl)
    refine nt (qr (al 8 h s eP rfl rfl (bL _ _ _ _ _ _) rfl λf h=>ak 7 h s eP rfl rfl rfl (bL _ _ _ _ _ _) (bL _ _ _ _ _ _) (fX _ _ (bA (s.getSl 6 rfl)) (bA (s.getSl 4 rfl)) (bA (s.getSl 2 rfl)) (bA (s.getSl 0 rfl))) λw1 s=>nt (Y8 (nq 7 rfl h s eP rfl rfl (bL _ _ _ _ _ _) (Oz hpn hps hph (s.sel [4,2,6,0,5,3,1] rfl (by decide)))))))
set_option maxHeartbeats 1000000 in
theorem Di (x y:V2) (bx:Nat)  (w:World) (hx9:x.2.oneCell'=true) (hy9:y.2.oneCell'=true) (hb:iF w bx #[.func (.func 76) #[] #[]]):Calls Tryz.prog 134 [.agg (de x.1.no x.1.sec x.2),.agg (de y.1.no y.1.sec y.2),.pointer (some ⟨bx,0,none⟩)].toArray w (bW w (is (.int .i64 (cc x.1.no y.1.no)))):=by
 refine bG Tryz.func134 rfl Tryz.ntmps134 rfl λf h s=>qr (bh (de x.1.no x.1.sec x.2) h s rfl rfl rfl λf w1 b3 h s=>bh (de y.1.no y.1.sec y.2) h s rfl rfl rfl λf w1 b4 h s=>e9 ac 1 h rfl λf h=>ah (eu 0 7 [[],[],[0,1],[],[],[0,1,2,3,4],[0,1,2,3,4,5],[0,1,2,3,4,5,6]] [[],[],[],[],[],[],[],[]] [] [.v (.func (.func 76) #[] #[]),.v (.agg (de x.1.no x.1.sec x.2)),.v (.int .i64 x.1.no),.v (.func (.func 76) #[] #[]),.v (.agg (de y.1.no y.1.sec y.2)),.v (.int .i64 y.1.no),.v (.int .i64 (cc x.1.no y.1.no)),.n] _ h s rfl (by kernel_rfl) (by kernel_rfl) (by kernel_rfl) (cp ?_ (cp ?_ (cp ?_ (cp ?_ (cp ?_ (cp ?_ (cp ?_ (trivial)))))))) [0,1,2,3,4,5,6] (by kernel_rfl) ?_))
 ·intro f9 w2 vl1 E9 hs9 hd9 hl hF s
  have h:=cG [(2,_)] h hs9 hd9 ⟨fh hl 2 (by kernel_rfl) (h.holds 2 _ rfl),trivial⟩
  refine ag (V:=.func (.func 76) #[] #[]) (ae (aJ.of_tab (hb.keep s.ext)) 0 (rfl)) h Gq rfl rfl λf h=>ay ⟨_,bk 6 h rfl rfl,rfl,s⟩
 ·intro f9 w2 vl1 E9 hs9 hd9 hl hF s
  have h:=cG [(3,_)] h hs9 hd9 ⟨fh hl 3 (by kernel_rfl) (h.holds 3 _ rfl),trivial⟩
  refine al 1 h s i8 rfl rfl (cB _ _ _) rfl λf h=>ay ⟨_,bk 7 h rfl rfl,rfl,s⟩
 ·intro f9 w2 vl1 E9 hs9 hd9 hl hF s
  have h:=cG [(6,_),(7,_)] h hs9 hd9 ⟨bg hl 6 0 (by kernel_rfl) (hF 0 (by decide)),bg hl 7 1 (by kernel_rfl) (hF 1 (by decide)),trivial⟩
  refine fP [.agg (de x.1.no x.1.sec x.2)] (caps:=[]) h s Mq rfl (wO x _ hx9) rfl rfl ?_;intro f w1 v9 hT hE h s;obtain rfl:=hT
  exact ay ⟨_,bk 8 h rfl rfl,rfl,s⟩
 ·intro f9 w2 vl1 E9 hs9 hd9 hl hF s
  have h:=cG [(2,_)] h hs9 hd9 ⟨fh hl 2 (by kernel_rfl) (h.holds 2 _ rfl),trivial⟩
  refine ag (V:=.func (.func 76) #[] #[]) (ae (aJ.of_tab (hb.keep s.ext)) 0 (rfl)) h Gq rfl rfl λf h=>ay ⟨_,bk 9 h rfl rfl,rfl,s⟩
 ·intro f9 w2 vl1 E9 hs9 hd9 hl hF s
  have h:=cG [(4,_)] h hs9 hd9 ⟨fh hl 4 (by kernel_rfl) (h.holds 4 _ rfl),trivial⟩
  refine al 0 h s i8 rfl rfl (cB _ _ _) rfl λf h=>ay ⟨_,bk 10 h rfl rfl,rfl,s⟩
 ·intro f9 w2 vl1 E9 hs9 hd9 hl hF s
  have h:=cG [(9,_),(10,_)] h hs9 hd9 ⟨bg hl 9 3 (by kernel_rfl) (hF 3 (by decide)),bg hl 10 4 (by kernel_rfl) (hF 4 (by decide)),trivial⟩
  refine fP [.agg (de y.1.no y.1.sec y.2)] (caps:=[]) h s Mq rfl (wO y _ hy9) rfl rfl ?_;intro f w1 v9 hT hE h s;obtain rfl:=hT
  exact ay ⟨_,bk 11 h rfl rfl,rfl,s⟩
 ·intro f9 w2 vl1 E9 hs9 hd9 hl hF s
  have h:=cG [(8,_),(11,_)] h hs9 hd9 ⟨bg hl 8 2 (by kernel_rfl) (hF 2 (by decide)),bg hl 11 5 (by kernel_rfl) (hF 5 (by decide)),trivial⟩
  refine da h s pL (jN x.1.no y.1.no _) rfl rfl λf w1 h s=>ay ⟨_,bk 12 h rfl rfl,rfl,s⟩
 intro f w1 vl1 hs9 hd9 hv hr hF s
 replace hv:=λi d h9=>hv i d (show Nat.blt i 7=true from h9)
 replace h:=dN 7 (ops:=_) [(6,_),(7,_),(8,_),(9,_),(10,_),(11,_),(12,_)] h hs9 hd9 hr ⟨(hv 0 6 rfl rfl).trans (hF 0 rfl),(hv 1 7 rfl rfl).trans (hF 1 rfl),(hv 2 8 rfl rfl).trans (hF 2 rfl),(hv 3 9 rfl rfl).trans (hF 3 rfl),(hv 4 10 rfl rfl).trans (hF 4 rfl),(hv 5 11 rfl rfl).trans (hF 5 rfl),(hv 6 12 rfl rfl).trans (hF 6 rfl),trivial⟩ (by kernel_rfl)
 refine e9 ac 1 h rfl λf h=>Y8 (au rfl h s rfl (rfl))
theorem CK (L:List V2) (hL:L.length<=1000) (ho:∀ x∈L,x.2.oneCell'=true) (hd:L.Pairwise λa b=>a.1.no≠b.1.no) (v:Value) (bx:Nat) (B8 B9:List Own) (w0 w:World) (s:St w0 (.sl v 46 3 L.length (aQ L)::B9) w) (hb:∀ w9 C,St w0 (C::B9) w9->iF w9 bx #[.func (.func 76) #[] #[]]):
 Calls Tryz.prog 133 [v,.func (.func 134) #[] #[.pointer (some ⟨bx,0,none⟩)]].toArray w (λe w'=>∃ r,e=.returned r/\∃ K:List V2,K.Perm L/\(K.Pairwise λa b=>a.1.no<b.1.no)/\St w0 (.sl v 46 3 K.length (aQ K)::B9) w'):=by
 by_cases h0:L.length=0
 ·have hl:L=[]:=List.eq_nil_of_length_eq_zero h0
  subst hl
  obtain ⟨a,c,rfl⟩:=dA (s.getSl 0 rfl)
  refine(Go.Proofs.AnyF.slices_SortFunc_none (P:=Tryz.prog) (ρ:=Tryz.layS_ren) Tryz.layS a c (.func (.func 134) #[] #[.pointer (some ⟨bx,0,none⟩)]) w).mono ?_
  rintro e w' ⟨rfl,rfl⟩
  exact ⟨_,rfl,[],List.Perm.refl _,List.Pairwise.nil,s⟩
 ·have ho9:∀ x∈L,∀ u∈qP x,u.oneCell'=true:=λx hx u hu=>ub (l:=[x]) (λy hy=>by rw [YF.1 hy];exact ho x hx) u (by unfold aQ;simpa using hu)
  obtain ⟨l,hl⟩:∃ l,l=UH qP L ho9:=⟨_,rfl⟩
  have hm:l.map (·.1)=L:=by rw [hl];exact um qP L ho9
  have hln:l.length=L.length:=by rw [hl];exact Bf qP L ho9
  have hc:aQ L=l.flatMap (subL qP):=by rw [ke,hm];rfl
  have hos:∀ x:fx qP,(λx:V2=>x.2.oneCell'=true) x.1:=λx=>x.2 _ (by unfold qP QU;simp)
  rw [hc,← hln] at s
  obtain ⟨g,cap,rfl,hlt,hgo,hH,hst⟩:=wx qP 3 mm (by decide) s rfl (by omega)
  have hcon:=Go.Proofs.AnyQ.slices_SortFunc (P:=Tryz.prog) (ρ:=Tryz.layS_ren) Tryz.layS 3 Tryz.isAgg46 Tryz.sizeOf46 (subL qP) (il qP 3 mm) (q8 qP) (λx y:fx qP=>cc x.1.1.no y.1.1.no) (xj qP (λx:V2=>x.1.no)) 134 #[.pointer (some ⟨bx,0,none⟩)] g 0 cap l.toArray w (enters_of Tryz.func134 (by kernel_rfl) rfl) (λm os dk hdk x y=>by
   have h9:=Di x.1 y.1 bx (Go.Proofs.sortWorldK (subL qP) 3 w g 0 m dk os) (hos x) (hos y) (hb _ _ (hst m os dk (by simpa using hdk)))
   refine h9.mono ?_
   rintro e w' ⟨v,rfl,hv,hE⟩
   obtain rfl:=hv
   exact ⟨rfl,ut hE⟩) hH hlt (by rw [List.size_toArray];omega)
  refine hcon.mono ?_
  rintro e w' ⟨rfl,d',n,os,hp,hs,rfl⟩
  have hsz:d'.size=l.length:=by rw [hp.1,List.size_toArray]
  have s2:=hst n os d' hsz
  obtain ⟨h1,h2⟩:=xh qP (λx:V2=>x.1.no) (l:=l) (by rw [← hm,List.pairwise_map] at hd;exact hd) hp hs
  have hKl:(d'.toList.map (·.1)).length=l.length:=by rw [Y6,YD,hsz]
  refine ⟨_,rfl,d'.toList.map (·.1),?_,List.pairwise_map.2 h2,?_⟩
  ·rw [← hm];exact h1.map _
  ·rw [ke] at s2;rw [hKl];exact s2
set_option maxHeartbeats 1000000 in
theorem tD (L:List V2) (x:V2) (v:Value) (B9:List Own) (w0 w:World) (s:St w0 (.sl v 46 3 L.length (aQ L)::B9) w) (hL:L.length<=900) (ho:∀ x∈L,x.2.oneCell'=true) (hx9:x.2.oneCell'=true) (hd:(L++[x]).Pairwise λa b=>a.1.no≠b.1.no):Calls Tryz.prog 75 [v,.agg (de x.1.no x.1.sec x.2),.func (.func 76) #[] #[]].toArray w (λe w9=>∃ v9,e=.returned v9/\∃ K:List V2,K.Perm (L++[x])/\(K.Pairwise λa b=>a.1.no<b.1.no)/\St w0 (.sl v9 46 3 K.length (aQ K)::B9) w9):=by
 have ho1:∀ y∈(L++[x]),y.2.oneCell'=true:=λy hy=>by rcases Y4.1 hy with hy|hy;exact ho y hy;rw [YF.1 hy];exact hx9
 refine dG Tryz.func75 rfl Tryz.ntmps75 rfl [(0,v),(1,.agg (de x.1.no x.1.sec x.2)),(2,.func (.func 76) #[] #[])] (by simp) λf h=>?_
 refine qr (bh (de x.1.no x.1.sec x.2) h s rfl rfl rfl λf w1 b4 h s=>bh (#[.func (.func 76) #[] #[]]) h s rfl rfl rfl λf w1 b5 h s=>e9 ac 1 h rfl λf h=>cu ac 1 h rfl λf h=>al 1 h s i8 rfl rfl (cB _ _ _) rfl λf h=>cT (vs:=[.agg (de x.1.no x.1.sec x.2)]) [.tmp 8] h s Z9 A2 rfl rfl (λv hv=>by rw [YF.1 hv];rfl) rfl rfl rfl λf w1 v9 h s=>?_)
 replace s:=s.resl (m:=1) (ys:=aQ [x]) 0 rfl rfl rfl
 refine ei 3 0 h s Z9 A2 rfl rfl rfl rfl (by decide) ((ub (l:=[x]) (λy hy=>by rw [YF.1 hy];exact hx9))) (by unfold maxLen;omega) (by omega) rfl λf w1 v10 h s=>?_
 replace s:=s.pick _ (YN _ _)
 replace s:=s.resl (m:=(L++[x]).length) (ys:=aQ (L++[x])) 2 rfl (by rw [Yy];rfl) (by unfold aQ;rw [Zh])
 refine e9 ac 1 h rfl λf h=>cu ac 1 h rfl λf h=>ai h (dz [.pointer (some ⟨b5,0,none⟩)] (kT h rfl)) rfl λf h=>?_
 replace s:=s.bring 2 rfl
 replace s:St w0 (.sl v10 46 3 (L++[x]).length (aQ (L++[x]))::.blk b5 (.cells (#[.func (.func 76) #[] #[]]) 142)::.blk b4 (.cells (de x.1.no x.1.sec x.2) 46)::B9) _:=s
 refine dI [v10,.func (.func 134) #[] #[.pointer (some ⟨b5,0,none⟩)]] h P0 (CK (L++[x]) (by rw [Yy];show L.length+1<=1000;omega) ho1 hd v10 b5 [] _ _ _ s (λw9 C9 s9=>iF.of_own s9 1 rfl)) rfl rfl ?_;rintro f w1 r ⟨K,hkp,hks,s⟩ h
 refine nt (bF ac 2 h rfl λf h=>Y8 (d6 rfl h rfl (⟨v10,rfl,K,hkp,hks,(s.pick _ (Yo _ (Yp _ (Yp _ (List.Sublist.refl _)))))⟩)))
set_option maxHeartbeats 1000000 in
theorem CD (x y:H4) (bx:Nat)  (w:World) (hx9:x.2.1.oneCell'=true/\x.2.2.1.oneCell'=true/\x.2.2.2.oneCell'=true) (hy9:y.2.1.oneCell'=true/\y.2.2.1.oneCell'=true/\y.2.2.2.oneCell'=true) (hb:iF w bx #[.func (.func 88) #[] #[]]):Calls Tryz.prog 148 [.agg (a8 x.1.no x.1.gt x.2.1 x.2.2.1 x.2.2.2),.agg (a8 y.1.no y.1.gt y.2.1 y.2.2.1 y.2.2.2),.pointer (some ⟨bx,0,none⟩)].toArray w (bW w (is (.int .i64 (cc x.1.no y.1.no)))):=by
 refine bG Tryz.func148 rfl Tryz.ntmps148 rfl λf h s=>qr (bh (a8 x.1.no x.1.gt x.2.1 x.2.2.1 x.2.2.2) h s rfl rfl rfl λf w1 b3 h s=>bh (a8 y.1.no y.1.gt y.2.1 y.2.2.1 y.2.2.2) h s rfl rfl rfl λf w1 b4 h s=>e9 ac 1 h rfl λf h=>ah (eu 0 7 [[],[],[0,1],[],[],[0,1,2,3,4],[0,1,2,3,4,5],[0,1,2,3,4,5,6]] [[],[],[],[],[],[],[],[]] [] [.v (.func (.func 88) #[] #[]),.v (.agg (a8 x.1.no x.1.gt x.2.1 x.2.2.1 x.2.2.2)),.v (.int .i64 x.1.no),.v (.func (.func 88) #[] #[]),.v (.agg (a8 y.1.no y.1.gt y.2.1 y.2.2.1 y.2.2.2)),.v (.int .i64 y.1.no),.v (.int .i64 (cc x.1.no y.1.no)),.n] _ h s rfl (by kernel_rfl) (by kernel_rfl) (by kernel_rfl) (cp ?_ (cp ?_ (cp ?_ (cp ?_ (cp ?_ (cp ?_ (cp ?_ (trivial)))))))) [0,1,2,3,4,5,6] (by kernel_rfl) ?_))
 ·intro f9 w2 vl1 E9 hs9 hd9 hl hF s
  have h:=cG [(2,_)] h hs9 hd9 ⟨fh hl 2 (by kernel_rfl) (h.holds 2 _ rfl),trivial⟩
  refine ag (V:=.func (.func 88) #[] #[]) (ae (aJ.of_tab (hb.keep s.ext)) 0 (rfl)) h Fa rfl rfl λf h=>ay ⟨_,bk 6 h rfl rfl,rfl,s⟩
 ·intro f9 w2 vl1 E9 hs9 hd9 hl hF s
  have h:=cG [(3,_)] h hs9 hd9 ⟨fh hl 3 (by kernel_rfl) (h.holds 3 _ rfl),trivial⟩
  refine al 1 h s dY rfl rfl (aN _ _ _ _ _) rfl λf h=>ay ⟨_,bk 7 h rfl rfl,rfl,s⟩
 ·intro f9 w2 vl1 E9 hs9 hd9 hl hF s
  have h:=cG [(6,_),(7,_)] h hs9 hd9 ⟨bg hl 6 0 (by kernel_rfl) (hF 0 (by decide)),bg hl 7 1 (by kernel_rfl) (hF 1 (by decide)),trivial⟩
  refine fP [.agg (a8 x.1.no x.1.gt x.2.1 x.2.2.1 x.2.2.2)] (caps:=[]) h s Ge rfl (o8 x _ hx9) rfl rfl ?_;intro f w1 v9 hT hE h s;obtain rfl:=hT
  exact ay ⟨_,bk 8 h rfl rfl,rfl,s⟩
 ·intro f9 w2 vl1 E9 hs9 hd9 hl hF s
  have h:=cG [(2,_)] h hs9 hd9 ⟨fh hl 2 (by kernel_rfl) (h.holds 2 _ rfl),trivial⟩
  refine ag (V:=.func (.func 88) #[] #[]) (ae (aJ.of_tab (hb.keep s.ext)) 0 (rfl)) h Fa rfl rfl λf h=>ay ⟨_,bk 9 h rfl rfl,rfl,s⟩
 ·intro f9 w2 vl1 E9 hs9 hd9 hl hF s
  have h:=cG [(4,_)] h hs9 hd9 ⟨fh hl 4 (by kernel_rfl) (h.holds 4 _ rfl),trivial⟩
  refine al 0 h s dY rfl rfl (aN _ _ _ _ _) rfl λf h=>ay ⟨_,bk 10 h rfl rfl,rfl,s⟩
 ·intro f9 w2 vl1 E9 hs9 hd9 hl hF s
  have h:=cG [(9,_),(10,_)] h hs9 hd9 ⟨bg hl 9 3 (by kernel_rfl) (hF 3 (by decide)),bg hl 10 4 (by kernel_rfl) (hF 4 (by decide)),trivial⟩
  refine fP [.agg (a8 y.1.no y.1.gt y.2.1 y.2.2.1 y.2.2.2)] (caps:=[]) h s Ge rfl (o8 y _ hy9) rfl rfl ?_;intro f w1 v9 hT hE h s;obtain rfl:=hT
  exact ay ⟨_,bk 11 h rfl rfl,rfl,s⟩
 ·intro f9 w2 vl1 E9 hs9 hd9 hl hF s
  have h:=cG [(8,_),(11,_)] h hs9 hd9 ⟨bg hl 8 2 (by kernel_rfl) (hF 2 (by decide)),bg hl 11 5 (by kernel_rfl) (hF 5 (by decide)),trivial⟩
  refine da h s pL (jN x.1.no y.1.no _) rfl rfl λf w1 h s=>ay ⟨_,bk 12 h rfl rfl,rfl,s⟩
 intro f w1 vl1 hs9 hd9 hv hr hF s
 replace hv:=λi d h9=>hv i d (show Nat.blt i 7=true from h9)
 replace h:=dN 7 (ops:=_) [(6,_),(7,_),(8,_),(9,_),(10,_),(11,_),(12,_)] h hs9 hd9 hr ⟨(hv 0 6 rfl rfl).trans (hF 0 rfl),(hv 1 7 rfl rfl).trans (hF 1 rfl),(hv 2 8 rfl rfl).trans (hF 2 rfl),(hv 3 9 rfl rfl).trans (hF 3 rfl),(hv 4 10 rfl rfl).trans (hF 4 rfl),(hv 5 11 rfl rfl).trans (hF 5 rfl),(hv 6 12 rfl rfl).trans (hF 6 rfl),trivial⟩ (by kernel_rfl)
 refine e9 ac 1 h rfl λf h=>Y8 (au rfl h s rfl (rfl))
theorem Cs (L:List H4) (hL:L.length<=1000) (ho:∀ x∈L,x.2.1.oneCell'=true/\x.2.2.1.oneCell'=true/\x.2.2.2.oneCell'=true) (hd:L.Pairwise λa b=>a.1.no≠b.1.no) (v:Value) (bx:Nat) (B8 B9:List Own) (w0 w:World) (s:St w0 (.sl v 66 5 L.length (aC L)::B9) w) (hb:∀ w9 C,St w0 (C::B9) w9->iF w9 bx #[.func (.func 88) #[] #[]]):
 Calls Tryz.prog 147 [v,.func (.func 148) #[] #[.pointer (some ⟨bx,0,none⟩)]].toArray w (λe w'=>∃ r,e=.returned r/\∃ K:List H4,K.Perm L/\(K.Pairwise λa b=>a.1.no<b.1.no)/\St w0 (.sl v 66 5 K.length (aC K)::B9) w'):=by
 by_cases h0:L.length=0
 ·have hl:L=[]:=List.eq_nil_of_length_eq_zero h0
  subst hl
  obtain ⟨a,c,rfl⟩:=dA (s.getSl 0 rfl)
  refine(Go.Proofs.AnyF.slices_SortFunc_none (P:=Tryz.prog) (ρ:=Tryz.layH_ren) Tryz.layH a c (.func (.func 148) #[] #[.pointer (some ⟨bx,0,none⟩)]) w).mono ?_
  rintro e w' ⟨rfl,rfl⟩
  exact ⟨_,rfl,[],List.Perm.refl _,List.Pairwise.nil,s⟩
 ·have ho9:∀ x∈L,∀ u∈mz x,u.oneCell'=true:=λx hx u hu=>uC (l:=[x]) (λy hy=>by rw [YF.1 hy];exact ho x hx) u (by unfold aC;simpa using hu)
  obtain ⟨l,hl⟩:∃ l,l=UH mz L ho9:=⟨_,rfl⟩
  have hm:l.map (·.1)=L:=by rw [hl];exact um mz L ho9
  have hln:l.length=L.length:=by rw [hl];exact Bf mz L ho9
  have hc:aC L=l.flatMap (subL mz):=by rw [ke,hm];rfl
  have hos:∀ x:fx mz,(λx:H4=>x.2.1.oneCell'=true/\x.2.2.1.oneCell'=true/\x.2.2.2.oneCell'=true) x.1:=λx=>⟨x.2 _ (by unfold mz Ip;simp),x.2 _ (by unfold mz Ip;simp),x.2 _ (by unfold mz Ip;simp)⟩
  rw [hc,← hln] at s
  obtain ⟨g,cap,rfl,hlt,hgo,hH,hst⟩:=wx mz 5 fS (by decide) s rfl (by omega)
  have hcon:=Go.Proofs.AnyQ.slices_SortFunc (P:=Tryz.prog) (ρ:=Tryz.layH_ren) Tryz.layH 5 Tryz.isAgg66 Tryz.sizeOf66 (subL mz) (il mz 5 fS) (q8 mz) (λx y:fx mz=>cc x.1.1.no y.1.1.no) (xj mz (λx:H4=>x.1.no)) 148 #[.pointer (some ⟨bx,0,none⟩)] g 0 cap l.toArray w (enters_of Tryz.func148 (by kernel_rfl) rfl) (λm os dk hdk x y=>by
   have h9:=CD x.1 y.1 bx (Go.Proofs.sortWorldK (subL mz) 5 w g 0 m dk os) (hos x) (hos y) (hb _ _ (hst m os dk (by simpa using hdk)))
   refine h9.mono ?_
   rintro e w' ⟨v,rfl,hv,hE⟩
   obtain rfl:=hv
   exact ⟨rfl,ut hE⟩) hH hlt (by rw [List.size_toArray];omega)
  refine hcon.mono ?_
  rintro e w' ⟨rfl,d',n,os,hp,hs,rfl⟩
  have hsz:d'.size=l.length:=by rw [hp.1,List.size_toArray]
  have s2:=hst n os d' hsz
  obtain ⟨h1,h2⟩:=xh mz (λx:H4=>x.1.no) (l:=l) (by rw [← hm,List.pairwise_map] at hd;exact hd) hp hs
  have hKl:(d'.toList.map (·.1)).length=l.length:=by rw [Y6,YD,hsz]
  refine ⟨_,rfl,d'.toList.map (·.1),?_,List.pairwise_map.2 h2,?_⟩
  ·rw [← hm];exact h1.map _
  ·rw [ke] at s2;rw [hKl];exact s2
set_option maxHeartbeats 1000000 in
theorem uD (L:List H4) (x:H4) (v:Value) (B9:List Own) (w0 w:World) (s:St w0 (.sl v 66 5 L.length (aC L)::B9) w) (hL:L.length<=900) (ho:∀ x∈L,x.2.1.oneCell'=true/\x.2.2.1.oneCell'=true/\x.2.2.2.oneCell'=true) (hx9:x.2.1.oneCell'=true/\x.2.2.1.oneCell'=true/\x.2.2.2.oneCell'=true) (hd:(L++[x]).Pairwise λa b=>a.1.no≠b.1.no):Calls Tryz.prog 87 [v,.agg (a8 x.1.no x.1.gt x.2.1 x.2.2.1 x.2.2.2),.func (.func 88) #[] #[]].toArray w (λe w9=>∃ v9,e=.returned v9/\∃ K:List H4,K.Perm (L++[x])/\(K.Pairwise λa b=>a.1.no<b.1.no)/\St w0 (.sl v9 66 5 K.length (aC K)::B9) w9):=by
 have ho1:∀ y∈(L++[x]),y.2.1.oneCell'=true/\y.2.2.1.oneCell'=true/\y.2.2.2.oneCell'=true:=λy hy=>by rcases Y4.1 hy with hy|hy;exact ho y hy;rw [YF.1 hy];exact hx9
 refine dG Tryz.func87 rfl Tryz.ntmps87 rfl [(0,v),(1,.agg (a8 x.1.no x.1.gt x.2.1 x.2.2.1 x.2.2.2)),(2,.func (.func 88) #[] #[])] (by simp) λf h=>?_
 refine qr (bh (a8 x.1.no x.1.gt x.2.1 x.2.2.1 x.2.2.2) h s rfl rfl rfl λf w1 b4 h s=>bh (#[.func (.func 88) #[] #[]]) h s rfl rfl rfl λf w1 b5 h s=>e9 ac 1 h rfl λf h=>cu ac 1 h rfl λf h=>al 1 h s dY rfl rfl (aN _ _ _ _ _) rfl λf h=>cT (vs:=[.agg (a8 x.1.no x.1.gt x.2.1 x.2.2.1 x.2.2.2)]) [.tmp 8] h s aa0 Bj rfl rfl (λv hv=>by rw [YF.1 hv];rfl) rfl rfl rfl λf w1 v9 h s=>?_)
 replace s:=s.resl (m:=1) (ys:=aC [x]) 0 rfl rfl rfl
 refine ei 3 0 h s aa0 Bj rfl rfl rfl rfl (by decide) ((uC (l:=[x]) (λy hy=>by rw [YF.1 hy];exact hx9))) (by unfold maxLen;omega) (by omega) rfl λf w1 v10 h s=>?_
 replace s:=s.pick _ (YN _ _)
 replace s:=s.resl (m:=(L++[x]).length) (ys:=aC (L++[x])) 2 rfl (by rw [Yy];rfl) (by unfold aC;rw [Zh])
 refine e9 ac 1 h rfl λf h=>cu ac 1 h rfl λf h=>ai h (dz [.pointer (some ⟨b5,0,none⟩)] (kT h rfl)) rfl λf h=>?_
 replace s:=s.bring 2 rfl
 replace s:St w0 (.sl v10 66 5 (L++[x]).length (aC (L++[x]))::.blk b5 (.cells (#[.func (.func 88) #[] #[]]) 157)::.blk b4 (.cells (a8 x.1.no x.1.gt x.2.1 x.2.2.1 x.2.2.2) 66)::B9) _:=s
 refine dI [v10,.func (.func 148) #[] #[.pointer (some ⟨b5,0,none⟩)]] h NB (Cs (L++[x]) (by rw [Yy];show L.length+1<=1000;omega) ho1 hd v10 b5 [] _ _ _ s (λw9 C9 s9=>iF.of_own s9 1 rfl)) rfl rfl ?_;rintro f w1 r ⟨K,hkp,hks,s⟩ h
 refine nt (bF ac 2 h rfl λf h=>Y8 (d6 rfl h rfl (⟨v10,rfl,K,hkp,hks,(s.pick _ (Yo _ (Yp _ (Yp _ (List.Sublist.refl _)))))⟩)))
set_option maxHeartbeats 2000000 in
theorem Aa (vo vs vh vl vn:Value) (X:Wx) (kk:List Nat) (bc:Nat) (B9:List Own) (a:Ac) (va:Value)  (w0 w:World) (s:St w0 (.blk bc (.cells (ef vo vs vh vl X.M.last X.M.now vn) 83)::.sl vs 46 3 X.S.length (aQ X.S)::.sl vh 66 5 X.H.length (aC X.H)::.sl vn 59 74 ([]:List Nt).length (aH ([]:List Nt))::.grp kk (λw9=>RdC w9 vo vl X)::B9) w) (hbd:BdW (ax X)) (hH0:X.H=[]) (hU:∀ w9,St w0 B9 w9->ez w9 va a.l):Calls Tryz.prog 39 [.pointer (some ⟨bc,0,none⟩),.agg (bO a va)].toArray w (λe w9=>∃ v,e=.returned v/\Jd w0 bc 83 46 66 59 (pt (ax X) a.no a.tO) B9 v w9):=by
 have hbH:=hbd.hx
 refine dG Tryz.func39 rfl Tryz.ntmps39 rfl [(0,.pointer (some ⟨bc,0,none⟩)),(1,.agg (bO a va))] (by simp) λf h=>?_
 refine qr (bh (bO a va) h s rfl rfl rfl λf w1 b3 h s=>e9 ac 1 h rfl λf h=>cu ac 1 h rfl λf h=>ag (V:=.int .i64 a.no) (ae (aJ.of_own s 0 rfl) 1 (w6 _ _)) h bs rfl rfl λf h=>ap ac 1 h rfl λf h=>ag (V:=.int .i64 a.tO) (ae (aJ.of_own s 0 rfl) 2 (Vz _ _)) h bs rfl rfl λf h=>bB h s Rb (HT a.no a.tO _) rfl rfl ?_);rintro f w1 v12 ⟨uw,uh,ui,k1,rfl,hG⟩ hE h sq;replace s:=s.add hG;clear hG
 have hu1:=bf ((s.getG 0 rfl) (iM _ 0 0)).1
 have hu2:=bf ((s.getG 0 rfl) (iM _ 0 0)).2.1
 have hu3:=bf ((s.getG 0 rfl) (iM _ 0 0)).2.2
 refine ap ac 3 h rfl λf h=>aS (a8 0 0 aj aj aj) h s m8 rfl rfl λf w1 b5 h s=>ak 0 h s dY rfl rfl rfl (aN _ _ _ _ _) (aN _ _ _ _ _) (dE _ _ (hu1) (hu2) (hu3)) λw1 s=>e9 ac 1 h rfl λf h=>ah (bF ac 2 h rfl λf h=>cA h rfl (λhc=>?_) (λhc=>?_))
 ·have x0:¬ (mF a.no a.tO)=0:=Yq hc
  refine bF ac 2 h rfl λf h=>rt (d6 rfl h rfl (by replace s:=s.bring 7 rfl;replace s:=s.bring 7 rfl;replace s:=s.bring 7 rfl;replace s:=s.bring 7 rfl;replace s:=s.bring 7 rfl;exact ⟨_,rfl,iV (R:=pt (ax X) a.no a.tO) (RQ x0) x0 (s.pick _ (Yo _ (Yo _ (Yo _ (Yo _ (Yo _ (Yp _ (Yp _ (Yp _ (List.Sublist.refl _))))))))))⟩))
 ·have x0:(mF a.no a.tO)=0:=Decidable.of_not_not (Yr hc)
  refine kt (ah (cu ac 2 h rfl λf h=>ag (V:=.int .i64 a.no) (ae (aJ.of_own s 2 rfl) 1 (w6 _ _)) h bs rfl rfl λf h=>da h s u5 (aX (.pointer none) (hQ vo vs vh vl vn X.M.last X.M.now bc X.H a.no _ (iF.of_own s 3 rfl) (bp.of_own (s.getSl 5 rfl)) (λx hx=>⟨bf ((s.getG 7 rfl).hw x hx).1,bf ((s.getG 7 rfl).hw x hx).2.1,bf ((s.getG 7 rfl).hw x hx).2.2⟩) (by omega)) (pO (by rw [hH0];exact Zl _))) rfl rfl λf w1 h s=>ai h (bq (.bool false) (gY ac8 (h.ev rfl) (h.ev rfl)) (rfl)) rfl λf h=>f7 h rfl (ah ?_)))
  replace s:=s.bring 5 rfl
  replace s:St w0 (.sl vh 66 5 X.H.length (aC X.H)::.blk b5 (.cells (a8 (fE a.no a.tO).no (fE a.no a.tO).gt uw uh ui) 66)::(.grp k1 (λw9=>gn w9 aj aj aj n5->gn w9 uw uh ui (fE a.no a.tO)))::.blk b3 (.cells (bO a va) 36)::.blk bc (.cells (ef vo vs vh vl X.M.last X.M.now vn) 83)::.sl vs 46 3 X.S.length (aQ X.S)::.sl vn 59 74 ([]:List Nt).length (aH ([]:List Nt))::(.grp kk (λw9=>RdC w9 vo vl X))::B9) _:=s
  refine eu 1 8 [[],[],[1],[1,2],[1,2,3],[1,2,3,4],[],[1,2,3,4,5,6],[0,1,2,3,4,5,6,7],[0,1,2,3,4,5,6,7,8],[0,1,2,3,4,5,6,7,8,9],[0,1,2,3,4,5,6,7,8,9,10]] [[],[],[],[],[],[],[],[12],[],[],[],[]] [[_]] [.v _,.v _,.v _,.v _,.v _,.v vh,.v (.agg (a8 (fE a.no a.tO).no (fE a.no a.tO).gt uw uh ui)),.m (λv=>[.sl (v 7) 66 5 1 (aC [((fE a.no a.tO),uw,uh,ui)])]),.n,.n,.n,.n] _ h s rfl (by kernel_rfl) (by kernel_rfl) (by kernel_rfl) (fB ac h rfl rfl rfl (fB ac h rfl rfl rfl (fB ac h rfl rfl rfl (fB ac h rfl rfl rfl (fB ac h rfl rfl rfl (cp ?_ (cp ?_ (cp ?_ (trivial))))))))) [0,1,2,3,4,5,6,7] (by kernel_rfl) ?_
  ·intro f9 w2 vl6 E9 hs9 hd9 hl hF s
   have h:=cG [(27,_)] h hs9 hd9 ⟨bg hl 27 4 (by kernel_rfl) (hF 4 (by decide)),trivial⟩
   refine ag (V:=vh) (ae (aJ.of_own s 3 rfl) 2 (UZ _ _ _ _ _ _ _)) h jl rfl rfl λf h=>ay ⟨_,bk 28 h rfl rfl,rfl,s⟩
  ·intro f9 w2 vl6 E9 hs9 hd9 hl hF s
   have h:=cG [(5,_)] h hs9 hd9 ⟨fh hl 5 (by kernel_rfl) (h.holds 5 _ rfl),trivial⟩
   refine al 0 h s dY rfl rfl (aN _ _ _ _ _) rfl λf h=>ay ⟨_,bk 29 h rfl rfl,rfl,s⟩
  ·intro f9 w2 vl6 E9 hs9 hd9 hl hF s
   have h:=cG [(28,_),(29,_)] h hs9 hd9 ⟨bg hl 28 5 (by kernel_rfl) (hF 5 (by decide)),bg hl 29 6 (by kernel_rfl) (hF 6 (by decide)),trivial⟩
   replace s:=s.resl (m:=([]:List H4).length) (ys:=aC []) 0 rfl (by rw [hH0]) (by rw [hH0])
   refine dI [vh,.agg (a8 (fE a.no a.tO).no (fE a.no a.tO).gt uw uh ui),.func (.func 88) #[] #[]] h Q8 (uD [] ((fE a.no a.tO),uw,uh,ui) vh _ _ _ s (YO _) (λx hx=>by cases hx) ⟨hu1,hu2,hu3⟩ (List.pairwise_singleton _ _)) rfl rfl ?_;rintro f w1 v30 ⟨K,hkp,hks,s⟩ h
   obtain rfl:=List.perm_singleton.1 hkp
   exact ay ⟨_,bk 30 h rfl rfl,trivial,s⟩
  intro f w1 vl6 hs9 hd9 hv hr hF s
  replace hv:=λi d h9=>hv i d (show Nat.blt i 8=true from h9)
  replace h:=dN 8 (ops:=_) [(23,_),(24,_),(25,_),(26,_),(27,_),(28,_),(29,_),(30,(vl6 7))] h hs9 hd9 hr ⟨(hv 0 23 rfl rfl).trans (hF 0 rfl),(hv 1 24 rfl rfl).trans (hF 1 rfl),(hv 2 25 rfl rfl).trans (hF 2 rfl),(hv 3 26 rfl rfl).trans (hF 3 rfl),(hv 4 27 rfl rfl).trans (hF 4 rfl),(hv 5 28 rfl rfl).trans (hF 5 rfl),(hv 6 29 rfl rfl).trans (hF 6 rfl),hv 7 30 rfl rfl,trivial⟩ (by kernel_rfl)
  replace s:St w0 (.sl (vl6 7) 66 5 1 (aC [((fE a.no a.tO),uw,uh,ui)])::.blk b5 (.cells (a8 (fE a.no a.tO).no (fE a.no a.tO).gt uw uh ui) 66)::(.grp k1 (λw9=>gn w9 aj aj aj n5->gn w9 uw uh ui (fE a.no a.tO)))::.blk b3 (.cells (bO a va) 36)::.blk bc (.cells (ef vo vs vh vl X.M.last X.M.now vn) 83)::.sl vs 46 3 X.S.length (aQ X.S)::.sl vn 59 74 ([]:List Nt).length (aH ([]:List Nt))::(.grp kk (λw9=>RdC w9 vo vl X))::B9) _:=s
  refine ap ac 3 h rfl λf h=>aR 4 h s jl rfl rfl rfl (by rw [gx];omega) (bA (s.getSl 0 rfl)) λw1 s=>?_
  replace s:=s.recell (D:=ef vo vs (vl6 7) vl X.M.last X.M.now vn) 4 rfl (rfl)
  refine nt (bF ac 1 h rfl λf h=>Y8 (d6 rfl h rfl (by replace s:=s.bring 6 rfl;replace s:=s.bring 1 rfl;replace s:=s.bring 6 rfl;replace s:=s.bring 6 rfl;replace s:=s.bring 7 rfl;replace s:=s.bring 6 rfl;exact ⟨_,rfl,CS hH0 x0 (s.pick _ (Yo _ (Yo _ (Yo _ (Yo _ (Yo _ (Yo _ (Yp _ (Yp _ (List.Sublist.refl _))))))))))⟩)))
end Go.Proofs.YtkhepdpfdhdlaaaGreatDoor
