/- Package world: what its functions answer. -/
import Derived.Test.YthmlflaiidhoiaaGreatDoorZb
import Derived.Test.YthmlflaiidhoiaaGreatDoorZa
import Derived.Test.YthmlflaiidhoiaaGreatDoorZi
import Derived.Test.YthmlflaiidhoiaaGreatDoorZg
import Derived.Test.YthmlflaiidhoiaaGreatDoorZc
import Derived.Test.YthmlflaiidhoiaaGreatDoorSu
import Derived.Test.YthmlflaiidhoiaaGreatDoorSw
set_option linter.unusedVariables false
namespace Go.Proofs.YthmlflaiidhoiaaGreatDoor
open Go.RowKit
theorem Lg (H:List H4) (vh:Value)  (w:World) (hH:bs w vh 5 H.length (bB H)) (hW:∀ x∈H,pE w x.2.1 x.2.2.1 x.2.2.2 x.1) (hHb:∀ x∈H,B9 x.1) (hHl:H.length<=1000):Calls Tryz.prog 28 [vh].toArray w (cb w (is (.bool (uV H)))):=by
 refine bK Tryz.func28 rfl Tryz.ntmps28 rfl λf h s=>bE ac 1 h rfl λf h=>ah (bU ac 1 h rfl λf h=>ck h (hH.keep s.ext) aR7 rfl rfl λf h=>e9 ac 1 h rfl λf h=>aL4 (aL6 (λnn aa ww=>∃ k:Nat,Sl 31 aa [(0,vh),(5,vh),(6,.int .i64 (H.length:Int)),(7,.int .i64 (k:Int))]/\St w [] ww/\nn=H.length - k/\k<=H.length/\∀ j,j<k->zt (H.map (·.1)) j=true) (H.length - (0)) ⟨0,h.only ⟨rfl,rfl,rfl,ao rfl (by omega),trivial⟩,s.as trivial,rfl,aJ3 _,λj hj=>aO7 hj (aM6 _)⟩ ?_))
 rintro _ f w1 ⟨k,h,s,hnn,hp0,hp1⟩
 refine bE ac 1 h rfl λf h=>ah (cB h rfl (λhc=>?_) (λhc=>?_))
 ·refine kt (ah (aL4 (bU ac 1 h rfl λf h=>?_)))
  have hkl:k<H.length:=by omega
  refine ai h (bj (hH.keep s.ext) (k) aR7 wq (h.ev rfl) (h.ev rfl) (by omega) (by omega)) rfl λf h=>ap ((hH.keep s.ext).el (k) (by omega) (by decide) (D:=ca (H.getD k bX).1.no (H.getD k bX).1.gt (H.getD k bX).2.1 (H.getD k bX).2.2.1 (H.getD k bX).2.2.2) (Bi _ k hkl)) h gc rfl (bG _ _ _ _ _) rfl λf h=>aK (ca 0 0 ax ax ax) h s uJ rfl rfl λf w1 b4 h s=>am ac 1 h rfl λf h=>al 0 h s gc rfl rfl rfl (bG _ _ _ _ _) (bG _ _ _ _ _) (fe _ _ (bI ((hW _ (eB hkl)).1.keep s.ext)) (bI ((hW _ (eB hkl)).2.1.keep s.ext)) (bI ((hW _ (eB hkl)).2.2.keep s.ext))) λw1 s=>nt (ah ?_)
  cases h0:(dc (H.getD k bX).1:Bool)
  ·refine dJ 18 h (by kernel_rfl) (aT 0 h s gc rfl rfl (bG _ _ _ _ _) rfl λf h=>bF h Lw (λw9 hE9=>aR (.bool false) (oC (H.getD k bX).1 (H.getD k bX).2.1 (H.getD k bX).2.2.1 (H.getD k bX).2.2.2 w9 ⟨(hW _ (eB hkl)).1.keep (s.ext.trans hE9),(hW _ (eB hkl)).2.1.keep (s.ext.trans hE9),(hW _ (eB hkl)).2.2.keep (s.ext.trans hE9)⟩ (hHb _ (eB hkl))) (aH3 Value.bool h0)) rfl rfl λf h=>ay ac 16 h rfl λf h=>bY s λw1 s=>iY h rfl (bE ac 1 h rfl λf h=>aL3 (bA (aS (aS (bA (aS (av rfl h s rfl (by show _=_;rw [show uV H=false from zm hkl (by rw [t7,h0];rfl)])))))))))
  ·skip
   refine dJ 18 h (by kernel_rfl) (aT 0 h s gc rfl rfl (bG _ _ _ _ _) rfl λf h=>bF h Lw (λw9 hE9=>aR (.bool true) (oC (H.getD k bX).1 (H.getD k bX).2.1 (H.getD k bX).2.2.1 (H.getD k bX).2.2.2 w9 ⟨(hW _ (eB hkl)).1.keep (s.ext.trans hE9),(hW _ (eB hkl)).2.1.keep (s.ext.trans hE9),(hW _ (eB hkl)).2.2.keep (s.ext.trans hE9)⟩ (hHb _ (eB hkl))) (aH3 Value.bool h0)) rfl rfl λf h=>ay ac 3 h rfl λf h=>bL h rfl (H9 ac (decide (0<k)) h rfl ((aI3.2 (by omega))) (λh1 f h=>?_) (λh1 f h=>?_)))
   ·refine ay ac 12 h rfl λf h=>bY s λw1 s=>wV h rfl (wpIn_skip (aW (aD (aw (ai h (bo (h.ev rfl) (h.ev rfl) (by omega)) rfl λf h=>e9 ac 1 h rfl λf h=>?_)))))
    exact ⟨_,by omega,⟨k+1,h.only ⟨rfl,rfl,rfl,ao rfl (by omega),trivial⟩,St.as (s.pick _ (aI8 [_] _)) trivial,rfl,by omega,gv hp1 (by rw [t7,h0,h1];rfl)⟩⟩
   ·skip
    refine ay ac 2 h rfl λf h=>bL h rfl (aB (V:=.int .i64 (H.getD k bX).1.no) (ae (aJ.of_own s 0 rfl) 0 (O3 _ _ _ _ _)) h bJ rfl rfl λf h=>ay ac 2 h rfl λf h=>bL h rfl (aF h (gj (h.ev rfl) (h.ev rfl) (by omega)) rfl λf h=>bL h rfl (aF h (bj (hH.keep s.ext) ((k - 1)) aR7 wq (h.ev rfl) (h.ev rfl) (by have:=aG9 h1;omega) (by have:=aG9 h1;omega)) rfl λf h=>bL h rfl (aF h (bq sD (h.ev rfl) ((hH.keep s.ext).some (by omega))) rfl λf h=>bL h rfl (aB (V:=.int .i64 (H.getD (k - 1) bX).1.no) (er (hH.keep s.ext) ((k - 1)*5+0) (Y4 _ (k - 1) (by omega))) h bJ rfl rfl λf h=>bL h rfl (H9 ac (decide ((H.getD k bX).1.no<=(H.getD (k - 1) bX).1.no)) h rfl ((aI3.2 (by omega))) (λh2 f h=>?_) (λh2 f h=>?_)))))))
    ·refine ay ac 2 h rfl λf h=>bY s λw1 s=>wV h rfl (wpIn_skip (aW (aD (aw (ai h (bo (h.ev rfl) (h.ev rfl) (by omega)) rfl λf h=>e9 ac 1 h rfl λf h=>?_)))))
     exact ⟨_,by omega,⟨k+1,h.only ⟨rfl,rfl,rfl,ao rfl (by omega),trivial⟩,St.as (s.pick _ (aI8 [_] _)) trivial,rfl,by omega,gv hp1 (by rw [t7,h0,h1,h2];rfl)⟩⟩
    ·refine ay ac 2 h rfl λf h=>bY s λw1 s=>iY h rfl (bE ac 1 h rfl λf h=>aL3 (bA (aS (aS (bA (aS (av rfl h s rfl (by show _=_;rw [show uV H=false from zm hkl (by rw [t7,h0,h1,h2];rfl)]))))))))
 ·refine aL5 (aO (aO (bS (aD (bE ac 1 h rfl λf h=>aL3 (av rfl h s rfl (by show _=_;rw [show uV H=true from Wk (λj hj=>hp1 j (by omega))])))))))
set_option maxHeartbeats 4000000 in
theorem AW (X:Wx) (vo vs vh vl:Value)  (w:World) (hX:RdW w vo vs vh vl X) (hb:BdW (aC X)):Calls Tryz.prog 24 [.agg (fA vo vs vh vl X.M.last X.M.now)].toArray w (cb w (CpW w 54 68 X)):=by
 have hbS:=hb.sx
 have hbH:=hb.hx
 have hbM:X.M.l.length<=100:=hb.ml
 have hbL:=hb.ox
 refine bK Tryz.func24 rfl Tryz.ntmps24 rfl λf h s=>qr (aV (fA vo vs vh vl X.M.last X.M.now) h s rfl rfl rfl λf w1 b1 h s=>aK (fA ax ax ax ax 0 0) h s yb rfl rfl λf w1 b2 h s=>nt (bU ac 2 h rfl λf h=>ag (V:=vo) (ae (aJ.of_own s 1 rfl) 0 (zM _ _ _ _ _ _)) h fE rfl rfl λf h=>aY h s Th (tk X.L (by omega) vo _ (hX.ov.1.keep s.ext) (λx hx=>(hX.keep s.ext).ov.2 x hx)) rfl rfl ?_));intro f w1 v11 hT hE h sq;replace s:=s.sl_new hE hT
 refine am ac 2 h rfl λf h=>aM 2 h s fE rfl rfl rfl (by rw [cx];omega) (bk (s.getSl 0 rfl)) λw1 s=>?_
 replace s:=s.recell (D:=fA v11 vs vh vl X.M.last X.M.now) 2 rfl (rfl)
 refine nt (ah (qr ?_))
 replace s:=s.grp0 (S:=iZ (X.L.take 0)) (λ_ x hx=>by simp at hx)
 refine am ac 2 h rfl λf h=>ag (V:=v11) (ae (aJ.of_own s 3 rfl) 0 (zM _ _ _ _ _ _)) h fE rfl rfl λf h=>eK 1 h s aR5 rfl rfl rfl λf h=>e9 ac 1 h rfl λf h=>aL4 (aL6 (λnn aa ww=>∃ k:Nat,∃ Kd:List N3,∃ kd:List Nat,Sl 112 aa [(0,.agg (fA vo vs vh vl X.M.last X.M.now)),(1,.pointer (some ⟨b1,0,none⟩)),(2,.pointer (some ⟨b2,0,none⟩)),(11,v11),(16,v11),(17,.int .i64 (X.L.length:Int)),(18,.int .i64 (k:Int))]/\St w [(.grp kd (iZ (Kd.take k))),.sl v11 63 68 Kd.length (aI Kd),.blk b2 (.cells (fA ax ax ax ax 0 0) 31),.blk b1 (.cells (fA v11 vs vh vl X.M.last X.M.now) 31)] ww/\nn=X.L.length - k/\k<=X.L.length/\nds Kd=nds X.L/\∀ j,k<=j->Kd.getD j z3=X.L.getD j z3) (X.L.length - (0)) ⟨0,X.L,[],h.only ⟨rfl,rfl,rfl,rfl,rfl,rfl,ao rfl (by omega),trivial⟩,s.as ⟨rfl,rfl,rfl,rfl,trivial⟩,rfl,aJ3 _,rfl,λj _=>rfl⟩ ?_)
 rintro _ f w1 ⟨k,Kd,kd,h,s,hnn,hp0,hp1,hp2⟩
 refine bE ac 1 h rfl λf h=>ah (cB h rfl (λhc=>?_) (λhc=>?_))
 ·refine kt (ah (aL4 (bE ac 2 h rfl λf h=>qr ?_)))
  have hkl:k<X.L.length:=by omega
  have hlk:Kd.length=X.L.length:=by have h9:=aH3 List.length hp1;simpa [nds] using h9
  have hdk:k<Kd.length:=by omega
  have hxd:Kd.getD k z3=X.L.getD k z3:=hp2 k (aJ1 _)
  have hx9:=hb.oe.each _ (ci hkl)
  refine am ac 2 h rfl λf h=>ag (V:=v11) (ae (aJ.of_own s 3 rfl) 0 (zM _ _ _ _ _ _)) h fE rfl rfl λf h=>am ac 1 h rfl λf h=>ai h (bj (bs.of_own (s.getSl 1 rfl)) (k) aR5 ms (h.ev rfl) (h.ev rfl) (by omega) (by omega)) rfl λf h=>e9 ac 1 h rfl λf h=>bU ac 3 h rfl λf h=>ai h (bq nz (h.ev rfl) ((bs.of_own (s.getSl 1 rfl)).some (by omega))) rfl λf h=>ag (V:=(Kd.getD k z3).2.1) (er (bs.of_own (s.getSl 1 rfl)) (k*68+66) (NH Kd k hdk)) h dS rfl rfl λf h=>aY h s wW (ir (X.L.getD k z3).1.sc (by omega) (Kd.getD k z3).2.1 _ (by rw [hxd];exact(hX.ov.2 _ (ci hkl)).1.keep s.ext)) rfl rfl ?_;intro f w1 v31 hT hE h sq;replace s:=s.sl_new hE hT
  refine am ac 1 h rfl λf h=>ai h (bq nz (h.ev rfl) ((bs.of_own (s.getSl 2 rfl)).some (by omega))) rfl λf h=>eD 2 h s dS rfl rfl rfl (by omega) (bk (s.getSl 0 rfl)) (show (aI Kd).set (k*68+66) v31=aI (Kd.set k ((⟨(Kd.getD k z3).1.me,(Kd.getD k z3).1.pr,(Kd.getD k z3).1.sc,(Kd.getD k z3).1.fg⟩,v31,(Kd.getD k z3).2.2):N3)) from tZ hdk _ _) λw1 s=>nt (rs ac 3 h rfl λf h=>ai h (bq pm (h.ev rfl) ((bs.of_own (s.getSl 2 rfl)).some (by omega))) rfl λf h=>ag (V:=(Kd.getD k z3).2.2) (er (bs.of_own (s.getSl 2 rfl)) (k*68+67) ((Ol _ k (by rw [List.length_set];exact hdk)).trans (by rw [fD hdk]))) h dS rfl rfl λf h=>aY h s wW (ir (X.L.getD k z3).1.fg (by omega) (Kd.getD k z3).2.2 _ (by rw [hxd];exact(hX.ov.2 _ (ci hkl)).2.keep s.ext)) rfl rfl ?_);intro f w1 v39 hT hE h sq;replace s:=s.sl_new hE hT
  refine am ac 1 h rfl λf h=>ai h (bq pm (h.ev rfl) ((bs.of_own (s.getSl 3 rfl)).some (by omega))) rfl λf h=>eD 3 h s dS rfl rfl rfl (by omega) (bk (s.getSl 0 rfl)) (show (aI (Kd.set k ((⟨(Kd.getD k z3).1.me,(Kd.getD k z3).1.pr,(Kd.getD k z3).1.sc,(Kd.getD k z3).1.fg⟩,v31,(Kd.getD k z3).2.2):N3))).set (k*68+67) v39=aI (Kd.set k ((⟨(Kd.getD k z3).1.me,(Kd.getD k z3).1.pr,(Kd.getD k z3).1.sc,(Kd.getD k z3).1.fg⟩,v31,v39):N3)) from (zW (by rw [List.length_set];exact hdk) _ (Kd.getD k z3).1.fg).trans (by rw [fD hdk,lS])) λw1 s=>?_
  replace s:=s.resl (m:=(Kd.set k ((⟨(Kd.getD k z3).1.me,(Kd.getD k z3).1.pr,(Kd.getD k z3).1.sc,(Kd.getD k z3).1.fg⟩,v31,v39):N3)).length) (ys:=aI (Kd.set k ((⟨(Kd.getD k z3).1.me,(Kd.getD k z3).1.pr,(Kd.getD k z3).1.sc,(Kd.getD k z3).1.fg⟩,v31,v39):N3))) 3 rfl (by rw [List.length_set]) rfl
  refine az (aW (aD (aw (ai h (bo (h.ev rfl) (h.ev rfl) (by omega)) rfl λf h=>e9 ac 1 h rfl λf h=>?_))))
  replace s:=s.bring 2 rfl
  replace s:=s.bring 1 rfl
  replace s:=s.bring 2 rfl
  obtain ⟨kn,s⟩:=s.grpR (S':=iZ ((Kd.set k ((⟨(Kd.getD k z3).1.me,(Kd.getD k z3).1.pr,(Kd.getD k z3).1.sc,(Kd.getD k z3).1.fg⟩,v31,v39):N3)).take (k+1))) (λw9 h1 h2 h3=>FC hdk h3 ⟨by rw [← hxd] at h1;exact h1,by rw [← hxd] at h2;exact h2⟩)
  replace s:=s.bring 3 rfl
  replace s:=s.bring 3 rfl
  replace s:=s.bring 3 rfl
  replace s:=s.bring 3 rfl
  exact ⟨_,by omega,⟨k+1,(Kd.set k ((⟨(Kd.getD k z3).1.me,(Kd.getD k z3).1.pr,(Kd.getD k z3).1.sc,(Kd.getD k z3).1.fg⟩,v31,v39):N3)),kn,h.only ⟨rfl,rfl,rfl,rfl,rfl,rfl,ao rfl (by omega),trivial⟩,St.as s ⟨rfl,rfl,rfl,rfl,trivial⟩,rfl,by omega,FP hp1 rfl hdk,λj hj=>(T1 (by omega) _).trans (hp2 j (by omega))⟩⟩
 ·refine aL5 (aO (aO (bS (aD (qr ?_)))))
  have hpn:=hp1
  have hlz:Kd.length=X.L.length:=by have h9:=aH3 List.length hp1;simpa [nds] using h9
  rw [show Kd.take k=Kd from aJ9 (by omega)] at s
  clear hlz
  refine am ac 1 h rfl λf h=>ag (V:=vs) (ae (aJ.of_own s 3 rfl) 1 (vA _ _ _ _ _ _)) h ij rfl rfl λf h=>aY h s ZB (LU X.S (by omega) vs _ (hX.sv.keep s.ext) (λx hx=>bI ((hX.keep s.ext).sw x hx))) rfl rfl ?_;intro f w1 v45 hT hE h sq;replace s:=s.sl_new hE hT
  refine am ac 1 h rfl λf h=>aM 4 h s ij rfl rfl rfl (by rw [cx];omega) (bk (s.getSl 0 rfl)) λw1 s=>?_
  replace s:=s.recell (D:=fA v11 v45 vh vl X.M.last X.M.now) 4 rfl (rfl)
  refine nt (ah (qr ?_))
  replace s:=s.grp0 (S:=Pn (X.S.take 0)) (λ_ x hx=>by simp at hx)
  refine am ac 1 h rfl λf h=>ag (V:=v45) (ae (aJ.of_own s 5 rfl) 1 (vA _ _ _ _ _ _)) h ij rfl rfl λf h=>eK 1 h s aR6 rfl rfl rfl λf h=>e9 ac 1 h rfl λf h=>aL4 (aL6 (λnn aa ww=>∃ k:Nat,∃ Ks:List V2,∃ ks:List Nat,Sl 112 aa [(0,.agg (fA vo vs vh vl X.M.last X.M.now)),(1,.pointer (some ⟨b1,0,none⟩)),(2,.pointer (some ⟨b2,0,none⟩)),(11,v11),(16,v11),(45,v45),(48,v45),(49,.int .i64 (X.S.length:Int)),(50,.int .i64 (k:Int))]/\St w [(.grp ks (Pn (Ks.take k))),.sl v45 54 3 Ks.length (a8 Ks),(.grp kd (iZ Kd)),.sl v11 63 68 Kd.length (aI Kd),.blk b2 (.cells (fA ax ax ax ax 0 0) 31),.blk b1 (.cells (fA v11 v45 vh vl X.M.last X.M.now) 31)] ww/\nn=X.S.length - k/\k<=X.S.length/\Ks.map (·.1)=X.S.map (·.1)/\∀ j,k<=j->Ks.getD j cd=X.S.getD j cd) (X.S.length - (0)) ⟨0,X.S,[],h.only ⟨rfl,rfl,rfl,rfl,rfl,rfl,rfl,rfl,ao rfl (by omega),trivial⟩,s.as ⟨rfl,rfl,rfl,rfl,rfl,rfl,trivial⟩,rfl,aJ3 _,rfl,λj _=>rfl⟩ ?_)
  rintro _ f w1 ⟨k,Ks,ks,h,s,hnn,hp0,hp1,hp2⟩
  refine bE ac 1 h rfl λf h=>ah (cB h rfl (λhc=>?_) (λhc=>?_))
  ·refine kt (ah (aL4 (qr ?_)))
   have hkl:k<X.S.length:=by omega
   have hlk:Ks.length=X.S.length:=by have h9:=aH3 List.length hp1;simpa using h9
   have hdk:k<Ks.length:=by omega
   have hxd:Ks.getD k cd=X.S.getD k cd:=hp2 k (aJ1 _)
   have hx9:=hb.se hkl
   refine e9 ac 2 h rfl λf h=>fC 0 12 [[],[0],[],[],[3],[],[3,4,5],[3,4,5,6],[3,4,5,6,7],[3,4,5,6,7,8],[0,1,2,3,4,5,6,7,8,9],[0,1,2,3,4,5,6,7,8,9,10],[0,1,2,3,4,5,6,7,8,9,10,11]] [[],[],[],[],[],[],[],[],[],[],[],[],[]] [] [.v _,.v v45,.v _,.v _,.v v45,.v _,.v (.pointer (some (bO v45 (k*3)))),.v (.pointer (some (bO v45 (k*3+2)))),.v ((Ks.getD k cd).2),.m (λv=>[.sl (v 9) 49 67 (X.S.getD k cd).1.tb.length (aX (X.S.getD k cd).1.tb)]),.v (.pointer (some (bO v45 (k*3)))),.v (.pointer (some (bO v45 (k*3+2)))),.n] _ h s rfl (by kernel_rfl) (by kernel_rfl) (by kernel_rfl) (gL ac h rfl rfl rfl (cm ?_ (gL ac h rfl rfl rfl (gL ac h rfl rfl rfl (cm ?_ (gL ac h rfl rfl rfl (cm ?_ (cm ?_ (cm ?_ (cm ?_ (cm ?_ (cm ?_ (trivial))))))))))))) [0,1,2,3,4,5,6,7,8,9,10,11] (by kernel_rfl) ?_
   ·intro f9 w2 vl13 E9 hs9 hd9 hl hF s
    have h:=cq [(53,_)] h hs9 hd9 ⟨a7 hl 53 0 (by kernel_rfl) (hF 0 (by decide)),trivial⟩
    refine ag (V:=v45) (ae (aJ.of_own s 5 rfl) 1 (vA _ _ _ _ _ _)) h ij rfl rfl λf h=>az ⟨_,br 54 h rfl rfl,rfl,s⟩
   ·intro f9 w2 vl13 E9 hs9 hd9 hl hF s
    have h:=cq [(56,_)] h hs9 hd9 ⟨a7 hl 56 3 (by kernel_rfl) (hF 3 (by decide)),trivial⟩
    refine ag (V:=v45) (ae (aJ.of_own s 5 rfl) 1 (vA _ _ _ _ _ _)) h ij rfl rfl λf h=>az ⟨_,br 57 h rfl rfl,rfl,s⟩
   ·intro f9 w2 vl13 E9 hs9 hd9 hl hF s
    have h:=cq [(57,_),(58,_)] h hs9 hd9 ⟨a7 hl 57 4 (by kernel_rfl) (hF 4 (by decide)),a7 hl 58 5 (by kernel_rfl) (hF 5 (by decide)),trivial⟩
    refine ai h (bj (bs.of_own (s.getSl 1 rfl)) (k) aR6 kB (h.ev rfl) (h.ev rfl) (by omega) (by omega)) rfl λf h=>az ⟨_,br 59 h rfl rfl,rfl,s⟩
   ·intro f9 w2 vl13 E9 hs9 hd9 hl hF s
    have h:=cq [(59,_)] h hs9 hd9 ⟨a7 hl 59 6 (by kernel_rfl) (hF 6 (by decide)),trivial⟩
    refine ai h (bq xC (h.ev rfl) ((bs.of_own (s.getSl 1 rfl)).some (by omega))) rfl λf h=>az ⟨_,br 60 h rfl rfl,rfl,s⟩
   ·intro f9 w2 vl13 E9 hs9 hd9 hl hF s
    have h:=cq [(60,_)] h hs9 hd9 ⟨a7 hl 60 7 (by kernel_rfl) (hF 7 (by decide)),trivial⟩
    refine ag (V:=(Ks.getD k cd).2) (er (bs.of_own (s.getSl 1 rfl)) (k*3+2) (WS hdk)) h jb rfl rfl λf h=>az ⟨_,br 61 h rfl rfl,rfl,s⟩
   ·intro f9 w2 vl13 E9 hs9 hd9 hl hF s
    have h:=cq [(61,_)] h hs9 hd9 ⟨a7 hl 61 8 (by kernel_rfl) (hF 8 (by decide)),trivial⟩
    refine aY h s JR (ol (X.S.getD k cd).1.tb (by omega) (Ks.getD k cd).2 _ (by rw [hxd];exact(hX.sw _ (cK hkl)).keep s.ext)) rfl rfl ?_;intro f w1 v62 hT hE h sq;replace s:=s.sl_new hE hT
    exact az ⟨_,br 62 h rfl rfl,trivial,s⟩
   ·intro f9 w2 vl13 E9 hs9 hd9 hl hF s
    have h:=cq [(54,_),(55,_)] h hs9 hd9 ⟨a7 hl 54 1 (by kernel_rfl) (hF 1 (by decide)),a7 hl 55 2 (by kernel_rfl) (hF 2 (by decide)),trivial⟩
    refine ai h (bj (bs.of_own (s.getSl 1 rfl)) (k) aR6 kB (h.ev rfl) (h.ev rfl) (by omega) (by omega)) rfl λf h=>az ⟨_,br 63 h rfl rfl,rfl,s⟩
   ·intro f9 w2 vl13 E9 hs9 hd9 hl hF s
    have h:=cq [(63,_)] h hs9 hd9 ⟨a7 hl 63 10 (by kernel_rfl) (hF 10 (by decide)),trivial⟩
    refine ai h (bq xC (h.ev rfl) ((bs.of_own (s.getSl 1 rfl)).some (by omega))) rfl λf h=>az ⟨_,br 64 h rfl rfl,rfl,s⟩
   intro f w1 vl13 hs9 hd9 hv hr hF s
   replace hv:=λi d h9=>hv i d (show Nat.blt i 12=true from h9)
   replace h:=ew 12 (ops:=_) [(53,_),(54,_),(55,_),(56,_),(57,_),(58,_),(59,_),(60,_),(61,_),(62,(vl13 9)),(63,_),(64,_)] h hs9 hd9 hr ⟨(hv 0 53 rfl rfl).trans (hF 0 rfl),(hv 1 54 rfl rfl).trans (hF 1 rfl),(hv 2 55 rfl rfl).trans (hF 2 rfl),(hv 3 56 rfl rfl).trans (hF 3 rfl),(hv 4 57 rfl rfl).trans (hF 4 rfl),(hv 5 58 rfl rfl).trans (hF 5 rfl),(hv 6 59 rfl rfl).trans (hF 6 rfl),(hv 7 60 rfl rfl).trans (hF 7 rfl),(hv 8 61 rfl rfl).trans (hF 8 rfl),hv 9 62 rfl rfl,(hv 10 63 rfl rfl).trans (hF 10 rfl),(hv 11 64 rfl rfl).trans (hF 11 rfl),trivial⟩ (by kernel_rfl)
   replace s:St w [.sl (vl13 9) 49 67 (X.S.getD k cd).1.tb.length (aX (X.S.getD k cd).1.tb),(.grp ks (Pn (Ks.take k))),.sl v45 54 3 Ks.length (a8 Ks),(.grp kd (iZ Kd)),.sl v11 63 68 Kd.length (aI Kd),.blk b2 (.cells (fA ax ax ax ax 0 0) 31),.blk b1 (.cells (fA v11 v45 vh vl X.M.last X.M.now) 31)] _:=s
   refine eD 2 h s jb rfl rfl rfl (by omega) (bk (s.getSl 0 rfl)) (show (a8 Ks).set (k*3+2) (vl13 9)=a8 (Ks.set k (((Ks.getD k cd).1,(vl13 9)):V2)) from RM hdk _) λw1 s=>?_
   replace s:=s.resl (m:=(Ks.set k (((Ks.getD k cd).1,(vl13 9)):V2)).length) (ys:=a8 (Ks.set k (((Ks.getD k cd).1,(vl13 9)):V2))) 2 rfl (by rw [List.length_set]) rfl
   refine az (aW (aD (aw (ai h (bo (h.ev rfl) (h.ev rfl) (by omega)) rfl λf h=>e9 ac 1 h rfl λf h=>?_))))
   replace s:=s.bring 1 rfl
   replace s:=s.bring 1 rfl
   obtain ⟨kn,s⟩:=s.slG (S':=Pn ((Ks.set k (((Ks.getD k cd).1,(vl13 9)):V2)).take (k+1))) (λw9 h1 h3=>AU hdk h3 (by rw [← hxd] at h1;exact h1))
   replace s:=s.bring 5 rfl
   replace s:=s.bring 5 rfl
   replace s:=s.bring 5 rfl
   replace s:=s.bring 5 rfl
   replace s:=s.bring 5 rfl
   replace s:=s.bring 5 rfl
   exact ⟨_,by omega,⟨k+1,(Ks.set k (((Ks.getD k cd).1,(vl13 9)):V2)),kn,h.only ⟨rfl,rfl,rfl,rfl,rfl,rfl,rfl,rfl,ao rfl (by omega),trivial⟩,St.as s ⟨rfl,rfl,rfl,rfl,rfl,rfl,trivial⟩,rfl,by omega,(AJ (x:=((Ks.getD k cd).1,(vl13 9))) (z:=cd) (·.1) hdk rfl).trans hp1,λj hj=>(Kk (by omega) _ _).trans (hp2 j (by omega))⟩⟩
  ·refine aL5 (aO (aO (bS (aD (qr ?_)))))
   have hps:=hp1
   have hlz:Ks.length=X.S.length:=by have h9:=aH3 List.length hp1;simpa using h9
   rw [show Ks.take k=Ks from aJ9 (by omega)] at s
   clear hlz
   refine am ac 1 h rfl λf h=>ag (V:=vh) (ae (aJ.of_own s 5 rfl) 2 (Hl _ _ _ _ _ _)) h nV rfl rfl λf h=>aY h s Za (N7 X.H (by omega) vh _ (hX.ho.keep s.ext) (λx hx=>⟨bI ((hX.keep s.ext).hw x hx).1,bI ((hX.keep s.ext).hw x hx).2.1,bI ((hX.keep s.ext).hw x hx).2.2⟩)) rfl rfl ?_;intro f w1 v68 hT hE h sq;replace s:=s.sl_new hE hT
   refine am ac 1 h rfl λf h=>aM 6 h s nV rfl rfl rfl (by rw [cx];omega) (bk (s.getSl 0 rfl)) λw1 s=>?_
   replace s:=s.recell (D:=fA v11 v45 v68 vl X.M.last X.M.now) 6 rfl (rfl)
   refine nt (ah (qr ?_))
   replace s:=s.grp0 (S:=DK (X.H.take 0)) (λ_ x hx=>by simp at hx)
   refine am ac 1 h rfl λf h=>ag (V:=v68) (ae (aJ.of_own s 7 rfl) 2 (Hl _ _ _ _ _ _)) h nV rfl rfl λf h=>eK 1 h s aR7 rfl rfl rfl λf h=>e9 ac 1 h rfl λf h=>aL4 (aL6 (λnn aa ww=>∃ k:Nat,∃ Kh:List H4,∃ kh:List Nat,Sl 112 aa [(0,.agg (fA vo vs vh vl X.M.last X.M.now)),(1,.pointer (some ⟨b1,0,none⟩)),(2,.pointer (some ⟨b2,0,none⟩)),(11,v11),(16,v11),(45,v45),(48,v45),(68,v68),(71,v68),(72,.int .i64 (X.H.length:Int)),(73,.int .i64 (k:Int))]/\St w [(.grp kh (DK (Kh.take k))),.sl v68 68 5 Kh.length (bB Kh),(.grp ks (Pn Ks)),.sl v45 54 3 Ks.length (a8 Ks),(.grp kd (iZ Kd)),.sl v11 63 68 Kd.length (aI Kd),.blk b2 (.cells (fA ax ax ax ax 0 0) 31),.blk b1 (.cells (fA v11 v45 v68 vl X.M.last X.M.now) 31)] ww/\nn=X.H.length - k/\k<=X.H.length/\Kh.map (·.1)=X.H.map (·.1)/\∀ j,k<=j->Kh.getD j bX=X.H.getD j bX) (X.H.length - (0)) ⟨0,X.H,[],h.only ⟨rfl,rfl,rfl,rfl,rfl,rfl,rfl,rfl,rfl,rfl,ao rfl (by omega),trivial⟩,s.as ⟨rfl,rfl,rfl,rfl,rfl,rfl,rfl,rfl,trivial⟩,rfl,aJ3 _,rfl,λj _=>rfl⟩ ?_)
   rintro _ f w1 ⟨k,Kh,kh,h,s,hnn,hp0,hp1,hp2⟩
   refine bE ac 1 h rfl λf h=>ah (cB h rfl (λhc=>?_) (λhc=>?_))
   ·refine kt (ah (aL4 (bE ac 2 h rfl λf h=>qr ?_)))
    have hkl:k<X.H.length:=by omega
    have hlk:Kh.length=X.H.length:=by have h9:=aH3 List.length hp1;simpa using h9
    have hdk:k<Kh.length:=by omega
    have hxd:Kh.getD k bX=X.H.getD k bX:=hp2 k (aJ1 _)
    have hx9:=hb.he hkl
    refine am ac 1 h rfl λf h=>ag (V:=v68) (ae (aJ.of_own s 7 rfl) 2 (Hl _ _ _ _ _ _)) h nV rfl rfl λf h=>am ac 1 h rfl λf h=>ai h (bj (bs.of_own (s.getSl 1 rfl)) (k) aR7 wq (h.ev rfl) (h.ev rfl) (by omega) (by omega)) rfl λf h=>e9 ac 1 h rfl λf h=>bU ac 3 h rfl λf h=>ai h (bq yT (h.ev rfl) ((bs.of_own (s.getSl 1 rfl)).some (by omega))) rfl λf h=>ag (V:=(Kh.getD k bX).2.1) (er (bs.of_own (s.getSl 1 rfl)) (k*5+2) (Xu hdk)) h FN rfl rfl λf h=>aY h s af1 (MP (X.H.getD k bX).1.ws (by omega) (Kh.getD k bX).2.1 _ (by rw [hxd];exact(hX.hw _ (eB hkl)).1.keep s.ext)) rfl rfl ?_;intro f w1 v85 hT hE h sq;replace s:=s.sl_new hE hT
    refine am ac 1 h rfl λf h=>ai h (bq yT (h.ev rfl) ((bs.of_own (s.getSl 2 rfl)).some (by omega))) rfl λf h=>eD 2 h s FN rfl rfl rfl (by omega) (bk (s.getSl 0 rfl)) (show (bB Kh).set (k*5+2) v85=bB (Kh.set k (((Kh.getD k bX).1,v85,(Kh.getD k bX).2.2):H4)) from Sz hdk _) λw1 s=>nt (bU ac 3 h rfl λf h=>ai h (bq zr (h.ev rfl) ((bs.of_own (s.getSl 2 rfl)).some (by omega))) rfl λf h=>ag (V:=(Kh.getD k bX).2.2.1) (er (bs.of_own (s.getSl 2 rfl)) (k*5+3) ((Vd (by rw [List.length_set];exact hdk)).trans (by rw [sn hdk]))) h Fd rfl rfl λf h=>aY h s ZR (LV (X.H.getD k bX).1.hs (by omega) (Kh.getD k bX).2.2.1 _ (by rw [hxd];exact(hX.hw _ (eB hkl)).2.1.keep s.ext)) rfl rfl ?_);intro f w1 v93 hT hE h sq;replace s:=s.sl_new hE hT
    refine am ac 1 h rfl λf h=>ai h (bq zr (h.ev rfl) ((bs.of_own (s.getSl 3 rfl)).some (by omega))) rfl λf h=>eD 3 h s Fd rfl rfl rfl (by omega) (bk (s.getSl 0 rfl)) (show (bB (Kh.set k (((Kh.getD k bX).1,v85,(Kh.getD k bX).2.2):H4))).set (k*5+3) v93=bB (Kh.set k (((Kh.getD k bX).1,v85,v93,(Kh.getD k bX).2.2.2):H4)) from (Sc (by rw [List.length_set];exact hdk) _).trans (by rw [sn hdk,List.set_set])) λw1 s=>nt (rs ac 3 h rfl λf h=>ai h (bq zd (h.ev rfl) ((bs.of_own (s.getSl 3 rfl)).some (by omega))) rfl λf h=>ag (V:=(Kh.getD k bX).2.2.2) (er (bs.of_own (s.getSl 3 rfl)) (k*5+4) ((X5 (by rw [List.length_set];exact hdk)).trans (by rw [sn hdk]))) h wX rfl rfl λf h=>aY h s Us (B2 (X.H.getD k bX).1.bx (by omega) (Kh.getD k bX).2.2.2 _ (by rw [hxd];exact(hX.hw _ (eB hkl)).2.2.keep s.ext)) rfl rfl ?_);intro f w1 v101 hT hE h sq;replace s:=s.sl_new hE hT
    refine am ac 1 h rfl λf h=>ai h (bq zd (h.ev rfl) ((bs.of_own (s.getSl 4 rfl)).some (by omega))) rfl λf h=>eD 4 h s wX rfl rfl rfl (by omega) (bk (s.getSl 0 rfl)) (show (bB (Kh.set k (((Kh.getD k bX).1,v85,v93,(Kh.getD k bX).2.2.2):H4))).set (k*5+4) v101=bB (Kh.set k (((Kh.getD k bX).1,v85,v93,v101):H4)) from (SE (by rw [List.length_set];exact hdk) _).trans (by rw [sn hdk,List.set_set])) λw1 s=>?_
    replace s:=s.resl (m:=(Kh.set k (((Kh.getD k bX).1,v85,v93,v101):H4)).length) (ys:=bB (Kh.set k (((Kh.getD k bX).1,v85,v93,v101):H4))) 4 rfl (by rw [List.length_set]) rfl
    refine az (aW (aD (aw (ai h (bo (h.ev rfl) (h.ev rfl) (by omega)) rfl λf h=>e9 ac 1 h rfl λf h=>?_))))
    replace s:=s.bring 3 rfl
    replace s:=s.bring 1 rfl
    replace s:=s.bring 2 rfl
    replace s:=s.bring 3 rfl
    obtain ⟨kn,s⟩:=s.sl3G (S':=DK ((Kh.set k (((Kh.getD k bX).1,v85,v93,v101):H4)).take (k+1))) (λw9 h1 h2 h3 h4=>AU hdk h4 (by rw [← hxd] at h1 h2 h3;exact ⟨h1,h2,h3⟩))
    replace s:=s.bring 7 rfl
    replace s:=s.bring 7 rfl
    replace s:=s.bring 7 rfl
    replace s:=s.bring 7 rfl
    replace s:=s.bring 7 rfl
    replace s:=s.bring 7 rfl
    replace s:=s.bring 7 rfl
    replace s:=s.bring 7 rfl
    exact ⟨_,by omega,⟨k+1,(Kh.set k (((Kh.getD k bX).1,v85,v93,v101):H4)),kn,h.only ⟨rfl,rfl,rfl,rfl,rfl,rfl,rfl,rfl,rfl,rfl,ao rfl (by omega),trivial⟩,St.as s ⟨rfl,rfl,rfl,rfl,rfl,rfl,rfl,rfl,trivial⟩,rfl,by omega,(AJ (x:=((Kh.getD k bX).1,v85,v93,v101)) (z:=bX) (·.1) hdk rfl).trans hp1,λj hj=>(Kk (by omega) _ _).trans (hp2 j (by omega))⟩⟩
   ·refine aL5 (aO (aO (bS (aD (qr ?_)))))
    have hph:=hp1
    have hlz:Kh.length=X.H.length:=by have h9:=aH3 List.length hp1;simpa using h9
    rw [show Kh.take k=Kh from aJ9 (by omega)] at s
    clear hlz
    refine am ac 2 h rfl λf h=>ag (V:=vl) (ae (aJ.of_own s 7 rfl) 3 (WM _ _ _ _ _ _)) h nU rfl rfl λf h=>aY h s T8 (wx X.M.l (by omega) vl _ (hX.ml.keep s.ext)) rfl rfl ?_;intro f w1 v108 hT hE h sq;replace s:=s.sl_new hE hT
    refine am ac 2 h rfl λf h=>aM 8 h s nU rfl rfl rfl (by rw [cx];omega) (bk (s.getSl 0 rfl)) λw1 s=>?_
    replace s:=s.recell (D:=fA v11 v45 v68 v108 X.M.last X.M.now) 8 rfl (rfl)
    refine nt (qr (ak 8 h s g4 rfl rfl (cx _ _ _ _ _ _) rfl λf h=>al 7 h s g4 rfl rfl rfl (cx _ _ _ _ _ _) (cx _ _ _ _ _ _) (js _ _ (bk (s.getSl 6 rfl)) (bk (s.getSl 4 rfl)) (bk (s.getSl 2 rfl)) (bk (s.getSl 0 rfl))) λw1 s=>nt (aL3 (lH 7 rfl h s g4 rfl rfl (cx _ _ _ _ _ _) (VQ hpn hps hph (s.sel [4,2,6,0,5,3,1] rfl (by decide)))))))
set_option maxHeartbeats 1000000 in
theorem HQ (x y:V2) (bx:Nat)  (w:World) (hx9:x.2.oneCell'=true) (hy9:y.2.oneCell'=true) (hb:gq w bx #[.func (.func 99) #[] #[]]):Calls Tryz.prog 154 [.agg (bC x.1.no x.1.sec x.2),.agg (bC y.1.no y.1.sec y.2),.pointer (some ⟨bx,0,none⟩)].toArray w (cb w (is (.int .i64 (cH x.1.no y.1.no)))):=by
 refine bK Tryz.func154 rfl Tryz.ntmps154 rfl λf h s=>qr (aV (bC x.1.no x.1.sec x.2) h s rfl rfl rfl λf w1 b3 h s=>aV (bC y.1.no y.1.sec y.2) h s rfl rfl rfl λf w1 b4 h s=>e9 ac 1 h rfl λf h=>ah (fC 0 7 [[],[],[0,1],[],[],[0,1,2,3,4],[0,1,2,3,4,5],[0,1,2,3,4,5,6]] [[],[],[],[],[],[],[],[]] [] [.v (.func (.func 99) #[] #[]),.v (.agg (bC x.1.no x.1.sec x.2)),.v (.int .i64 x.1.no),.v (.func (.func 99) #[] #[]),.v (.agg (bC y.1.no y.1.sec y.2)),.v (.int .i64 y.1.no),.v (.int .i64 (cH x.1.no y.1.no)),.n] _ h s rfl (by kernel_rfl) (by kernel_rfl) (by kernel_rfl) (cm ?_ (cm ?_ (cm ?_ (cm ?_ (cm ?_ (cm ?_ (cm ?_ (trivial)))))))) [0,1,2,3,4,5,6] (by kernel_rfl) ?_))
 ·intro f9 w2 vl1 E9 hs9 hd9 hl hF s
  have h:=cq [(2,_)] h hs9 hd9 ⟨fu hl 2 (by kernel_rfl) (h.holds 2 _ rfl),trivial⟩
  refine ag (V:=.func (.func 99) #[] #[]) (ae (aJ.of_tab (hb.keep s.ext)) 0 (rfl)) h JP rfl rfl λf h=>az ⟨_,br 6 h rfl rfl,rfl,s⟩
 ·intro f9 w2 vl1 E9 hs9 hd9 hl hF s
  have h:=cq [(3,_)] h hs9 hd9 ⟨fu hl 3 (by kernel_rfl) (h.holds 3 _ rfl),trivial⟩
  refine ak 1 h s cC rfl rfl (aG _ _ _) rfl λf h=>az ⟨_,br 7 h rfl rfl,rfl,s⟩
 ·intro f9 w2 vl1 E9 hs9 hd9 hl hF s
  have h:=cq [(6,_),(7,_)] h hs9 hd9 ⟨a7 hl 6 0 (by kernel_rfl) (hF 0 (by decide)),a7 hl 7 1 (by kernel_rfl) (hF 1 (by decide)),trivial⟩
  refine cJ [.agg (bC x.1.no x.1.sec x.2)] (caps:=[]) h s JJ rfl (ta x _ hx9) rfl rfl ?_;intro f w1 v9 hT hE h s;obtain rfl:=hT
  exact az ⟨_,br 8 h rfl rfl,rfl,s⟩
 ·intro f9 w2 vl1 E9 hs9 hd9 hl hF s
  have h:=cq [(2,_)] h hs9 hd9 ⟨fu hl 2 (by kernel_rfl) (h.holds 2 _ rfl),trivial⟩
  refine ag (V:=.func (.func 99) #[] #[]) (ae (aJ.of_tab (hb.keep s.ext)) 0 (rfl)) h JP rfl rfl λf h=>az ⟨_,br 9 h rfl rfl,rfl,s⟩
 ·intro f9 w2 vl1 E9 hs9 hd9 hl hF s
  have h:=cq [(4,_)] h hs9 hd9 ⟨fu hl 4 (by kernel_rfl) (h.holds 4 _ rfl),trivial⟩
  refine ak 0 h s cC rfl rfl (aG _ _ _) rfl λf h=>az ⟨_,br 10 h rfl rfl,rfl,s⟩
 ·intro f9 w2 vl1 E9 hs9 hd9 hl hF s
  have h:=cq [(9,_),(10,_)] h hs9 hd9 ⟨a7 hl 9 3 (by kernel_rfl) (hF 3 (by decide)),a7 hl 10 4 (by kernel_rfl) (hF 4 (by decide)),trivial⟩
  refine cJ [.agg (bC y.1.no y.1.sec y.2)] (caps:=[]) h s JJ rfl (ta y _ hy9) rfl rfl ?_;intro f w1 v9 hT hE h s;obtain rfl:=hT
  exact az ⟨_,br 11 h rfl rfl,rfl,s⟩
 ·intro f9 w2 vl1 E9 hs9 hd9 hl hF s
  have h:=cq [(8,_),(11,_)] h hs9 hd9 ⟨a7 hl 8 2 (by kernel_rfl) (hF 2 (by decide)),a7 hl 11 5 (by kernel_rfl) (hF 5 (by decide)),trivial⟩
  refine dF h s uk (mo x.1.no y.1.no _) rfl rfl λf w1 h s=>az ⟨_,br 12 h rfl rfl,rfl,s⟩
 intro f w1 vl1 hs9 hd9 hv hr hF s
 replace hv:=λi d h9=>hv i d (show Nat.blt i 7=true from h9)
 replace h:=ew 7 (ops:=_) [(6,_),(7,_),(8,_),(9,_),(10,_),(11,_),(12,_)] h hs9 hd9 hr ⟨(hv 0 6 rfl rfl).trans (hF 0 rfl),(hv 1 7 rfl rfl).trans (hF 1 rfl),(hv 2 8 rfl rfl).trans (hF 2 rfl),(hv 3 9 rfl rfl).trans (hF 3 rfl),(hv 4 10 rfl rfl).trans (hF 4 rfl),(hv 5 11 rfl rfl).trans (hF 5 rfl),(hv 6 12 rfl rfl).trans (hF 6 rfl),trivial⟩ (by kernel_rfl)
 refine e9 ac 1 h rfl λf h=>aL3 (av rfl h s rfl (rfl))
theorem IB (L:List V2) (hL:L.length<=1000) (ho:∀ x∈L,x.2.oneCell'=true) (hd:L.Pairwise λa b=>a.1.no≠b.1.no) (v:Value) (bx:Nat) (B8 B9:List Own) (w0 w:World) (s:St w0 (.sl v 54 3 L.length (a8 L)::B9) w) (hb:∀ w9 C,St w0 (C::B9) w9->gq w9 bx #[.func (.func 99) #[] #[]]):
 Calls Tryz.prog 153 [v,.func (.func 154) #[] #[.pointer (some ⟨bx,0,none⟩)]].toArray w (λe w'=>∃ r,e=.returned r/\∃ K:List V2,K.Perm L/\(K.Pairwise λa b=>a.1.no<b.1.no)/\St w0 (.sl v 54 3 K.length (a8 K)::B9) w'):=by
 by_cases h0:L.length=0
 ·have hl:L=[]:=List.eq_nil_of_length_eq_zero h0
  subst hl
  obtain ⟨a,c,rfl⟩:=d5 (s.getSl 0 rfl)
  refine(Go.Proofs.AnyF.slices_SortFunc_none (P:=Tryz.prog) (ρ:=Tryz.layS_ren) Tryz.layS a c (.func (.func 154) #[] #[.pointer (some ⟨bx,0,none⟩)]) w).mono ?_
  rintro e w' ⟨rfl,rfl⟩
  exact ⟨_,rfl,[],List.Perm.refl _,List.Pairwise.nil,s⟩
 ·have ho9:∀ x∈L,∀ u∈vy x,u.oneCell'=true:=λx hx u hu=>yp (l:=[x]) (λy hy=>by rw [aI4.1 hy];exact ho x hx) u (by unfold a8;simpa using hu)
  obtain ⟨l,hl⟩:∃ l,l=mk9 vy L ho9:=⟨_,rfl⟩
  have hm:l.map (·.1)=L:=by rw [hl];exact yY vy L ho9
  have hln:l.length=L.length:=by rw [hl];exact GN vy L ho9
  have hc:a8 L=l.flatMap (subL vy):=by rw [nf,hm];rfl
  have hos:∀ x:ig vy,(λx:V2=>x.2.oneCell'=true) x.1:=λx=>x.2 _ (by unfold vy UA;simp)
  rw [hc,← hln] at s
  obtain ⟨g,cap,rfl,hlt,hgo,hH,hst⟩:=Az vy 3 jY (by decide) s rfl (by omega)
  have hcon:=Go.Proofs.AnyQ.slices_SortFunc (P:=Tryz.prog) (ρ:=Tryz.layS_ren) Tryz.layS 3 Tryz.isAgg54 Tryz.sizeOf54 (subL vy) (kC vy 3 jY) (wN vy) (λx y:ig vy=>cH x.1.1.no y.1.1.no) (AC vy (λx:V2=>x.1.no)) 154 #[.pointer (some ⟨bx,0,none⟩)] g 0 cap l.toArray w (enters_of Tryz.func154 (by kernel_rfl) rfl) (λm os dk hdk x y=>by
   have h9:=HQ x.1 y.1 bx (Go.Proofs.sortWorldK (subL vy) 3 w g 0 m dk os) (hos x) (hos y) (hb _ _ (hst m os dk (by simpa using hdk)))
   refine h9.mono ?_
   rintro e w' ⟨v,rfl,hv,hE⟩
   obtain rfl:=hv
   exact ⟨rfl,sA hE⟩) hH hlt (by rw [List.size_toArray];omega)
  refine hcon.mono ?_
  rintro e w' ⟨rfl,d',n,os,hp,hs,rfl⟩
  have hsz:d'.size=l.length:=by rw [hp.1,List.size_toArray]
  have s2:=hst n os d' hsz
  obtain ⟨h1,h2⟩:=B3 vy (λx:V2=>x.1.no) (l:=l) (by rw [← hm,List.pairwise_map] at hd;exact hd) hp hs
  have hKl:(d'.toList.map (·.1)).length=l.length:=by rw [aL1,aI2,hsz]
  refine ⟨_,rfl,d'.toList.map (·.1),?_,List.pairwise_map.2 h2,?_⟩
  ·rw [← hm];exact h1.map _
  ·rw [nf] at s2;rw [hKl];exact s2
set_option maxHeartbeats 1000000 in
theorem pd (L:List V2) (x:V2) (v:Value) (B9:List Own) (w0 w:World) (s:St w0 (.sl v 54 3 L.length (a8 L)::B9) w) (hL:L.length<=900) (ho:∀ x∈L,x.2.oneCell'=true) (hx9:x.2.oneCell'=true) (hd:(L++[x]).Pairwise λa b=>a.1.no≠b.1.no):Calls Tryz.prog 98 [v,.agg (bC x.1.no x.1.sec x.2),.func (.func 99) #[] #[]].toArray w (λe w9=>∃ v9,e=.returned v9/\∃ K:List V2,K.Perm (L++[x])/\(K.Pairwise λa b=>a.1.no<b.1.no)/\St w0 (.sl v9 54 3 K.length (a8 K)::B9) w9):=by
 have ho1:∀ y∈(L++[x]),y.2.oneCell'=true:=λy hy=>by rcases aK9.1 hy with hy|hy;exact ho y hy;rw [aI4.1 hy];exact hx9
 refine c7 Tryz.func98 rfl Tryz.ntmps98 rfl [(0,v),(1,.agg (bC x.1.no x.1.sec x.2)),(2,.func (.func 99) #[] #[])] (by simp) λf h=>?_
 refine qr (aV (bC x.1.no x.1.sec x.2) h s rfl rfl rfl λf w1 b4 h s=>aV (#[.func (.func 99) #[] #[]]) h s rfl rfl rfl λf w1 b5 h s=>e9 ac 1 h rfl λf h=>bU ac 1 h rfl λf h=>ak 1 h s cC rfl rfl (aG _ _ _) rfl λf h=>cf (vs:=[.agg (bC x.1.no x.1.sec x.2)]) [.tmp 8] h s aR6 Fw rfl rfl (λv hv=>by rw [aI4.1 hv];rfl) rfl rfl rfl λf w1 v9 h s=>?_)
 replace s:=s.resl (m:=1) (ys:=a8 [x]) 0 rfl rfl rfl
 refine dD 3 0 h s aR6 Fw rfl rfl rfl rfl (by decide) ((yp (l:=[x]) (λy hy=>by rw [aI4.1 hy];exact hx9))) (by unfold maxLen;omega) (by omega) rfl λf w1 v10 h s=>?_
 replace s:=s.pick _ (aJ2 _ _)
 replace s:=s.resl (m:=(L++[x]).length) (ys:=a8 (L++[x])) 2 rfl (by rw [aH7];rfl) (by unfold a8;rw [aM2])
 refine e9 ac 1 h rfl λf h=>bU ac 1 h rfl λf h=>ai h (cO [.pointer (some ⟨b5,0,none⟩)] (ke h rfl)) rfl λf h=>?_
 replace s:=s.bring 2 rfl
 refine cM [v10,.func (.func 154) #[] #[.pointer (some ⟨b5,0,none⟩)]] h U3 (IB (L++[x]) (by rw [aH7];show L.length+1<=1000;omega) ho1 hd v10 b5 [] _ _ _ s (λw9 C9 s9=>gq.of_own s9 1 rfl)) rfl rfl ?_;rintro f w1 r ⟨K,hkp,hks,s⟩ h
 refine nt (bE ac 2 h rfl λf h=>aL3 (dK rfl h rfl (⟨v10,rfl,K,hkp,hks,(s.pick _ (aG7 _ (aG8 _ (aG8 _ (List.Sublist.refl _)))))⟩)))
set_option maxHeartbeats 1000000 in
theorem Hv (x y:H4) (bx:Nat)  (w:World) (hx9:x.2.1.oneCell'=true/\x.2.2.1.oneCell'=true/\x.2.2.2.oneCell'=true) (hy9:y.2.1.oneCell'=true/\y.2.2.1.oneCell'=true/\y.2.2.2.oneCell'=true) (hb:gq w bx #[.func (.func 110) #[] #[]]):Calls Tryz.prog 165 [.agg (ca x.1.no x.1.gt x.2.1 x.2.2.1 x.2.2.2),.agg (ca y.1.no y.1.gt y.2.1 y.2.2.1 y.2.2.2),.pointer (some ⟨bx,0,none⟩)].toArray w (cb w (is (.int .i64 (cH x.1.no y.1.no)))):=by
 refine bK Tryz.func165 rfl Tryz.ntmps165 rfl λf h s=>qr (aV (ca x.1.no x.1.gt x.2.1 x.2.2.1 x.2.2.2) h s rfl rfl rfl λf w1 b3 h s=>aV (ca y.1.no y.1.gt y.2.1 y.2.2.1 y.2.2.2) h s rfl rfl rfl λf w1 b4 h s=>e9 ac 1 h rfl λf h=>ah (fC 0 7 [[],[],[0,1],[],[],[0,1,2,3,4],[0,1,2,3,4,5],[0,1,2,3,4,5,6]] [[],[],[],[],[],[],[],[]] [] [.v (.func (.func 110) #[] #[]),.v (.agg (ca x.1.no x.1.gt x.2.1 x.2.2.1 x.2.2.2)),.v (.int .i64 x.1.no),.v (.func (.func 110) #[] #[]),.v (.agg (ca y.1.no y.1.gt y.2.1 y.2.2.1 y.2.2.2)),.v (.int .i64 y.1.no),.v (.int .i64 (cH x.1.no y.1.no)),.n] _ h s rfl (by kernel_rfl) (by kernel_rfl) (by kernel_rfl) (cm ?_ (cm ?_ (cm ?_ (cm ?_ (cm ?_ (cm ?_ (cm ?_ (trivial)))))))) [0,1,2,3,4,5,6] (by kernel_rfl) ?_))
 ·intro f9 w2 vl1 E9 hs9 hd9 hl hF s
  have h:=cq [(2,_)] h hs9 hd9 ⟨fu hl 2 (by kernel_rfl) (h.holds 2 _ rfl),trivial⟩
  refine ag (V:=.func (.func 110) #[] #[]) (ae (aJ.of_tab (hb.keep s.ext)) 0 (rfl)) h MD rfl rfl λf h=>az ⟨_,br 6 h rfl rfl,rfl,s⟩
 ·intro f9 w2 vl1 E9 hs9 hd9 hl hF s
  have h:=cq [(3,_)] h hs9 hd9 ⟨fu hl 3 (by kernel_rfl) (h.holds 3 _ rfl),trivial⟩
  refine ak 1 h s gc rfl rfl (bG _ _ _ _ _) rfl λf h=>az ⟨_,br 7 h rfl rfl,rfl,s⟩
 ·intro f9 w2 vl1 E9 hs9 hd9 hl hF s
  have h:=cq [(6,_),(7,_)] h hs9 hd9 ⟨a7 hl 6 0 (by kernel_rfl) (hF 0 (by decide)),a7 hl 7 1 (by kernel_rfl) (hF 1 (by decide)),trivial⟩
  refine cJ [.agg (ca x.1.no x.1.gt x.2.1 x.2.2.1 x.2.2.2)] (caps:=[]) h s Dm rfl (uZ x _ hx9) rfl rfl ?_;intro f w1 v9 hT hE h s;obtain rfl:=hT
  exact az ⟨_,br 8 h rfl rfl,rfl,s⟩
 ·intro f9 w2 vl1 E9 hs9 hd9 hl hF s
  have h:=cq [(2,_)] h hs9 hd9 ⟨fu hl 2 (by kernel_rfl) (h.holds 2 _ rfl),trivial⟩
  refine ag (V:=.func (.func 110) #[] #[]) (ae (aJ.of_tab (hb.keep s.ext)) 0 (rfl)) h MD rfl rfl λf h=>az ⟨_,br 9 h rfl rfl,rfl,s⟩
 ·intro f9 w2 vl1 E9 hs9 hd9 hl hF s
  have h:=cq [(4,_)] h hs9 hd9 ⟨fu hl 4 (by kernel_rfl) (h.holds 4 _ rfl),trivial⟩
  refine ak 0 h s gc rfl rfl (bG _ _ _ _ _) rfl λf h=>az ⟨_,br 10 h rfl rfl,rfl,s⟩
 ·intro f9 w2 vl1 E9 hs9 hd9 hl hF s
  have h:=cq [(9,_),(10,_)] h hs9 hd9 ⟨a7 hl 9 3 (by kernel_rfl) (hF 3 (by decide)),a7 hl 10 4 (by kernel_rfl) (hF 4 (by decide)),trivial⟩
  refine cJ [.agg (ca y.1.no y.1.gt y.2.1 y.2.2.1 y.2.2.2)] (caps:=[]) h s Dm rfl (uZ y _ hy9) rfl rfl ?_;intro f w1 v9 hT hE h s;obtain rfl:=hT
  exact az ⟨_,br 11 h rfl rfl,rfl,s⟩
 ·intro f9 w2 vl1 E9 hs9 hd9 hl hF s
  have h:=cq [(8,_),(11,_)] h hs9 hd9 ⟨a7 hl 8 2 (by kernel_rfl) (hF 2 (by decide)),a7 hl 11 5 (by kernel_rfl) (hF 5 (by decide)),trivial⟩
  refine dF h s uk (mo x.1.no y.1.no _) rfl rfl λf w1 h s=>az ⟨_,br 12 h rfl rfl,rfl,s⟩
 intro f w1 vl1 hs9 hd9 hv hr hF s
 replace hv:=λi d h9=>hv i d (show Nat.blt i 7=true from h9)
 replace h:=ew 7 (ops:=_) [(6,_),(7,_),(8,_),(9,_),(10,_),(11,_),(12,_)] h hs9 hd9 hr ⟨(hv 0 6 rfl rfl).trans (hF 0 rfl),(hv 1 7 rfl rfl).trans (hF 1 rfl),(hv 2 8 rfl rfl).trans (hF 2 rfl),(hv 3 9 rfl rfl).trans (hF 3 rfl),(hv 4 10 rfl rfl).trans (hF 4 rfl),(hv 5 11 rfl rfl).trans (hF 5 rfl),(hv 6 12 rfl rfl).trans (hF 6 rfl),trivial⟩ (by kernel_rfl)
 refine e9 ac 1 h rfl λf h=>aL3 (av rfl h s rfl (rfl))
theorem GV (L:List H4) (hL:L.length<=1000) (ho:∀ x∈L,x.2.1.oneCell'=true/\x.2.2.1.oneCell'=true/\x.2.2.2.oneCell'=true) (hd:L.Pairwise λa b=>a.1.no≠b.1.no) (v:Value) (bx:Nat) (B8 B9:List Own) (w0 w:World) (s:St w0 (.sl v 68 5 L.length (bB L)::B9) w) (hb:∀ w9 C,St w0 (C::B9) w9->gq w9 bx #[.func (.func 110) #[] #[]]):
 Calls Tryz.prog 164 [v,.func (.func 165) #[] #[.pointer (some ⟨bx,0,none⟩)]].toArray w (λe w'=>∃ r,e=.returned r/\∃ K:List H4,K.Perm L/\(K.Pairwise λa b=>a.1.no<b.1.no)/\St w0 (.sl v 68 5 K.length (bB K)::B9) w'):=by
 by_cases h0:L.length=0
 ·have hl:L=[]:=List.eq_nil_of_length_eq_zero h0
  subst hl
  obtain ⟨a,c,rfl⟩:=d5 (s.getSl 0 rfl)
  refine(Go.Proofs.AnyF.slices_SortFunc_none (P:=Tryz.prog) (ρ:=Tryz.layH_ren) Tryz.layH a c (.func (.func 165) #[] #[.pointer (some ⟨bx,0,none⟩)]) w).mono ?_
  rintro e w' ⟨rfl,rfl⟩
  exact ⟨_,rfl,[],List.Perm.refl _,List.Pairwise.nil,s⟩
 ·have ho9:∀ x∈L,∀ u∈pY x,u.oneCell'=true:=λx hx u hu=>xo (l:=[x]) (λy hy=>by rw [aI4.1 hy];exact ho x hx) u (by unfold bB;simpa using hu)
  obtain ⟨l,hl⟩:∃ l,l=mk9 pY L ho9:=⟨_,rfl⟩
  have hm:l.map (·.1)=L:=by rw [hl];exact yY pY L ho9
  have hln:l.length=L.length:=by rw [hl];exact GN pY L ho9
  have hc:bB L=l.flatMap (subL pY):=by rw [nf,hm];rfl
  have hos:∀ x:ig pY,(λx:H4=>x.2.1.oneCell'=true/\x.2.2.1.oneCell'=true/\x.2.2.2.oneCell'=true) x.1:=λx=>⟨x.2 _ (by unfold pY OV;simp),x.2 _ (by unfold pY OV;simp),x.2 _ (by unfold pY OV;simp)⟩
  rw [hc,← hln] at s
  obtain ⟨g,cap,rfl,hlt,hgo,hH,hst⟩:=Az pY 5 iL (by decide) s rfl (by omega)
  have hcon:=Go.Proofs.AnyQ.slices_SortFunc (P:=Tryz.prog) (ρ:=Tryz.layH_ren) Tryz.layH 5 Tryz.isAgg68 Tryz.sizeOf68 (subL pY) (kC pY 5 iL) (wN pY) (λx y:ig pY=>cH x.1.1.no y.1.1.no) (AC pY (λx:H4=>x.1.no)) 165 #[.pointer (some ⟨bx,0,none⟩)] g 0 cap l.toArray w (enters_of Tryz.func165 (by kernel_rfl) rfl) (λm os dk hdk x y=>by
   have h9:=Hv x.1 y.1 bx (Go.Proofs.sortWorldK (subL pY) 5 w g 0 m dk os) (hos x) (hos y) (hb _ _ (hst m os dk (by simpa using hdk)))
   refine h9.mono ?_
   rintro e w' ⟨v,rfl,hv,hE⟩
   obtain rfl:=hv
   exact ⟨rfl,sA hE⟩) hH hlt (by rw [List.size_toArray];omega)
  refine hcon.mono ?_
  rintro e w' ⟨rfl,d',n,os,hp,hs,rfl⟩
  have hsz:d'.size=l.length:=by rw [hp.1,List.size_toArray]
  have s2:=hst n os d' hsz
  obtain ⟨h1,h2⟩:=B3 pY (λx:H4=>x.1.no) (l:=l) (by rw [← hm,List.pairwise_map] at hd;exact hd) hp hs
  have hKl:(d'.toList.map (·.1)).length=l.length:=by rw [aL1,aI2,hsz]
  refine ⟨_,rfl,d'.toList.map (·.1),?_,List.pairwise_map.2 h2,?_⟩
  ·rw [← hm];exact h1.map _
  ·rw [nf] at s2;rw [hKl];exact s2
set_option maxHeartbeats 1000000 in
theorem yP (L:List H4) (x:H4) (v:Value) (B9:List Own) (w0 w:World) (s:St w0 (.sl v 68 5 L.length (bB L)::B9) w) (hL:L.length<=900) (ho:∀ x∈L,x.2.1.oneCell'=true/\x.2.2.1.oneCell'=true/\x.2.2.2.oneCell'=true) (hx9:x.2.1.oneCell'=true/\x.2.2.1.oneCell'=true/\x.2.2.2.oneCell'=true) (hd:(L++[x]).Pairwise λa b=>a.1.no≠b.1.no):Calls Tryz.prog 109 [v,.agg (ca x.1.no x.1.gt x.2.1 x.2.2.1 x.2.2.2),.func (.func 110) #[] #[]].toArray w (λe w9=>∃ v9,e=.returned v9/\∃ K:List H4,K.Perm (L++[x])/\(K.Pairwise λa b=>a.1.no<b.1.no)/\St w0 (.sl v9 68 5 K.length (bB K)::B9) w9):=by
 have ho1:∀ y∈(L++[x]),y.2.1.oneCell'=true/\y.2.2.1.oneCell'=true/\y.2.2.2.oneCell'=true:=λy hy=>by rcases aK9.1 hy with hy|hy;exact ho y hy;rw [aI4.1 hy];exact hx9
 refine c7 Tryz.func109 rfl Tryz.ntmps109 rfl [(0,v),(1,.agg (ca x.1.no x.1.gt x.2.1 x.2.2.1 x.2.2.2)),(2,.func (.func 110) #[] #[])] (by simp) λf h=>?_
 refine qr (aV (ca x.1.no x.1.gt x.2.1 x.2.2.1 x.2.2.2) h s rfl rfl rfl λf w1 b4 h s=>aV (#[.func (.func 110) #[] #[]]) h s rfl rfl rfl λf w1 b5 h s=>e9 ac 1 h rfl λf h=>bU ac 1 h rfl λf h=>ak 1 h s gc rfl rfl (bG _ _ _ _ _) rfl λf h=>cf (vs:=[.agg (ca x.1.no x.1.gt x.2.1 x.2.2.1 x.2.2.2)]) [.tmp 8] h s aR7 Gw rfl rfl (λv hv=>by rw [aI4.1 hv];rfl) rfl rfl rfl λf w1 v9 h s=>?_)
 replace s:=s.resl (m:=1) (ys:=bB [x]) 0 rfl rfl rfl
 refine dD 3 0 h s aR7 Gw rfl rfl rfl rfl (by decide) ((xo (l:=[x]) (λy hy=>by rw [aI4.1 hy];exact hx9))) (by unfold maxLen;omega) (by omega) rfl λf w1 v10 h s=>?_
 replace s:=s.pick _ (aJ2 _ _)
 replace s:=s.resl (m:=(L++[x]).length) (ys:=bB (L++[x])) 2 rfl (by rw [aH7];rfl) (by unfold bB;rw [aM2])
 refine e9 ac 1 h rfl λf h=>bU ac 1 h rfl λf h=>ai h (cO [.pointer (some ⟨b5,0,none⟩)] (ke h rfl)) rfl λf h=>?_
 replace s:=s.bring 2 rfl
 refine cM [v10,.func (.func 165) #[] #[.pointer (some ⟨b5,0,none⟩)]] h XZ (GV (L++[x]) (by rw [aH7];show L.length+1<=1000;omega) ho1 hd v10 b5 [] _ _ _ s (λw9 C9 s9=>gq.of_own s9 1 rfl)) rfl rfl ?_;rintro f w1 r ⟨K,hkp,hks,s⟩ h
 refine nt (bE ac 2 h rfl λf h=>aL3 (dK rfl h rfl (⟨v10,rfl,K,hkp,hks,(s.pick _ (aG7 _ (aG8 _ (aG8 _ (List.Sublist.refl _)))))⟩)))
set_option maxHeartbeats 2000000 in
theorem Dd (vo vs vh vl vn:Value) (X:Wx) (kk:List Nat) (bc:Nat) (B9:List Own) (a:Ac) (va:Value)  (w0 w:World) (s:St w0 (.blk bc (.cells (gJ vo vs vh vl X.M.last X.M.now vn) 84)::.sl vs 54 3 X.S.length (a8 X.S)::.sl vh 68 5 X.H.length (bB X.H)::.sl vn 91 74 ([]:List Nt).length (bM ([]:List Nt))::.grp kk (λw9=>RdC w9 vo vl X)::B9) w) (hbd:BdW (aC X)) (hH0:X.H=[]) (hU:∀ w9,St w0 B9 w9->iJ w9 va a.l):Calls Tryz.prog 52 [.pointer (some ⟨bc,0,none⟩),.agg (bQ a va)].toArray w (λe w9=>∃ v,e=.returned v/\IS w0 bc 84 54 68 91 (ue (aC X) a.no a.tO) B9 v w9):=by
 have hbH:=hbd.hx
 refine c7 Tryz.func52 rfl Tryz.ntmps52 rfl [(0,.pointer (some ⟨bc,0,none⟩)),(1,.agg (bQ a va))] (by simp) λf h=>?_
 refine qr (aV (bQ a va) h s rfl rfl rfl λf w1 b3 h s=>e9 ac 1 h rfl λf h=>bU ac 1 h rfl λf h=>ag (V:=.int .i64 a.no) (ae (aJ.of_own s 0 rfl) 1 (vG _ _)) h bJ rfl rfl λf h=>am ac 1 h rfl λf h=>ag (V:=.int .i64 a.tO) (ae (aJ.of_own s 0 rfl) 2 (au0 _ _)) h bJ rfl rfl λf h=>aY h s VE (K3 a.no a.tO _) rfl rfl ?_);rintro f w1 v12 ⟨uw,uh,ui,k1,rfl,hG⟩ hE h sq;replace s:=s.add hG;clear hG
 have hu1:=bI ((s.getG 0 rfl) (kR _ 0 0)).1
 have hu2:=bI ((s.getG 0 rfl) (kR _ 0 0)).2.1
 have hu3:=bI ((s.getG 0 rfl) (kR _ 0 0)).2.2
 refine am ac 3 h rfl λf h=>aK (ca 0 0 ax ax ax) h s uJ rfl rfl λf w1 b5 h s=>al 0 h s gc rfl rfl rfl (bG _ _ _ _ _) (bG _ _ _ _ _) (fe _ _ (hu1) (hu2) (hu3)) λw1 s=>e9 ac 1 h rfl λf h=>ah (bE ac 2 h rfl λf h=>bV h rfl (λhc=>?_) (λhc=>?_))
 ·have x0:¬ (qn a.no a.tO)=0:=aG9 hc
  refine bE ac 2 h rfl λf h=>rt (dK rfl h rfl (by replace s:=s.bring 7 rfl;replace s:=s.bring 7 rfl;replace s:=s.bring 7 rfl;replace s:=s.bring 7 rfl;replace s:=s.bring 7 rfl;exact ⟨_,rfl,kU (R:=ue (aC X) a.no a.tO) (af0 x0) x0 (s.pick _ (aG7 _ (aG7 _ (aG7 _ (aG7 _ (aG7 _ (aG8 _ (aG8 _ (aG8 _ (List.Sublist.refl _))))))))))⟩))
 ·have x0:(qn a.no a.tO)=0:=Decidable.of_not_not (aH0 hc)
  refine kt (ah (bU ac 2 h rfl λf h=>ag (V:=.int .i64 a.no) (ae (aJ.of_own s 2 rfl) 1 (vG _ _)) h bJ rfl rfl λf h=>dF h s CL (aR (.pointer none) (qO vo vs vh vl vn X.M.last X.M.now bc X.H a.no _ (gq.of_own s 3 rfl) (bs.of_own (s.getSl 5 rfl)) (λx hx=>⟨bI ((s.getG 7 rfl).hw x hx).1,bI ((s.getG 7 rfl).hw x hx).2.1,bI ((s.getG 7 rfl).hw x hx).2.2⟩) (by omega)) (uQ (by rw [hH0];exact aM6 _))) rfl rfl λf w1 h s=>ai h (bz (.bool false) (gN aU7 (h.ev rfl) (h.ev rfl)) (rfl)) rfl λf h=>gS h rfl (ah ?_)))
  replace s:=s.bring 5 rfl
  refine fC 1 8 [[],[],[1],[1,2],[1,2,3],[1,2,3,4],[],[1,2,3,4,5,6],[0,1,2,3,4,5,6,7],[0,1,2,3,4,5,6,7,8],[0,1,2,3,4,5,6,7,8,9],[0,1,2,3,4,5,6,7,8,9,10]] [[],[],[],[],[],[],[],[12],[],[],[],[]] [[_]] [.v _,.v _,.v _,.v _,.v _,.v vh,.v (.agg (ca (jl a.no a.tO).no (jl a.no a.tO).gt uw uh ui)),.m (λv=>[.sl (v 7) 68 5 1 (bB [((jl a.no a.tO),uw,uh,ui)])]),.n,.n,.n,.n] _ h s rfl (by kernel_rfl) (by kernel_rfl) (by kernel_rfl) (gL ac h rfl rfl rfl (gL ac h rfl rfl rfl (gL ac h rfl rfl rfl (gL ac h rfl rfl rfl (gL ac h rfl rfl rfl (cm ?_ (cm ?_ (cm ?_ (trivial))))))))) [0,1,2,3,4,5,6,7] (by kernel_rfl) ?_
  ·intro f9 w2 vl6 E9 hs9 hd9 hl hF s
   have h:=cq [(27,_)] h hs9 hd9 ⟨a7 hl 27 4 (by kernel_rfl) (hF 4 (by decide)),trivial⟩
   refine ag (V:=vh) (ae (aJ.of_own s 3 rfl) 2 (ay1 _ _ _ _ _ _ _)) h nV rfl rfl λf h=>az ⟨_,br 28 h rfl rfl,rfl,s⟩
  ·intro f9 w2 vl6 E9 hs9 hd9 hl hF s
   have h:=cq [(5,_)] h hs9 hd9 ⟨fu hl 5 (by kernel_rfl) (h.holds 5 _ rfl),trivial⟩
   refine ak 0 h s gc rfl rfl (bG _ _ _ _ _) rfl λf h=>az ⟨_,br 29 h rfl rfl,rfl,s⟩
  ·intro f9 w2 vl6 E9 hs9 hd9 hl hF s
   have h:=cq [(28,_),(29,_)] h hs9 hd9 ⟨a7 hl 28 5 (by kernel_rfl) (hF 5 (by decide)),a7 hl 29 6 (by kernel_rfl) (hF 6 (by decide)),trivial⟩
   replace s:=s.resl (m:=([]:List H4).length) (ys:=bB []) 0 rfl (by rw [hH0]) (by rw [hH0])
   refine cM [vh,.agg (ca (jl a.no a.tO).no (jl a.no a.tO).gt uw uh ui),.func (.func 110) #[] #[]] h WG (yP [] ((jl a.no a.tO),uw,uh,ui) vh _ _ _ s (aJ3 _) (λx hx=>by cases hx) ⟨hu1,hu2,hu3⟩ (List.pairwise_singleton _ _)) rfl rfl ?_;rintro f w1 v30 ⟨K,hkp,hks,s⟩ h
   obtain rfl:=List.perm_singleton.1 hkp
   exact az ⟨_,br 30 h rfl rfl,trivial,s⟩
  intro f w1 vl6 hs9 hd9 hv hr hF s
  replace hv:=λi d h9=>hv i d (show Nat.blt i 8=true from h9)
  replace h:=ew 8 (ops:=_) [(23,_),(24,_),(25,_),(26,_),(27,_),(28,_),(29,_),(30,(vl6 7))] h hs9 hd9 hr ⟨(hv 0 23 rfl rfl).trans (hF 0 rfl),(hv 1 24 rfl rfl).trans (hF 1 rfl),(hv 2 25 rfl rfl).trans (hF 2 rfl),(hv 3 26 rfl rfl).trans (hF 3 rfl),(hv 4 27 rfl rfl).trans (hF 4 rfl),(hv 5 28 rfl rfl).trans (hF 5 rfl),(hv 6 29 rfl rfl).trans (hF 6 rfl),hv 7 30 rfl rfl,trivial⟩ (by kernel_rfl)
  replace s:St w0 (.sl (vl6 7) 68 5 1 (bB [((jl a.no a.tO),uw,uh,ui)])::.blk b5 (.cells (ca (jl a.no a.tO).no (jl a.no a.tO).gt uw uh ui) 68)::(.grp k1 (λw9=>pE w9 ax ax ax sO->pE w9 uw uh ui (jl a.no a.tO)))::.blk b3 (.cells (bQ a va) 45)::.blk bc (.cells (gJ vo vs vh vl X.M.last X.M.now vn) 84)::.sl vs 54 3 X.S.length (a8 X.S)::.sl vn 91 74 ([]:List Nt).length (bM ([]:List Nt))::(.grp kk (λw9=>RdC w9 vo vl X))::B9) _:=s
  refine am ac 3 h rfl λf h=>aM 4 h s nV rfl rfl rfl (by rw [fR];omega) (bk (s.getSl 0 rfl)) λw1 s=>?_
  replace s:=s.recell (D:=gJ vo vs (vl6 7) vl X.M.last X.M.now vn) 4 rfl (rfl)
  refine nt (bE ac 1 h rfl λf h=>aL3 (dK rfl h rfl (by replace s:=s.bring 6 rfl;replace s:=s.bring 1 rfl;replace s:=s.bring 6 rfl;replace s:=s.bring 6 rfl;replace s:=s.bring 7 rfl;replace s:=s.bring 6 rfl;exact ⟨_,rfl,G9 hH0 x0 (s.pick _ (aG7 _ (aG7 _ (aG7 _ (aG7 _ (aG7 _ (aG7 _ (aG8 _ (aG8 _ (List.Sublist.refl _))))))))))⟩)))
end Go.Proofs.YthmlflaiidhoiaaGreatDoor
