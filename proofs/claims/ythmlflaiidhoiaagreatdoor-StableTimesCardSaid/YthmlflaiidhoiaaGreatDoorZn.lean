/- Package world and what it stands on, so far as it is wanted: what each function answers. -/
import Derived.Test.YthmlflaiidhoiaaGreatDoorZb
import Derived.Test.YthmlflaiidhoiaaGreatDoorZa
import Derived.Test.YthmlflaiidhoiaaGreatDoorZi
import Derived.Test.YthmlflaiidhoiaaGreatDoorZh
import Derived.Test.YthmlflaiidhoiaaGreatDoorZc
set_option linter.unusedVariables false
set_option linter.unusedSimpArgs false
set_option linter.unusedSectionVars false
namespace Go.Proofs.YthmlflaiidhoiaaGreatDoor
open Go.RowKit
theorem Lg (H:List H4) (vh:Value)  (w:World) (hH:a7 w vh 5 H.length (bC H)) (hW:∀ x∈H,EV w x.2.1 x.2.2.1 x.2.2.2 x.1) (hHb:∀ x∈H,B9 x.1) (hHl:H.length<=1000):Calls Tryz.prog 28 [vh].toArray w (bW w (is (.bool (vV H)))):=by
 refine bG Tryz.func28 rfl Tryz.ntmps28 rfl λf h s=>bD ac 1 h rfl λf h=>ag (cw ac 1 h rfl λf h=>cb h (hH.keep s.ext) aA3 rfl rfl λf h=>e9 ac 1 h rfl λf h=>au4 (au6 (λnn aa ww=>∃ k:Nat,Sl 31 aa [(0,vh),(5,vh),(6,.int .i64 (H.length:Int)),(7,.int .i64 (k:Int))]/\St w [] ww/\nn=H.length - k/\k<=H.length/\∀ j,j<k->xR (H.map (·.1)) j=true) (H.length - (0)) ⟨0,h.only ⟨rfl,rfl,rfl,aw rfl (by omega),trivial⟩,s.as trivial,rfl,as3 _,λj hj=>ax7 hj (av6 _)⟩ ?_))
 rintro _ f w1 ⟨k,h,s,hnn,hp0,hp1⟩
 refine bD ac 1 h rfl λf h=>ag (cZ h rfl (λhc=>?_) (λhc=>?_))
 ·refine kt (ag (au4 (cw ac 1 h rfl λf h=>?_)))
  have hkl:k<H.length:=by omega
  refine ak h (bj (hH.keep s.ext) (k) aA3 DS (h.ev rfl) (h.ev rfl) (by omega) (by omega)) rfl λf h=>ax ((hH.keep s.ext).el (k) (by omega) (by decide) (D:=cB (H.getD k dy).1.no (H.getD k dy).1.gt (H.getD k dy).2.1 (H.getD k dy).2.2.1 (H.getD k dy).2.2.2) (LA _ k hkl)) h tH rfl (ct _ _ _ _ _) rfl λf h=>aK (cB 0 0 aq aq aq) h s HA rfl rfl λf w1 b4 h s=>ap ac 1 h rfl λf h=>am 0 h s tH rfl rfl rfl (ct _ _ _ _ _) (ct _ _ _ _ _) (kB _ _ (bJ ((hW _ (d8 hkl)).1.keep s.ext)) (bJ ((hW _ (d8 hkl)).2.1.keep s.ext)) (bJ ((hW _ (d8 hkl)).2.2.keep s.ext))) λw1 s=>nt (ag ?_)
  cases h0:(cp (H.getD k dy).1:Bool)
  ·refine cK 18 h (by kernel_rfl) (aH 0 h s tH rfl rfl (ct _ _ _ _ _) rfl λf h=>bR h QM (λw9 hE9=>bK (.bool false) (ui (H.getD k dy).1 (H.getD k dy).2.1 (H.getD k dy).2.2.1 (H.getD k dy).2.2.2 w9 ⟨(hW _ (d8 hkl)).1.keep (s.ext.trans hE9),(hW _ (d8 hkl)).2.1.keep (s.ext.trans hE9),(hW _ (d8 hkl)).2.2.keep (s.ext.trans hE9)⟩ (hHb _ (d8 hkl))) (aq3 Value.bool h0)) rfl rfl λf h=>aD ac 16 h rfl λf h=>bF s λw1 s=>iz h rfl (bD ac 1 h rfl λf h=>au3 (aY (aQ (aQ (aY (aQ (aA rfl h s rfl (by show _=_;rw [show vV H=false from yp hkl (by rw [wH,h0];rfl)])))))))))
  ·skip
   refine cK 18 h (by kernel_rfl) (aH 0 h s tH rfl rfl (ct _ _ _ _ _) rfl λf h=>bR h QM (λw9 hE9=>bK (.bool true) (ui (H.getD k dy).1 (H.getD k dy).2.1 (H.getD k dy).2.2.1 (H.getD k dy).2.2.2 w9 ⟨(hW _ (d8 hkl)).1.keep (s.ext.trans hE9),(hW _ (d8 hkl)).2.1.keep (s.ext.trans hE9),(hW _ (d8 hkl)).2.2.keep (s.ext.trans hE9)⟩ (hHb _ (d8 hkl))) (aq3 Value.bool h0)) rfl rfl λf h=>aD ac 3 h rfl λf h=>cj h rfl (HM ac (decide (0<k)) h rfl ((ar3.2 (by omega))) (λh1 f h=>?_) (λh1 f h=>?_)))
   ·refine aD ac 12 h rfl λf h=>bF s λw1 s=>tS h rfl (wpIn_skip (aW (aG (aC (ak h (bB (h.ev rfl) (h.ev rfl) (by omega)) rfl λf h=>e9 ac 1 h rfl λf h=>?_)))))
    exact ⟨_,by omega,⟨k+1,h.only ⟨rfl,rfl,rfl,aw rfl (by omega),trivial⟩,St.as (s.pick _ (ar8 [_] _)) trivial,rfl,by omega,gM hp1 (by rw [wH,h0,h1];rfl)⟩⟩
   ·skip
    refine aD ac 2 h rfl λf h=>cj h rfl (bw (V:=.int .i64 (H.getD k dy).1.no) (ah (aX.of_own s 0 rfl) 0 (TX _ _ _ _ _)) h bQ rfl rfl λf h=>aD ac 2 h rfl λf h=>cj h rfl (aF h (fp (h.ev rfl) (h.ev rfl) (by omega)) rfl λf h=>cj h rfl (aF h (bj (hH.keep s.ext) ((k - 1)) aA3 DS (h.ev rfl) (h.ev rfl) (by have:=ap9 h1;omega) (by have:=ap9 h1;omega)) rfl λf h=>cj h rfl (aF h (a6 C8 (h.ev rfl) ((hH.keep s.ext).some (by omega))) rfl λf h=>cj h rfl (bw (V:=.int .i64 (H.getD (k - 1) dy).1.no) (dt (hH.keep s.ext) ((k - 1)*5+0) (WS _ (k - 1) (by omega))) h bQ rfl rfl λf h=>cj h rfl (HM ac (decide ((H.getD k dy).1.no<=(H.getD (k - 1) dy).1.no)) h rfl ((ar3.2 (by omega))) (λh2 f h=>?_) (λh2 f h=>?_)))))))
    ·refine aD ac 2 h rfl λf h=>bF s λw1 s=>tS h rfl (wpIn_skip (aW (aG (aC (ak h (bB (h.ev rfl) (h.ev rfl) (by omega)) rfl λf h=>e9 ac 1 h rfl λf h=>?_)))))
     exact ⟨_,by omega,⟨k+1,h.only ⟨rfl,rfl,rfl,aw rfl (by omega),trivial⟩,St.as (s.pick _ (ar8 [_] _)) trivial,rfl,by omega,gM hp1 (by rw [wH,h0,h1,h2];rfl)⟩⟩
    ·refine aD ac 2 h rfl λf h=>bF s λw1 s=>iz h rfl (bD ac 1 h rfl λf h=>au3 (aY (aQ (aQ (aY (aQ (aA rfl h s rfl (by show _=_;rw [show vV H=false from yp hkl (by rw [wH,h0,h1,h2];rfl)]))))))))
 ·refine au5 (aT (aT (bS (aG (bD ac 1 h rfl λf h=>au3 (aA rfl h s rfl (by show _=_;rw [show vV H=true from UR (λj hj=>hp1 j (by omega))])))))))
set_option maxHeartbeats 4000000 in
theorem AP (X:Wx) (vo vs vh vl:Value)  (w:World) (hX:RdW w vo vs vh vl X) (hb:BdW (aM X)):Calls Tryz.prog 24 [.agg (cY vo vs vh vl X.M.last X.M.now)].toArray w (bW w (CpW w 54 68 X)):=by
 have hbS:=hb.sx
 have hbH:=hb.hx
 have hbM:X.M.l.length<=100:=hb.ml
 have hbL:=hb.ox
 refine bG Tryz.func24 rfl Tryz.ntmps24 rfl λf h s=>qr (ba (cY vo vs vh vl X.M.last X.M.now) h s rfl rfl rfl λf w1 b1 h s=>aK (cY aq aq aq aq 0 0) h s py rfl rfl λf w1 b2 h s=>nt (cw ac 2 h rfl λf h=>ai (V:=vo) (ah (aX.of_own s 1 rfl) 0 (AJ _ _ _ _ _ _)) h iW rfl rfl λf h=>bg h s RP (sF X.L (by omega) vo _ (hX.ov.1.keep s.ext) (λx hx=>(hX.keep s.ext).ov.2 x hx)) rfl rfl ?_));intro f w1 v11 hT hE h sq;replace s:=s.sl_new hE hT
 refine ap ac 2 h rfl λf h=>aB 2 h s iW rfl rfl rfl (by rw [bo];omega) (aZ (s.getSl 0 rfl)) λw1 s=>?_
 replace s:=s.recell (D:=cY v11 vs vh vl X.M.last X.M.now) 2 rfl (rfl)
 refine nt (ag (qr ?_))
 replace s:=s.grp0 (S:=eI (X.L.take 0)) (λ_ x hx=>by simp at hx)
 refine ap ac 2 h rfl λf h=>ai (V:=v11) (ah (aX.of_own s 3 rfl) 0 (AJ _ _ _ _ _ _)) h iW rfl rfl λf h=>eF 1 h s aA1 rfl rfl rfl λf h=>e9 ac 1 h rfl λf h=>au4 (au6 (λnn aa ww=>∃ k:Nat,∃ Kd:List N3,∃ kd:List Nat,Sl 112 aa [(0,.agg (cY vo vs vh vl X.M.last X.M.now)),(1,.pointer (some ⟨b1,0,none⟩)),(2,.pointer (some ⟨b2,0,none⟩)),(11,v11),(16,v11),(17,.int .i64 (X.L.length:Int)),(18,.int .i64 (k:Int))]/\St w [(.grp kd (eI (Kd.take k))),.sl v11 63 68 Kd.length (au Kd),.blk b2 (.cells (cY aq aq aq aq 0 0) 31),.blk b1 (.cells (cY v11 vs vh vl X.M.last X.M.now) 31)] ww/\nn=X.L.length - k/\k<=X.L.length/\nds Kd=nds X.L/\∀ j,k<=j->Kd.getD j z3=X.L.getD j z3) (X.L.length - (0)) ⟨0,X.L,[],h.only ⟨rfl,rfl,rfl,rfl,rfl,rfl,aw rfl (by omega),trivial⟩,s.as ⟨rfl,rfl,rfl,rfl,trivial⟩,rfl,as3 _,rfl,λj _=>rfl⟩ ?_)
 rintro _ f w1 ⟨k,Kd,kd,h,s,hnn,hp0,hp1,hp2⟩
 refine bD ac 1 h rfl λf h=>ag (cZ h rfl (λhc=>?_) (λhc=>?_))
 ·refine kt (ag (au4 (bD ac 2 h rfl λf h=>qr ?_)))
  have hkl:k<X.L.length:=by omega
  have hlk:Kd.length=X.L.length:=by have h9:=aq3 List.length hp1;simpa [nds] using h9
  have hdk:k<Kd.length:=by omega
  have hxd:Kd.getD k z3=X.L.getD k z3:=hp2 k (as1 _)
  have hx9:=hb.oe.each _ (bE hkl)
  refine ap ac 2 h rfl λf h=>ai (V:=v11) (ah (aX.of_own s 3 rfl) 0 (AJ _ _ _ _ _ _)) h iW rfl rfl λf h=>ap ac 1 h rfl λf h=>ak h (bj (a7.of_own (s.getSl 1 rfl)) (k) aA1 uO (h.ev rfl) (h.ev rfl) (by omega) (by omega)) rfl λf h=>e9 ac 1 h rfl λf h=>cw ac 3 h rfl λf h=>ak h (a6 fU (h.ev rfl) ((a7.of_own (s.getSl 1 rfl)).some (by omega))) rfl λf h=>ai (V:=(Kd.getD k z3).2.1) (dt (a7.of_own (s.getSl 1 rfl)) (k*68+66) (kc Kd k hdk)) h ci rfl rfl λf h=>bg h s vj (gJ (X.L.getD k z3).1.sc (by omega) (Kd.getD k z3).2.1 _ (by rw [hxd];exact(hX.ov.2 _ (bE hkl)).1.keep s.ext)) rfl rfl ?_;intro f w1 v31 hT hE h sq;replace s:=s.sl_new hE hT
  refine ap ac 1 h rfl λf h=>ak h (a6 fU (h.ev rfl) ((a7.of_own (s.getSl 2 rfl)).some (by omega))) rfl λf h=>ej 2 h s ci rfl rfl rfl (by omega) (aZ (s.getSl 0 rfl)) (show (au Kd).set (k*68+66) v31=au (Kd.set k ((⟨(Kd.getD k z3).1.me,(Kd.getD k z3).1.pr,(Kd.getD k z3).1.sc,(Kd.getD k z3).1.fg⟩,v31,(Kd.getD k z3).2.2):N3)) from AC hdk _ _) λw1 s=>nt (rs ac 3 h rfl λf h=>ak h (a6 oA (h.ev rfl) ((a7.of_own (s.getSl 2 rfl)).some (by omega))) rfl λf h=>ai (V:=(Kd.getD k z3).2.2) (dt (a7.of_own (s.getSl 2 rfl)) (k*68+67) ((KG _ k (by rw [List.length_set];exact hdk)).trans (by rw [kZ hdk]))) h ci rfl rfl λf h=>bg h s vj (gJ (X.L.getD k z3).1.fg (by omega) (Kd.getD k z3).2.2 _ (by rw [hxd];exact(hX.ov.2 _ (bE hkl)).2.keep s.ext)) rfl rfl ?_);intro f w1 v39 hT hE h sq;replace s:=s.sl_new hE hT
  refine ap ac 1 h rfl λf h=>ak h (a6 oA (h.ev rfl) ((a7.of_own (s.getSl 3 rfl)).some (by omega))) rfl λf h=>ej 3 h s ci rfl rfl rfl (by omega) (aZ (s.getSl 0 rfl)) (show (au (Kd.set k ((⟨(Kd.getD k z3).1.me,(Kd.getD k z3).1.pr,(Kd.getD k z3).1.sc,(Kd.getD k z3).1.fg⟩,v31,(Kd.getD k z3).2.2):N3))).set (k*68+67) v39=au (Kd.set k ((⟨(Kd.getD k z3).1.me,(Kd.getD k z3).1.pr,(Kd.getD k z3).1.sc,(Kd.getD k z3).1.fg⟩,v31,v39):N3)) from (zy (by rw [List.length_set];exact hdk) _ (Kd.getD k z3).1.fg).trans (by rw [kZ hdk,zp])) λw1 s=>?_
  replace s:=s.resl (m:=(Kd.set k ((⟨(Kd.getD k z3).1.me,(Kd.getD k z3).1.pr,(Kd.getD k z3).1.sc,(Kd.getD k z3).1.fg⟩,v31,v39):N3)).length) (ys:=au (Kd.set k ((⟨(Kd.getD k z3).1.me,(Kd.getD k z3).1.pr,(Kd.getD k z3).1.sc,(Kd.getD k z3).1.fg⟩,v31,v39):N3))) 3 rfl (by rw [List.length_set]) rfl
  refine aE (aW (aG (aC (ak h (bB (h.ev rfl) (h.ev rfl) (by omega)) rfl λf h=>e9 ac 1 h rfl λf h=>?_))))
  replace s:=s.bring 2 rfl
  replace s:=s.bring 1 rfl
  replace s:=s.bring 2 rfl
  replace s:St w [.sl v31 60 33 (X.L.getD k z3).1.sc.length (aj (X.L.getD k z3).1.sc),.sl v39 60 33 (X.L.getD k z3).1.fg.length (aj (X.L.getD k z3).1.fg),(.grp kd (eI (Kd.take k))),.sl v11 63 68 (Kd.set k ((⟨(Kd.getD k z3).1.me,(Kd.getD k z3).1.pr,(Kd.getD k z3).1.sc,(Kd.getD k z3).1.fg⟩,v31,v39):N3)).length (au (Kd.set k ((⟨(Kd.getD k z3).1.me,(Kd.getD k z3).1.pr,(Kd.getD k z3).1.sc,(Kd.getD k z3).1.fg⟩,v31,v39):N3))),.blk b2 (.cells (cY aq aq aq aq 0 0) 31),.blk b1 (.cells (cY v11 vs vh vl X.M.last X.M.now) 31)] _:=s
  obtain ⟨kn,s⟩:=s.grpR (S':=eI ((Kd.set k ((⟨(Kd.getD k z3).1.me,(Kd.getD k z3).1.pr,(Kd.getD k z3).1.sc,(Kd.getD k z3).1.fg⟩,v31,v39):N3)).take (k+1))) (λw9 h1 h2 h3=>Eh hdk h3 ⟨by rw [← hxd] at h1;exact h1,by rw [← hxd] at h2;exact h2⟩)
  replace s:=s.bring 3 rfl
  replace s:=s.bring 3 rfl
  replace s:=s.bring 3 rfl
  replace s:=s.bring 3 rfl
  replace s:St w [(.grp kn (eI ((Kd.set k ((⟨(Kd.getD k z3).1.me,(Kd.getD k z3).1.pr,(Kd.getD k z3).1.sc,(Kd.getD k z3).1.fg⟩,v31,v39):N3)).take (k+1)))),.sl v11 63 68 (Kd.set k ((⟨(Kd.getD k z3).1.me,(Kd.getD k z3).1.pr,(Kd.getD k z3).1.sc,(Kd.getD k z3).1.fg⟩,v31,v39):N3)).length (au (Kd.set k ((⟨(Kd.getD k z3).1.me,(Kd.getD k z3).1.pr,(Kd.getD k z3).1.sc,(Kd.getD k z3).1.fg⟩,v31,v39):N3))),.blk b2 (.cells (cY aq aq aq aq 0 0) 31),.blk b1 (.cells (cY v11 vs vh vl X.M.last X.M.now) 31)] _:=s
  exact ⟨_,by omega,⟨k+1,(Kd.set k ((⟨(Kd.getD k z3).1.me,(Kd.getD k z3).1.pr,(Kd.getD k z3).1.sc,(Kd.getD k z3).1.fg⟩,v31,v39):N3)),kn,h.only ⟨rfl,rfl,rfl,rfl,rfl,rfl,aw rfl (by omega),trivial⟩,St.as s ⟨rfl,rfl,rfl,rfl,trivial⟩,rfl,by omega,D2 hp1 rfl hdk,λj hj=>(Rz (by omega) _).trans (hp2 j (by omega))⟩⟩
 ·refine au5 (aT (aT (bS (aG (qr ?_)))))
  have hpn:=hp1
  have hlz:Kd.length=X.L.length:=by have h9:=aq3 List.length hp1;simpa [nds] using h9
  rw [show Kd.take k=Kd from as9 (by omega)] at s
  clear hlz
  refine ap ac 1 h rfl λf h=>ai (V:=vs) (ah (aX.of_own s 3 rfl) 1 (wK _ _ _ _ _ _)) h mV rfl rfl λf h=>bg h s WZ (LO X.S (by omega) vs _ (hX.sv.keep s.ext) (λx hx=>bJ ((hX.keep s.ext).sw x hx))) rfl rfl ?_;intro f w1 v45 hT hE h sq;replace s:=s.sl_new hE hT
  refine ap ac 1 h rfl λf h=>aB 4 h s mV rfl rfl rfl (by rw [bo];omega) (aZ (s.getSl 0 rfl)) λw1 s=>?_
  replace s:=s.recell (D:=cY v11 v45 vh vl X.M.last X.M.now) 4 rfl (rfl)
  refine nt (ag (qr ?_))
  replace s:=s.grp0 (S:=GB (X.S.take 0)) (λ_ x hx=>by simp at hx)
  refine ap ac 1 h rfl λf h=>ai (V:=v45) (ah (aX.of_own s 5 rfl) 1 (wK _ _ _ _ _ _)) h mV rfl rfl λf h=>eF 1 h s aA2 rfl rfl rfl λf h=>e9 ac 1 h rfl λf h=>au4 (au6 (λnn aa ww=>∃ k:Nat,∃ Ks:List V2,∃ ks:List Nat,Sl 112 aa [(0,.agg (cY vo vs vh vl X.M.last X.M.now)),(1,.pointer (some ⟨b1,0,none⟩)),(2,.pointer (some ⟨b2,0,none⟩)),(11,v11),(16,v11),(45,v45),(48,v45),(49,.int .i64 (X.S.length:Int)),(50,.int .i64 (k:Int))]/\St w [(.grp ks (GB (Ks.take k))),.sl v45 54 3 Ks.length (bM Ks),(.grp kd (eI Kd)),.sl v11 63 68 Kd.length (au Kd),.blk b2 (.cells (cY aq aq aq aq 0 0) 31),.blk b1 (.cells (cY v11 v45 vh vl X.M.last X.M.now) 31)] ww/\nn=X.S.length - k/\k<=X.S.length/\Ks.map (·.1)=X.S.map (·.1)/\∀ j,k<=j->Ks.getD j dA=X.S.getD j dA) (X.S.length - (0)) ⟨0,X.S,[],h.only ⟨rfl,rfl,rfl,rfl,rfl,rfl,rfl,rfl,aw rfl (by omega),trivial⟩,s.as ⟨rfl,rfl,rfl,rfl,rfl,rfl,trivial⟩,rfl,as3 _,rfl,λj _=>rfl⟩ ?_)
  rintro _ f w1 ⟨k,Ks,ks,h,s,hnn,hp0,hp1,hp2⟩
  refine bD ac 1 h rfl λf h=>ag (cZ h rfl (λhc=>?_) (λhc=>?_))
  ·refine kt (ag (au4 (qr ?_)))
   have hkl:k<X.S.length:=by omega
   have hlk:Ks.length=X.S.length:=by have h9:=aq3 List.length hp1;simpa using h9
   have hdk:k<Ks.length:=by omega
   have hxd:Ks.getD k dA=X.S.getD k dA:=hp2 k (as1 _)
   have hx9:=hb.se hkl
   refine e9 ac 2 h rfl λf h=>jC 0 12 [[],[0],[],[],[3],[],[3,4,5],[3,4,5,6],[3,4,5,6,7],[3,4,5,6,7,8],[0,1,2,3,4,5,6,7,8,9],[0,1,2,3,4,5,6,7,8,9,10],[0,1,2,3,4,5,6,7,8,9,10,11]] [[],[],[],[],[],[],[],[],[],[],[],[],[]] [] [.v _,.v v45,.v _,.v _,.v v45,.v _,.v (.pointer (some (bf v45 (k*3)))),.v (.pointer (some (bf v45 (k*3+2)))),.v ((Ks.getD k dA).2),.m (λv=>[.sl (v 9) 49 67 (X.S.getD k dA).1.tb.length (bz (X.S.getD k dA).1.tb)]),.v (.pointer (some (bf v45 (k*3)))),.v (.pointer (some (bf v45 (k*3+2)))),.n] _ h s rfl (by kernel_rfl) (by kernel_rfl) (by kernel_rfl) (iG ac h rfl rfl rfl (cq ?_ (iG ac h rfl rfl rfl (iG ac h rfl rfl rfl (cq ?_ (iG ac h rfl rfl rfl (cq ?_ (cq ?_ (cq ?_ (cq ?_ (cq ?_ (cq ?_ (trivial))))))))))))) [0,1,2,3,4,5,6,7,8,9,10,11] (by kernel_rfl) ?_
   ·intro f9 w2 vl13 E9 hs9 hd9 hl hF s
    have h:=cJ [(53,_)] h hs9 hd9 ⟨bp hl 53 0 (by kernel_rfl) (hF 0 (by decide)),trivial⟩
    refine ai (V:=v45) (ah (aX.of_own s 5 rfl) 1 (wK _ _ _ _ _ _)) h mV rfl rfl λf h=>aE ⟨_,bq 54 h rfl rfl,rfl,s⟩
   ·intro f9 w2 vl13 E9 hs9 hd9 hl hF s
    have h:=cJ [(56,_)] h hs9 hd9 ⟨bp hl 56 3 (by kernel_rfl) (hF 3 (by decide)),trivial⟩
    refine ai (V:=v45) (ah (aX.of_own s 5 rfl) 1 (wK _ _ _ _ _ _)) h mV rfl rfl λf h=>aE ⟨_,bq 57 h rfl rfl,rfl,s⟩
   ·intro f9 w2 vl13 E9 hs9 hd9 hl hF s
    have h:=cJ [(57,_),(58,_)] h hs9 hd9 ⟨bp hl 57 4 (by kernel_rfl) (hF 4 (by decide)),bp hl 58 5 (by kernel_rfl) (hF 5 (by decide)),trivial⟩
    refine ak h (bj (a7.of_own (s.getSl 1 rfl)) (k) aA2 zu (h.ev rfl) (h.ev rfl) (by omega) (by omega)) rfl λf h=>aE ⟨_,bq 59 h rfl rfl,rfl,s⟩
   ·intro f9 w2 vl13 E9 hs9 hd9 hl hF s
    have h:=cJ [(59,_)] h hs9 hd9 ⟨bp hl 59 6 (by kernel_rfl) (hF 6 (by decide)),trivial⟩
    refine ak h (a6 xQ (h.ev rfl) ((a7.of_own (s.getSl 1 rfl)).some (by omega))) rfl λf h=>aE ⟨_,bq 60 h rfl rfl,rfl,s⟩
   ·intro f9 w2 vl13 E9 hs9 hd9 hl hF s
    have h:=cJ [(60,_)] h hs9 hd9 ⟨bp hl 60 7 (by kernel_rfl) (hF 7 (by decide)),trivial⟩
    refine ai (V:=(Ks.getD k dA).2) (dt (a7.of_own (s.getSl 1 rfl)) (k*3+2) (UB hdk)) h iu rfl rfl λf h=>aE ⟨_,bq 61 h rfl rfl,rfl,s⟩
   ·intro f9 w2 vl13 E9 hs9 hd9 hl hF s
    have h:=cJ [(61,_)] h hs9 hd9 ⟨bp hl 61 8 (by kernel_rfl) (hF 8 (by decide)),trivial⟩
    refine bg h s RC (sG (X.S.getD k dA).1.tb (by omega) (Ks.getD k dA).2 _ (by rw [hxd];exact(hX.sw _ (fO hkl)).keep s.ext)) rfl rfl ?_;intro f w1 v62 hT hE h sq;replace s:=s.sl_new hE hT
    exact aE ⟨_,bq 62 h rfl rfl,trivial,s⟩
   ·intro f9 w2 vl13 E9 hs9 hd9 hl hF s
    have h:=cJ [(54,_),(55,_)] h hs9 hd9 ⟨bp hl 54 1 (by kernel_rfl) (hF 1 (by decide)),bp hl 55 2 (by kernel_rfl) (hF 2 (by decide)),trivial⟩
    refine ak h (bj (a7.of_own (s.getSl 1 rfl)) (k) aA2 zu (h.ev rfl) (h.ev rfl) (by omega) (by omega)) rfl λf h=>aE ⟨_,bq 63 h rfl rfl,rfl,s⟩
   ·intro f9 w2 vl13 E9 hs9 hd9 hl hF s
    have h:=cJ [(63,_)] h hs9 hd9 ⟨bp hl 63 10 (by kernel_rfl) (hF 10 (by decide)),trivial⟩
    refine ak h (a6 xQ (h.ev rfl) ((a7.of_own (s.getSl 1 rfl)).some (by omega))) rfl λf h=>aE ⟨_,bq 64 h rfl rfl,rfl,s⟩
   intro f w1 vl13 hs9 hd9 hv hr hF s
   replace hv:=λi d h9=>hv i d (show Nat.blt i 12=true from h9)
   replace h:=jx 12 (ops:=_) [(53,_),(54,_),(55,_),(56,_),(57,_),(58,_),(59,_),(60,_),(61,_),(62,(vl13 9)),(63,_),(64,_)] h hs9 hd9 hr ⟨(hv 0 53 rfl rfl).trans (hF 0 rfl),(hv 1 54 rfl rfl).trans (hF 1 rfl),(hv 2 55 rfl rfl).trans (hF 2 rfl),(hv 3 56 rfl rfl).trans (hF 3 rfl),(hv 4 57 rfl rfl).trans (hF 4 rfl),(hv 5 58 rfl rfl).trans (hF 5 rfl),(hv 6 59 rfl rfl).trans (hF 6 rfl),(hv 7 60 rfl rfl).trans (hF 7 rfl),(hv 8 61 rfl rfl).trans (hF 8 rfl),hv 9 62 rfl rfl,(hv 10 63 rfl rfl).trans (hF 10 rfl),(hv 11 64 rfl rfl).trans (hF 11 rfl),trivial⟩ (by kernel_rfl)
   replace s:St w [.sl (vl13 9) 49 67 (X.S.getD k dA).1.tb.length (bz (X.S.getD k dA).1.tb),(.grp ks (GB (Ks.take k))),.sl v45 54 3 Ks.length (bM Ks),(.grp kd (eI Kd)),.sl v11 63 68 Kd.length (au Kd),.blk b2 (.cells (cY aq aq aq aq 0 0) 31),.blk b1 (.cells (cY v11 v45 vh vl X.M.last X.M.now) 31)] _:=s
   refine ej 2 h s iu rfl rfl rfl (by omega) (aZ (s.getSl 0 rfl)) (show (bM Ks).set (k*3+2) (vl13 9)=bM (Ks.set k (((Ks.getD k dA).1,(vl13 9)):V2)) from OI hdk _) λw1 s=>?_
   replace s:=s.resl (m:=(Ks.set k (((Ks.getD k dA).1,(vl13 9)):V2)).length) (ys:=bM (Ks.set k (((Ks.getD k dA).1,(vl13 9)):V2))) 2 rfl (by rw [List.length_set]) rfl
   refine aE (aW (aG (aC (ak h (bB (h.ev rfl) (h.ev rfl) (by omega)) rfl λf h=>e9 ac 1 h rfl λf h=>?_))))
   replace s:=s.bring 1 rfl
   replace s:=s.bring 1 rfl
   replace s:St w [.sl (vl13 9) 49 67 (X.S.getD k dA).1.tb.length (bz (X.S.getD k dA).1.tb),(.grp ks (GB (Ks.take k))),.sl v45 54 3 (Ks.set k (((Ks.getD k dA).1,(vl13 9)):V2)).length (bM (Ks.set k (((Ks.getD k dA).1,(vl13 9)):V2))),(.grp kd (eI Kd)),.sl v11 63 68 Kd.length (au Kd),.blk b2 (.cells (cY aq aq aq aq 0 0) 31),.blk b1 (.cells (cY v11 v45 vh vl X.M.last X.M.now) 31)] _:=s
   obtain ⟨kn,s⟩:=s.slG (S':=GB ((Ks.set k (((Ks.getD k dA).1,(vl13 9)):V2)).take (k+1))) (λw9 h1 h3=>zP hdk h3 (by rw [← hxd] at h1;exact h1))
   replace s:=s.bring 5 rfl
   replace s:=s.bring 5 rfl
   replace s:=s.bring 5 rfl
   replace s:=s.bring 5 rfl
   replace s:=s.bring 5 rfl
   replace s:=s.bring 5 rfl
   replace s:St w [(.grp kn (GB ((Ks.set k (((Ks.getD k dA).1,(vl13 9)):V2)).take (k+1)))),.sl v45 54 3 (Ks.set k (((Ks.getD k dA).1,(vl13 9)):V2)).length (bM (Ks.set k (((Ks.getD k dA).1,(vl13 9)):V2))),(.grp kd (eI Kd)),.sl v11 63 68 Kd.length (au Kd),.blk b2 (.cells (cY aq aq aq aq 0 0) 31),.blk b1 (.cells (cY v11 v45 vh vl X.M.last X.M.now) 31)] _:=s
   exact ⟨_,by omega,⟨k+1,(Ks.set k (((Ks.getD k dA).1,(vl13 9)):V2)),kn,h.only ⟨rfl,rfl,rfl,rfl,rfl,rfl,rfl,rfl,aw rfl (by omega),trivial⟩,St.as s ⟨rfl,rfl,rfl,rfl,rfl,rfl,trivial⟩,rfl,by omega,(Ad (x:=((Ks.getD k dA).1,(vl13 9))) (z:=dA) (·.1) hdk rfl).trans hp1,λj hj=>(HE (by omega) _ _).trans (hp2 j (by omega))⟩⟩
  ·refine au5 (aT (aT (bS (aG (qr ?_)))))
   have hps:=hp1
   have hlz:Ks.length=X.S.length:=by have h9:=aq3 List.length hp1;simpa using h9
   rw [show Ks.take k=Ks from as9 (by omega)] at s
   clear hlz
   refine ap ac 1 h rfl λf h=>ai (V:=vh) (ah (aX.of_own s 5 rfl) 2 (F9 _ _ _ _ _ _)) h rV rfl rfl λf h=>bg h s Yz (Hv X.H (by omega) vh _ (hX.ho.keep s.ext) (λx hx=>⟨bJ ((hX.keep s.ext).hw x hx).1,bJ ((hX.keep s.ext).hw x hx).2.1,bJ ((hX.keep s.ext).hw x hx).2.2⟩)) rfl rfl ?_;intro f w1 v68 hT hE h sq;replace s:=s.sl_new hE hT
   refine ap ac 1 h rfl λf h=>aB 6 h s rV rfl rfl rfl (by rw [bo];omega) (aZ (s.getSl 0 rfl)) λw1 s=>?_
   replace s:=s.recell (D:=cY v11 v45 v68 vl X.M.last X.M.now) 6 rfl (rfl)
   refine nt (ag (qr ?_))
   replace s:=s.grp0 (S:=wV (X.H.take 0)) (λ_ x hx=>by simp at hx)
   refine ap ac 1 h rfl λf h=>ai (V:=v68) (ah (aX.of_own s 7 rfl) 2 (F9 _ _ _ _ _ _)) h rV rfl rfl λf h=>eF 1 h s aA3 rfl rfl rfl λf h=>e9 ac 1 h rfl λf h=>au4 (au6 (λnn aa ww=>∃ k:Nat,∃ Kh:List H4,∃ kh:List Nat,Sl 112 aa [(0,.agg (cY vo vs vh vl X.M.last X.M.now)),(1,.pointer (some ⟨b1,0,none⟩)),(2,.pointer (some ⟨b2,0,none⟩)),(11,v11),(16,v11),(45,v45),(48,v45),(68,v68),(71,v68),(72,.int .i64 (X.H.length:Int)),(73,.int .i64 (k:Int))]/\St w [(.grp kh (wV (Kh.take k))),.sl v68 68 5 Kh.length (bC Kh),(.grp ks (GB Ks)),.sl v45 54 3 Ks.length (bM Ks),(.grp kd (eI Kd)),.sl v11 63 68 Kd.length (au Kd),.blk b2 (.cells (cY aq aq aq aq 0 0) 31),.blk b1 (.cells (cY v11 v45 v68 vl X.M.last X.M.now) 31)] ww/\nn=X.H.length - k/\k<=X.H.length/\Kh.map (·.1)=X.H.map (·.1)/\∀ j,k<=j->Kh.getD j dy=X.H.getD j dy) (X.H.length - (0)) ⟨0,X.H,[],h.only ⟨rfl,rfl,rfl,rfl,rfl,rfl,rfl,rfl,rfl,rfl,aw rfl (by omega),trivial⟩,s.as ⟨rfl,rfl,rfl,rfl,rfl,rfl,rfl,rfl,trivial⟩,rfl,as3 _,rfl,λj _=>rfl⟩ ?_)
   rintro _ f w1 ⟨k,Kh,kh,h,s,hnn,hp0,hp1,hp2⟩
   refine bD ac 1 h rfl λf h=>ag (cZ h rfl (λhc=>?_) (λhc=>?_))
   ·refine kt (ag (au4 (bD ac 2 h rfl λf h=>qr ?_)))
    have hkl:k<X.H.length:=by omega
    have hlk:Kh.length=X.H.length:=by have h9:=aq3 List.length hp1;simpa using h9
    have hdk:k<Kh.length:=by omega
    have hxd:Kh.getD k dy=X.H.getD k dy:=hp2 k (as1 _)
    have hx9:=hb.he hkl
    refine ap ac 1 h rfl λf h=>ai (V:=v68) (ah (aX.of_own s 7 rfl) 2 (F9 _ _ _ _ _ _)) h rV rfl rfl λf h=>ap ac 1 h rfl λf h=>ak h (bj (a7.of_own (s.getSl 1 rfl)) (k) aA3 DS (h.ev rfl) (h.ev rfl) (by omega) (by omega)) rfl λf h=>e9 ac 1 h rfl λf h=>cw ac 3 h rfl λf h=>ak h (a6 xd (h.ev rfl) ((a7.of_own (s.getSl 1 rfl)).some (by omega))) rfl λf h=>ai (V:=(Kh.getD k dy).2.1) (dt (a7.of_own (s.getSl 1 rfl)) (k*5+2) (SH hdk)) h Eo rfl rfl λf h=>bg h s YA (IY (X.H.getD k dy).1.ws (by omega) (Kh.getD k dy).2.1 _ (by rw [hxd];exact(hX.hw _ (d8 hkl)).1.keep s.ext)) rfl rfl ?_;intro f w1 v85 hT hE h sq;replace s:=s.sl_new hE hT
    refine ap ac 1 h rfl λf h=>ak h (a6 xd (h.ev rfl) ((a7.of_own (s.getSl 2 rfl)).some (by omega))) rfl λf h=>ej 2 h s Eo rfl rfl rfl (by omega) (aZ (s.getSl 0 rfl)) (show (bC Kh).set (k*5+2) v85=bC (Kh.set k (((Kh.getD k dy).1,v85,(Kh.getD k dy).2.2):H4)) from Mw hdk _) λw1 s=>nt (cw ac 3 h rfl λf h=>ak h (a6 wX (h.ev rfl) ((a7.of_own (s.getSl 2 rfl)).some (by omega))) rfl λf h=>ai (V:=(Kh.getD k dy).2.2.1) (dt (a7.of_own (s.getSl 2 rfl)) (k*5+3) ((Ub (by rw [List.length_set];exact hdk)).trans (by rw [rB hdk]))) h EL rfl rfl λf h=>bg h s Zc (Ko (X.H.getD k dy).1.hs (by omega) (Kh.getD k dy).2.2.1 _ (by rw [hxd];exact(hX.hw _ (d8 hkl)).2.1.keep s.ext)) rfl rfl ?_);intro f w1 v93 hT hE h sq;replace s:=s.sl_new hE hT
    refine ap ac 1 h rfl λf h=>ak h (a6 wX (h.ev rfl) ((a7.of_own (s.getSl 3 rfl)).some (by omega))) rfl λf h=>ej 3 h s EL rfl rfl rfl (by omega) (aZ (s.getSl 0 rfl)) (show (bC (Kh.set k (((Kh.getD k dy).1,v85,(Kh.getD k dy).2.2):H4))).set (k*5+3) v93=bC (Kh.set k (((Kh.getD k dy).1,v85,v93,(Kh.getD k dy).2.2.2):H4)) from (NK (by rw [List.length_set];exact hdk) _).trans (by rw [rB hdk,List.set_set])) λw1 s=>nt (rs ac 3 h rfl λf h=>ak h (a6 yx (h.ev rfl) ((a7.of_own (s.getSl 3 rfl)).some (by omega))) rfl λf h=>ai (V:=(Kh.getD k dy).2.2.2) (dt (a7.of_own (s.getSl 3 rfl)) (k*5+4) ((TR (by rw [List.length_set];exact hdk)).trans (by rw [rB hdk]))) h uQ rfl rfl λf h=>bg h s Ra (yY (X.H.getD k dy).1.bx (by omega) (Kh.getD k dy).2.2.2 _ (by rw [hxd];exact(hX.hw _ (d8 hkl)).2.2.keep s.ext)) rfl rfl ?_);intro f w1 v101 hT hE h sq;replace s:=s.sl_new hE hT
    refine ap ac 1 h rfl λf h=>ak h (a6 yx (h.ev rfl) ((a7.of_own (s.getSl 4 rfl)).some (by omega))) rfl λf h=>ej 4 h s uQ rfl rfl rfl (by omega) (aZ (s.getSl 0 rfl)) (show (bC (Kh.set k (((Kh.getD k dy).1,v85,v93,(Kh.getD k dy).2.2.2):H4))).set (k*5+4) v101=bC (Kh.set k (((Kh.getD k dy).1,v85,v93,v101):H4)) from (PY (by rw [List.length_set];exact hdk) _).trans (by rw [rB hdk,List.set_set])) λw1 s=>?_
    replace s:=s.resl (m:=(Kh.set k (((Kh.getD k dy).1,v85,v93,v101):H4)).length) (ys:=bC (Kh.set k (((Kh.getD k dy).1,v85,v93,v101):H4))) 4 rfl (by rw [List.length_set]) rfl
    refine aE (aW (aG (aC (ak h (bB (h.ev rfl) (h.ev rfl) (by omega)) rfl λf h=>e9 ac 1 h rfl λf h=>?_))))
    replace s:=s.bring 3 rfl
    replace s:=s.bring 1 rfl
    replace s:=s.bring 2 rfl
    replace s:=s.bring 3 rfl
    replace s:St w [.sl v85 125 33 (X.H.getD k dy).1.ws.length (cm (X.H.getD k dy).1.ws),.sl v93 128 34 (X.H.getD k dy).1.hs.length (cG (X.H.getD k dy).1.hs),.sl v101 9 1 (X.H.getD k dy).1.bx.length (uN (X.H.getD k dy).1.bx),(.grp kh (wV (Kh.take k))),.sl v68 68 5 (Kh.set k (((Kh.getD k dy).1,v85,v93,v101):H4)).length (bC (Kh.set k (((Kh.getD k dy).1,v85,v93,v101):H4))),(.grp ks (GB Ks)),.sl v45 54 3 Ks.length (bM Ks),(.grp kd (eI Kd)),.sl v11 63 68 Kd.length (au Kd),.blk b2 (.cells (cY aq aq aq aq 0 0) 31),.blk b1 (.cells (cY v11 v45 v68 vl X.M.last X.M.now) 31)] _:=s
    obtain ⟨kn,s⟩:=s.sl3G (S':=wV ((Kh.set k (((Kh.getD k dy).1,v85,v93,v101):H4)).take (k+1))) (λw9 h1 h2 h3 h4=>zP hdk h4 (by rw [← hxd] at h1 h2 h3;exact ⟨h1,h2,h3⟩))
    replace s:=s.bring 7 rfl
    replace s:=s.bring 7 rfl
    replace s:=s.bring 7 rfl
    replace s:=s.bring 7 rfl
    replace s:=s.bring 7 rfl
    replace s:=s.bring 7 rfl
    replace s:=s.bring 7 rfl
    replace s:=s.bring 7 rfl
    replace s:St w [(.grp kn (wV ((Kh.set k (((Kh.getD k dy).1,v85,v93,v101):H4)).take (k+1)))),.sl v68 68 5 (Kh.set k (((Kh.getD k dy).1,v85,v93,v101):H4)).length (bC (Kh.set k (((Kh.getD k dy).1,v85,v93,v101):H4))),(.grp ks (GB Ks)),.sl v45 54 3 Ks.length (bM Ks),(.grp kd (eI Kd)),.sl v11 63 68 Kd.length (au Kd),.blk b2 (.cells (cY aq aq aq aq 0 0) 31),.blk b1 (.cells (cY v11 v45 v68 vl X.M.last X.M.now) 31)] _:=s
    exact ⟨_,by omega,⟨k+1,(Kh.set k (((Kh.getD k dy).1,v85,v93,v101):H4)),kn,h.only ⟨rfl,rfl,rfl,rfl,rfl,rfl,rfl,rfl,rfl,rfl,aw rfl (by omega),trivial⟩,St.as s ⟨rfl,rfl,rfl,rfl,rfl,rfl,rfl,rfl,trivial⟩,rfl,by omega,(Ad (x:=((Kh.getD k dy).1,v85,v93,v101)) (z:=dy) (·.1) hdk rfl).trans hp1,λj hj=>(HE (by omega) _ _).trans (hp2 j (by omega))⟩⟩
   ·refine au5 (aT (aT (bS (aG (qr ?_)))))
    have hph:=hp1
    have hlz:Kh.length=X.H.length:=by have h9:=aq3 List.length hp1;simpa using h9
    rw [show Kh.take k=Kh from as9 (by omega)] at s
    clear hlz
    refine ap ac 2 h rfl λf h=>ai (V:=vl) (ah (aX.of_own s 7 rfl) 3 (NS _ _ _ _ _ _)) h mO rfl rfl λf h=>bg h s QU (vX X.M.l (by omega) vl _ (hX.ml.keep s.ext)) rfl rfl ?_;intro f w1 v108 hT hE h sq;replace s:=s.sl_new hE hT
    refine ap ac 2 h rfl λf h=>aB 8 h s mO rfl rfl rfl (by rw [bo];omega) (aZ (s.getSl 0 rfl)) λw1 s=>?_
    replace s:=s.recell (D:=cY v11 v45 v68 v108 X.M.last X.M.now) 8 rfl (rfl)
    refine nt (qr (al 8 h s dC rfl rfl (bo _ _ _ _ _ _) rfl λf h=>am 7 h s dC rfl rfl rfl (bo _ _ _ _ _ _) (bo _ _ _ _ _ _) (gY _ _ (aZ (s.getSl 6 rfl)) (aZ (s.getSl 4 rfl)) (aZ (s.getSl 2 rfl)) (aZ (s.getSl 0 rfl))) λw1 s=>nt (au3 (g7 7 rfl h s dC rfl rfl (bo _ _ _ _ _ _) (VE hpn hps hph (s.sel [4,2,6,0,5,3,1] rfl (by decide)))))))
set_option maxHeartbeats 1000000 in
theorem Bq (vo vs vh vl vn:Value) (X:Wx) (kk:List Nat) (bc:Nat) (B9:List Own) (a:Ac) (va:Value)  (w0 w:World) (s:St w0 (.blk bc (.cells (qP vo vs vh vl X.M.last X.M.now vn) 84)::.sl vs 54 3 X.S.length (bM X.S)::.sl vh 68 5 X.H.length (bC X.H)::.sl vn 91 74 ([]:List Nt).length (dB ([]:List Nt))::.grp kk (λw9=>RdC w9 vo vl X)::B9) w) (hbd:BdW (aM X)) (hU:∀ w9,St w0 B9 w9->Co w9 va a.l):Calls Tryz.prog 51 [.pointer (some ⟨bc,0,none⟩),.agg (fb a va)].toArray w (λe w9=>∃ v,e=.returned v/\Xx w0 bc 84 54 68 91 (zI (aM X) a.n) B9 v w9):=by
 have hbM:X.M.l.length<=100:=hbd.ml
 refine da Tryz.func51 rfl Tryz.ntmps51 rfl [(0,.pointer (some ⟨bc,0,none⟩)),(1,.agg (fb a va))] (by simp) λf h=>?_
 refine qr (ba (fb a va) h s rfl rfl rfl λf w1 b3 h s=>e9 ac 1 h rfl λf h=>ag ?_)
 replace s:=s.bring 1 rfl
 replace s:St w0 (.blk bc (.cells (qP vo vs vh vl X.M.last X.M.now vn) 84)::.blk b3 (.cells (fb a va) 45)::.sl vs 54 3 X.S.length (bM X.S)::.sl vh 68 5 X.H.length (bC X.H)::.sl vn 91 74 ([]:List Nt).length (dB ([]:List Nt))::(.grp kk (λw9=>RdC w9 vo vl X))::B9) _:=s
 refine BE 1 [[],[],[1],[1,2],[1,2,3],[1,2,3,4],[],[6],[1,2,3,4,5,6,7],[1,2,3,4,5,6,7,8],[1,2,3,4,5,6,7,8],[0,1,2,3,4,5,6,7,8,9,10],[0,1,2,3,4,5,6,7,8,9,10,11]] [[],[],[],[],[],[],[],[],[],[],[],[13],[]] [[],[],[],[],[],[0],[],[],[],[],[],[],[]] [[_]] [.v (.pointer (some ⟨bc,0,none⟩)),.v (.pointer (some ⟨bc,0,none⟩)),.v (.pointer (some ⟨bc,0,none⟩)),.v (.pointer (some ⟨bc,0,none⟩)),.v (.pointer (some ⟨bc,3,none⟩)),.v (.agg #[vl,.int .i64 X.M.last,.int .i64 X.M.now]),.v (.pointer (some ⟨b3,3,none⟩)),.v (.int .i64 a.n),.r (λv=>[.sl (EX (v 8)) 132 4 (cW X.M a.n).l.length (ck (cW X.M a.n).l)]) (λv=>v 8=.tuple #[.agg #[(EX (v 8)),.int .i64 (cW X.M a.n).last,.int .i64 (cW X.M a.n).now],.int .i64 (eJ X.M a.n)]),.f (λv=>v 9=.agg #[(EX (v 8)),.int .i64 (cW X.M a.n).last,.int .i64 (cW X.M a.n).now]),.v (.int .i64 (eJ X.M a.n)),.w (λv=>[.blk bc (.cells (qP vo vs vh (EX (v 8)) (cW X.M a.n).last (cW X.M a.n).now vn) 84)]) (.int .i64 (eJ X.M a.n)),.v (.int .i64 (eJ X.M a.n))] (λ_ _=>[]) _ h s rfl (by kernel_rfl) (by kernel_rfl) (by kernel_rfl) (by kernel_rfl) (cq ?_ (cq ?_ (cq ?_ (cq ?_ (cq ?_ (cq ?_ (cq ?_ (cq ?_ (cq ?_ (cq ?_ (cq ?_ (cq ?_ (cq ?_ (trivial)))))))))))))) [0,1,2,3,4,5,6,7,8,9,10,11,12] (by kernel_rfl) ?_
 ·intro f9 w2 vl1 E9 lst9 hlo hlc hlz hs9 hd9 hl hF hR9 s
  have h:=cJ [(0,_)] h hs9 hd9 ⟨gp hl 0 (by kernel_rfl) (h.holds 0 _ rfl),trivial⟩
  refine ap ac 1 h rfl λf h=>aE ⟨_,bq 5 h rfl rfl,rfl,s⟩
 ·intro f9 w2 vl1 E9 lst9 hlo hlc hlz hs9 hd9 hl hF hR9 s
  have h:=cJ [(0,_)] h hs9 hd9 ⟨gp hl 0 (by kernel_rfl) (h.holds 0 _ rfl),trivial⟩
  refine ap ac 1 h rfl λf h=>aE ⟨_,bq 6 h rfl rfl,rfl,s⟩
 ·intro f9 w2 vl1 E9 lst9 hlo hlc hlz hs9 hd9 hl hF hR9 s
  have h:=cJ [(6,_)] h hs9 hd9 ⟨bp hl 6 1 (by kernel_rfl) (hF 1 (by decide)),trivial⟩
  refine ap ac 1 h rfl λf h=>aE ⟨_,bq 7 h rfl rfl,rfl,s⟩
 ·intro f9 w2 vl1 E9 lst9 hlo hlc hlz hs9 hd9 hl hF hR9 s
  have h:=cJ [(7,_)] h hs9 hd9 ⟨bp hl 7 2 (by kernel_rfl) (hF 2 (by decide)),trivial⟩
  refine ap ac 1 h rfl λf h=>aE ⟨_,bq 8 h rfl rfl,rfl,s⟩
 ·intro f9 w2 vl1 E9 lst9 hlo hlc hlz hs9 hd9 hl hF hR9 s
  have h:=cJ [(8,_)] h hs9 hd9 ⟨bp hl 8 3 (by kernel_rfl) (hF 3 (by decide)),trivial⟩
  refine ap ac 1 h rfl λf h=>aE ⟨_,bq 9 h rfl rfl,rfl,s⟩
 ·intro f9 w2 vl1 E9 lst9 hlo hlc hlz hs9 hd9 hl hF hR9 s
  have hq9:Own.blk bc (.cells (qP vo vs vh vl X.M.last X.M.now vn) 84)∈E9:=hR9 0 (by decide) _ ar5
  have h:=cJ [(9,_)] h hs9 hd9 ⟨bp hl 9 4 (by kernel_rfl) (hF 4 (by decide)),trivial⟩
  have hq8:Own.blk bc (.cells (qP vo vs vh vl X.M.last X.M.now vn) 84)∈(.blk b3 (.cells (fb a va) 45)::.sl vs 54 3 X.S.length (bM X.S)::.sl vh 68 5 X.H.length (bC X.H)::.sl vn 91 74 ([]:List Nt).length (dB ([]:List Nt))::(.grp kk (λw9=>RdC w9 vo vl X))::(B9++E9)):=by simp only [ar6,at9,hq9,or_true]
  refine ax (aX.subL (aX.of_mem s hq8) 3 3 (D:=#[vl,.int .i64 X.M.last,.int .i64 X.M.now]) (ai0 _ _ _ _ _ _ _)) h iN rfl (rfl) rfl λf h=>aE ⟨_,bq 10 h rfl rfl,rfl,s⟩
 ·intro f9 w2 vl1 E9 lst9 hlo hlc hlz hs9 hd9 hl hF hR9 s
  have h:=cJ [(3,_)] h hs9 hd9 ⟨gp hl 3 (by kernel_rfl) (h.holds 3 _ rfl),trivial⟩
  refine ap ac 1 h rfl λf h=>aE ⟨_,bq 11 h rfl rfl,rfl,s⟩
 ·intro f9 w2 vl1 E9 lst9 hlo hlc hlz hs9 hd9 hl hF hR9 s
  have h:=cJ [(11,_)] h hs9 hd9 ⟨bp hl 11 6 (by kernel_rfl) (hF 6 (by decide)),trivial⟩
  refine ai (V:=.int .i64 a.n) (ah (aX.of_own s 0 rfl) 3 (ai8 _ _)) h bQ rfl rfl λf h=>aE ⟨_,bq 12 h rfl rfl,rfl,s⟩
 ·intro f9 w2 vl1 E9 lst9 hlo hlc hlz hs9 hd9 hl hF hR9 s
  have h:=cJ [(10,_),(12,_)] h hs9 hd9 ⟨bp hl 10 5 (by kernel_rfl) (hF 5 (by decide)),bp hl 12 7 (by kernel_rfl) (hF 7 (by decide)),trivial⟩
  have hml:=(s.getG 4 rfl).ml
  refine bg h s UU (Hf X.M vl a.n _ hml (by omega)) rfl rfl ?_;rintro f w1 v13 ⟨vx,rfl,hT⟩ hE h sq;replace s:=s.sl_new hE hT
  obtain ⟨a9,c9,rfl⟩:=fR (s.getSl 0 rfl)
  exact aE ⟨_,bq 13 h rfl rfl,rfl,s⟩
 ·intro f9 w2 vl1 E9 lst9 hlo hlc hlz hs9 hd9 hl hF hR9 s
  have h:=cJ [(13,.tuple #[.agg #[(EX (vl1 8)),.int .i64 (cW X.M a.n).last,.int .i64 (cW X.M a.n).now],.int .i64 (eJ X.M a.n)])] h hs9 hd9 ⟨bp hl 13 8 (by kernel_rfl) (hF 8 (by decide)),trivial⟩
  refine ap ac 1 h rfl λf h=>aE ⟨_,bq 14 h rfl rfl,rfl,s⟩
 ·intro f9 w2 vl1 E9 lst9 hlo hlc hlz hs9 hd9 hl hF hR9 s
  have h:=cJ [(13,.tuple #[.agg #[(EX (vl1 8)),.int .i64 (cW X.M a.n).last,.int .i64 (cW X.M a.n).now],.int .i64 (eJ X.M a.n)])] h hs9 hd9 ⟨bp hl 13 8 (by kernel_rfl) (hF 8 (by decide)),trivial⟩
  refine ap ac 1 h rfl λf h=>aE ⟨_,bq 15 h rfl rfl,rfl,s⟩
 ·intro f9 w2 vl1 E9 lst9 hlo hlc hlz hs9 hd9 hl hF hR9 s
  have h:=cJ [(5,_),(14,.agg #[(EX (vl1 8)),.int .i64 (cW X.M a.n).last,.int .i64 (cW X.M a.n).now]),(15,_)] h hs9 hd9 ⟨bp hl 5 0 (by kernel_rfl) (hF 0 (by decide)),bp hl 14 9 (by kernel_rfl) (hF 9 (by decide)),bp hl 15 10 (by kernel_rfl) (hF 10 (by decide)),trivial⟩
  replace s:St w0 (.blk bc (.cells (qP vo vs vh vl X.M.last X.M.now vn) 84)::.blk b3 (.cells (fb a va) 45)::.sl vs 54 3 X.S.length (bM X.S)::.sl vh 68 5 X.H.length (bC X.H)::.sl vn 91 74 ([]:List Nt).length (dB ([]:List Nt))::(.grp kk (λw9=>RdC w9 vo vl X))::(B9++E9)) _:=s
  refine df [.pointer (some ⟨bc,0,none⟩),.agg #[(EX (vl1 8)),.int .i64 (cW X.M a.n).last,.int .i64 (cW X.M a.n).now],.int .i64 (eJ X.M a.n)] h VI (Fe vo vs vh vl vn (EX (vl1 8)) X.M.last X.M.now (cW X.M a.n).last (cW X.M a.n).now bc _ (eJ X.M a.n) _ _ s (Pu _)) rfl rfl ?_;rintro f w1 v16 ⟨rfl,s⟩ h
  exact aE ⟨_,bq 16 h rfl rfl,rfl,s⟩
 ·intro f9 w2 vl1 E9 lst9 hlo hlc hlz hs9 hd9 hl hF hR9 s
  have h:=cJ [(16,_)] h hs9 hd9 ⟨bp hl 16 11 (by kernel_rfl) (hF 11 (by decide)),trivial⟩
  refine ap ac 1 h rfl λf h=>aE ⟨_,bq 4 h rfl rfl,rfl,s⟩
 intro f w1 vl1 hs9 hd9 hv hr hF s
 replace h:=mT (ops:=_) [(5,_),(6,_),(7,_),(8,_),(9,_),(10,_),(11,_),(12,_),(13,.tuple #[.agg #[(EX (vl1 8)),.int .i64 (cW X.M a.n).last,.int .i64 (cW X.M a.n).now],.int .i64 (eJ X.M a.n)]),(14,.agg #[(EX (vl1 8)),.int .i64 (cW X.M a.n).last,.int .i64 (cW X.M a.n).now]),(15,_),(16,_),(4,_)] h hs9 hd9 hr ⟨(hv 0 5 rfl).trans (hF 0 rfl),(hv 1 6 rfl).trans (hF 1 rfl),(hv 2 7 rfl).trans (hF 2 rfl),(hv 3 8 rfl).trans (hF 3 rfl),(hv 4 9 rfl).trans (hF 4 rfl),(hv 5 10 rfl).trans (hF 5 rfl),(hv 6 11 rfl).trans (hF 6 rfl),(hv 7 12 rfl).trans (hF 7 rfl),(hv 8 13 rfl).trans (hF 8 rfl),(hv 9 14 rfl).trans (hF 9 rfl),(hv 10 15 rfl).trans (hF 10 rfl),(hv 11 16 rfl).trans (hF 11 rfl),(hv 12 4 rfl).trans (hF 12 rfl),trivial⟩ (by kernel_rfl)
 replace s:St w0 (.sl (EX (vl1 8)) 132 4 (cW X.M a.n).l.length (ck (cW X.M a.n).l)::.blk bc (.cells (qP vo vs vh (EX (vl1 8)) (cW X.M a.n).last (cW X.M a.n).now vn) 84)::.blk b3 (.cells (fb a va) 45)::.sl vs 54 3 X.S.length (bM X.S)::.sl vh 68 5 X.H.length (bC X.H)::.sl vn 91 74 ([]:List Nt).length (dB ([]:List Nt))::(.grp kk (λw9=>RdC w9 vo vl X))::B9) _:=s
 refine aG (au3 (gB rfl h rfl (by replace s:=s.bring 5 rfl;replace s:=s.bring 5 rfl;replace s:=s.bring 5 rfl;replace s:=s.bring 4 rfl;replace s:=s.bring 6 rfl;replace s:=s.bring 5 rfl;exact ⟨_,rfl,SV (X:=X) (s.pick _ (ap7 _ (ap7 _ (ap7 _ (ap7 _ (ap7 _ (ap7 _ (ap8 _ (List.Sublist.refl _)))))))))⟩)))
end Go.Proofs.YthmlflaiidhoiaaGreatDoor
