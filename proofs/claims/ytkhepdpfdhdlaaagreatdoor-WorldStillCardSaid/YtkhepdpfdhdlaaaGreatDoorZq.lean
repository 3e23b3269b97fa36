/- Package world and what it stands on, so far as it is wanted: what each function answers. -/
import Derived.Test.YtkhepdpfdhdlaaaGreatDoorZb
import Derived.Test.YtkhepdpfdhdlaaaGreatDoorZa
import Derived.Test.YtkhepdpfdhdlaaaGreatDoorZi
import Derived.Test.YtkhepdpfdhdlaaaGreatDoorZg
import Derived.Test.YtkhepdpfdhdlaaaGreatDoorZc
import Derived.Test.YtkhepdpfdhdlaaaGreatDoorSu
import Derived.Test.YtkhepdpfdhdlaaaGreatDoorSw
set_option linter.unusedVariables false
set_option linter.unusedSimpArgs false
set_option linter.unusedSectionVars false
namespace Go.Proofs.YtkhepdpfdhdlaaaGreatDoor
open Go.RowKit
theorem Je (H:List H4) (vh:Value)  (w:World) (hH:br w vh 5 H.length (aM H)) (hW:∀ x∈H,ma w x.2.1 x.2.2.1 x.2.2.2 x.1) (hHb:∀ x∈H,B9 x.1) (hHl:H.length<=1000):Calls Tryz.prog 16 [vh].toArray w (cd w (is (.bool (rV H)))):=by
 refine bN Tryz.func16 rfl Tryz.ntmps16 rfl λf h s=>bJ ac 1 h rfl λf h=>ah (cw ac 1 h rfl λf h=>bT h (hH.keep s.ext) aC2 rfl rfl λf h=>e9 ac 1 h rfl λf h=>av9 (aw1 (λnn aa ww=>∃ k:Nat,Sl 31 aa [(0,vh),(5,vh),(6,.int .i64 (H.length:Int)),(7,.int .i64 (k:Int))]/\St w [] ww/\nn=H.length - k/\k<=H.length/\∀ j,j<k->wY (H.map (·.1)) j=true) (H.length - (0)) ⟨0,h.only ⟨rfl,rfl,rfl,aD rfl (by omega),trivial⟩,s.as trivial,rfl,at8 _,λj hj=>az2 hj (ax1 _)⟩ ?_))
 rintro _ f w1 ⟨k,h,s,hnn,hp0,hp1⟩
 refine bJ ac 1 h rfl λf h=>ah (dA h rfl (λhc=>?_) (λhc=>?_))
 ·refine kt (ah (av9 (cw ac 1 h rfl λf h=>?_)))
  have hkl:k<H.length:=by omega
  refine am h (bg (hH.keep s.ext) (k) aC2 mg (h.ev rfl) (h.ev rfl) (by omega) (by omega)) rfl λf h=>az ((hH.keep s.ext).el (k) (by omega) (by decide) (D:=bE (H.getD k bp).1.no (H.getD k bp).1.gt (H.getD k bp).2.1 (H.getD k bp).2.2.1 (H.getD k bp).2.2.2) (ny _ k hkl)) h eM rfl (bq _ _ _ _ _) rfl λf h=>aO (bE 0 0 au au au) h s qJ rfl rfl λf w1 b4 h s=>al ac 1 h rfl λf h=>aj 0 h s eM rfl rfl rfl (bq _ _ _ _ _) (bq _ _ _ _ _) (eW _ _ (bR ((hW _ (dK hkl)).1.keep s.ext)) (bR ((hW _ (dK hkl)).2.1.keep s.ext)) (bR ((hW _ (dK hkl)).2.2.keep s.ext))) λw1 s=>nt (ah ?_)
  cases h0:(cS (H.getD k bp).1:Bool)
  ·refine cQ 18 h (by kernel_rfl) (aX 0 h s eM rfl rfl (bq _ _ _ _ _) rfl λf h=>bj h K3 (λw9 hE9=>a6 (.bool false) (mT (H.getD k bp).1 (H.getD k bp).2.1 (H.getD k bp).2.2.1 (H.getD k bp).2.2.2 w9 ⟨(hW _ (dK hkl)).1.keep (s.ext.trans hE9),(hW _ (dK hkl)).2.1.keep (s.ext.trans hE9),(hW _ (dK hkl)).2.2.keep (s.ext.trans hE9)⟩ (hHb _ (dK hkl))) (ar8 Value.bool h0)) rfl rfl λf h=>ar ac 16 h rfl λf h=>bK s λw1 s=>gh h rfl (bJ ac 1 h rfl λf h=>av8 (bh (aU (aU (bh (aU (aA rfl h s rfl (by show _=_;rw [show rV H=false from u3 hkl (by rw [sL,h0];rfl)])))))))))
  ·skip
   refine cQ 18 h (by kernel_rfl) (aX 0 h s eM rfl rfl (bq _ _ _ _ _) rfl λf h=>bj h K3 (λw9 hE9=>a6 (.bool true) (mT (H.getD k bp).1 (H.getD k bp).2.1 (H.getD k bp).2.2.1 (H.getD k bp).2.2.2 w9 ⟨(hW _ (dK hkl)).1.keep (s.ext.trans hE9),(hW _ (dK hkl)).2.1.keep (s.ext.trans hE9),(hW _ (dK hkl)).2.2.keep (s.ext.trans hE9)⟩ (hHb _ (dK hkl))) (ar8 Value.bool h0)) rfl rfl λf h=>ar ac 3 h rfl λf h=>bD h rfl (K5 ac (decide (0<k)) h rfl ((as8.2 (by omega))) (λh1 f h=>?_) (λh1 f h=>?_)))
   ·refine ar ac 12 h rfl λf h=>bK s λw1 s=>oW h rfl (wpIn_skip (bo (aK (aG (am h (bY (h.ev rfl) (h.ev rfl) (by omega)) rfl λf h=>e9 ac 1 h rfl λf h=>?_)))))
    exact ⟨_,by omega,⟨k+1,h.only ⟨rfl,rfl,rfl,aD rfl (by omega),trivial⟩,St.as (s.pick _ (at3 [_] _)) trivial,rfl,by omega,eu hp1 (by rw [sL,h0,h1];rfl)⟩⟩
   ·skip
    refine ar ac 2 h rfl λf h=>bD h rfl (ao (V:=.int .i64 (H.getD k bp).1.no) (ae (aF.of_own s 0 rfl) 0 (l9 _ _ _ _ _)) h bu rfl rfl λf h=>ar ac 2 h rfl λf h=>bD h rfl (av h (gC (h.ev rfl) (h.ev rfl) (by omega)) rfl λf h=>bD h rfl (av h (bg (hH.keep s.ext) ((k - 1)) aC2 mg (h.ev rfl) (h.ev rfl) (by have:=ar4 h1;omega) (by have:=ar4 h1;omega)) rfl λf h=>bD h rfl (av h (bf qu (h.ev rfl) ((hH.keep s.ext).some (by omega))) rfl λf h=>bD h rfl (ao (V:=.int .i64 (H.getD (k - 1) bp).1.no) (dq (hH.keep s.ext) ((k - 1)*5+0) (Za _ (k - 1) (by omega))) h bu rfl rfl λf h=>bD h rfl (K5 ac (decide ((H.getD k bp).1.no<=(H.getD (k - 1) bp).1.no)) h rfl ((as8.2 (by omega))) (λh2 f h=>?_) (λh2 f h=>?_)))))))
    ·refine ar ac 2 h rfl λf h=>bK s λw1 s=>oW h rfl (wpIn_skip (bo (aK (aG (am h (bY (h.ev rfl) (h.ev rfl) (by omega)) rfl λf h=>e9 ac 1 h rfl λf h=>?_)))))
     exact ⟨_,by omega,⟨k+1,h.only ⟨rfl,rfl,rfl,aD rfl (by omega),trivial⟩,St.as (s.pick _ (at3 [_] _)) trivial,rfl,by omega,eu hp1 (by rw [sL,h0,h1,h2];rfl)⟩⟩
    ·refine ar ac 2 h rfl λf h=>bK s λw1 s=>gh h rfl (bJ ac 1 h rfl λf h=>av8 (bh (aU (aU (bh (aU (aA rfl h s rfl (by show _=_;rw [show rV H=false from u3 hkl (by rw [sL,h0,h1,h2];rfl)]))))))))
 ·refine aw0 (ba (ba (cj (aK (bJ ac 1 h rfl λf h=>av8 (aA rfl h s rfl (by show _=_;rw [show rV H=true from UU (λj hj=>hp1 j (by omega))])))))))
set_option maxHeartbeats 4000000 in
theorem yG (X:Wx) (vo vs vh vl:Value)  (w:World) (hX:RdW w vo vs vh vl X) (hb:BdW (aH X)):Calls Tryz.prog 19 [.agg (dV vo vs vh vl X.M.last X.M.now)].toArray w (cd w (CpW w 46 66 X)):=by
 have hbS:=hb.sx
 have hbH:=hb.hx
 have hbM:X.M.l.length<=100:=hb.ml
 have hbL:=hb.ox
 refine bN Tryz.func19 rfl Tryz.ntmps19 rfl λf h s=>qr (aZ (dV vo vs vh vl X.M.last X.M.now) h s rfl rfl rfl λf w1 b1 h s=>aO (dV au au au au 0 0) h s wE rfl rfl λf w1 b2 h s=>nt (cw ac 2 h rfl λf h=>ag (V:=vo) (ae (aF.of_own s 1 rfl) 0 (zW _ _ _ _ _ _)) h ew rfl rfl λf h=>bB h s RB (rf X.L (by omega) vo _ (hX.ov.1.keep s.ext) (λx hx=>(hX.keep s.ext).ov.2 x hx)) rfl rfl ?_));intro f w1 v11 hT hE h sq;replace s:=s.sl_new hE hT
 refine al ac 2 h rfl λf h=>aJ 2 h s ew rfl rfl rfl (by rw [bX];omega) (aT (s.getSl 0 rfl)) λw1 s=>?_
 replace s:=s.recell (D:=dV v11 vs vh vl X.M.last X.M.now) 2 rfl (rfl)
 refine nt (ah (qr ?_))
 replace s:=s.grp0 (S:=eG (X.L.take 0)) (λ_ x hx=>by simp at hx)
 refine al ac 2 h rfl λf h=>ag (V:=v11) (ae (aF.of_own s 3 rfl) 0 (zW _ _ _ _ _ _)) h ew rfl rfl λf h=>f7 1 h s aC0 rfl rfl rfl λf h=>e9 ac 1 h rfl λf h=>av9 (aw1 (λnn aa ww=>∃ k:Nat,∃ Kd:List N3,∃ kd:List Nat,Sl 112 aa [(0,.agg (dV vo vs vh vl X.M.last X.M.now)),(1,.pointer (some ⟨b1,0,none⟩)),(2,.pointer (some ⟨b2,0,none⟩)),(11,v11),(16,v11),(17,.int .i64 (X.L.length:Int)),(18,.int .i64 (k:Int))]/\St w [(.grp kd (eG (Kd.take k))),.sl v11 72 68 Kd.length (ax Kd),.blk b2 (.cells (dV au au au au 0 0) 31),.blk b1 (.cells (dV v11 vs vh vl X.M.last X.M.now) 31)] ww/\nn=X.L.length - k/\k<=X.L.length/\nds Kd=nds X.L/\∀ j,k<=j->Kd.getD j z3=X.L.getD j z3) (X.L.length - (0)) ⟨0,X.L,[],h.only ⟨rfl,rfl,rfl,rfl,rfl,rfl,aD rfl (by omega),trivial⟩,s.as ⟨rfl,rfl,rfl,rfl,trivial⟩,rfl,at8 _,rfl,λj _=>rfl⟩ ?_)
 rintro _ f w1 ⟨k,Kd,kd,h,s,hnn,hp0,hp1,hp2⟩
 refine bJ ac 1 h rfl λf h=>ah (dA h rfl (λhc=>?_) (λhc=>?_))
 ·refine kt (ah (av9 (bJ ac 2 h rfl λf h=>qr ?_)))
  have hkl:k<X.L.length:=by omega
  have hlk:Kd.length=X.L.length:=by have h9:=ar8 List.length hp1;simpa [nds] using h9
  have hdk:k<Kd.length:=by omega
  have hxd:Kd.getD k z3=X.L.getD k z3:=hp2 k (at6 _)
  have hx9:=hb.oe.each _ (bU hkl)
  refine al ac 2 h rfl λf h=>ag (V:=v11) (ae (aF.of_own s 3 rfl) 0 (zW _ _ _ _ _ _)) h ew rfl rfl λf h=>al ac 1 h rfl λf h=>am h (bg (br.of_own (s.getSl 1 rfl)) (k) aC0 mt (h.ev rfl) (h.ev rfl) (by omega) (by omega)) rfl λf h=>e9 ac 1 h rfl λf h=>cw ac 3 h rfl λf h=>am h (bf g7 (h.ev rfl) ((br.of_own (s.getSl 1 rfl)).some (by omega))) rfl λf h=>ag (V:=(Kd.getD k z3).2.1) (dq (br.of_own (s.getSl 1 rfl)) (k*68+66) (nj Kd k hdk)) h c7 rfl rfl λf h=>bB h s uO (gU (X.L.getD k z3).1.sc (by omega) (Kd.getD k z3).2.1 _ (by rw [hxd];exact(hX.ov.2 _ (bU hkl)).1.keep s.ext)) rfl rfl ?_;intro f w1 v31 hT hE h sq;replace s:=s.sl_new hE hT
  refine al ac 1 h rfl λf h=>am h (bf g7 (h.ev rfl) ((br.of_own (s.getSl 2 rfl)).some (by omega))) rfl λf h=>eP 2 h s c7 rfl rfl rfl (by omega) (aT (s.getSl 0 rfl)) (show (ax Kd).set (k*68+66) v31=ax (Kd.set k ((⟨(Kd.getD k z3).1.me,(Kd.getD k z3).1.pr,(Kd.getD k z3).1.sc,(Kd.getD k z3).1.fg⟩,v31,(Kd.getD k z3).2.2):N3)) from yz hdk _ _) λw1 s=>nt (rs ac 3 h rfl λf h=>am h (bf oq (h.ev rfl) ((br.of_own (s.getSl 2 rfl)).some (by omega))) rfl λf h=>ag (V:=(Kd.getD k z3).2.2) (dq (br.of_own (s.getSl 2 rfl)) (k*68+67) ((Iq _ k (by rw [List.length_set];exact hdk)).trans (by rw [k6 hdk]))) h c7 rfl rfl λf h=>bB h s uO (gU (X.L.getD k z3).1.fg (by omega) (Kd.getD k z3).2.2 _ (by rw [hxd];exact(hX.ov.2 _ (bU hkl)).2.keep s.ext)) rfl rfl ?_);intro f w1 v39 hT hE h sq;replace s:=s.sl_new hE hT
  refine al ac 1 h rfl λf h=>am h (bf oq (h.ev rfl) ((br.of_own (s.getSl 3 rfl)).some (by omega))) rfl λf h=>eP 3 h s c7 rfl rfl rfl (by omega) (aT (s.getSl 0 rfl)) (show (ax (Kd.set k ((⟨(Kd.getD k z3).1.me,(Kd.getD k z3).1.pr,(Kd.getD k z3).1.sc,(Kd.getD k z3).1.fg⟩,v31,(Kd.getD k z3).2.2):N3))).set (k*68+67) v39=ax (Kd.set k ((⟨(Kd.getD k z3).1.me,(Kd.getD k z3).1.pr,(Kd.getD k z3).1.sc,(Kd.getD k z3).1.fg⟩,v31,v39):N3)) from (yN (by rw [List.length_set];exact hdk) _ (Kd.getD k z3).1.fg).trans (by rw [k6 hdk,Az])) λw1 s=>?_
  replace s:=s.resl (m:=(Kd.set k ((⟨(Kd.getD k z3).1.me,(Kd.getD k z3).1.pr,(Kd.getD k z3).1.sc,(Kd.getD k z3).1.fg⟩,v31,v39):N3)).length) (ys:=ax (Kd.set k ((⟨(Kd.getD k z3).1.me,(Kd.getD k z3).1.pr,(Kd.getD k z3).1.sc,(Kd.getD k z3).1.fg⟩,v31,v39):N3))) 3 rfl (by rw [List.length_set]) rfl
  refine aw (bo (aK (aG (am h (bY (h.ev rfl) (h.ev rfl) (by omega)) rfl λf h=>e9 ac 1 h rfl λf h=>?_))))
  replace s:=s.bring 2 rfl
  replace s:=s.bring 1 rfl
  replace s:=s.bring 2 rfl
  replace s:St w [.sl v31 69 33 (X.L.getD k z3).1.sc.length (ap (X.L.getD k z3).1.sc),.sl v39 69 33 (X.L.getD k z3).1.fg.length (ap (X.L.getD k z3).1.fg),(.grp kd (eG (Kd.take k))),.sl v11 72 68 (Kd.set k ((⟨(Kd.getD k z3).1.me,(Kd.getD k z3).1.pr,(Kd.getD k z3).1.sc,(Kd.getD k z3).1.fg⟩,v31,v39):N3)).length (ax (Kd.set k ((⟨(Kd.getD k z3).1.me,(Kd.getD k z3).1.pr,(Kd.getD k z3).1.sc,(Kd.getD k z3).1.fg⟩,v31,v39):N3))),.blk b2 (.cells (dV au au au au 0 0) 31),.blk b1 (.cells (dV v11 vs vh vl X.M.last X.M.now) 31)] _:=s
  obtain ⟨kn,s⟩:=s.grpR (S':=eG ((Kd.set k ((⟨(Kd.getD k z3).1.me,(Kd.getD k z3).1.pr,(Kd.getD k z3).1.sc,(Kd.getD k z3).1.fg⟩,v31,v39):N3)).take (k+1))) (λw9 h1 h2 h3=>Ex hdk h3 ⟨by rw [← hxd] at h1;exact h1,by rw [← hxd] at h2;exact h2⟩)
  replace s:=s.bring 3 rfl
  replace s:=s.bring 3 rfl
  replace s:=s.bring 3 rfl
  replace s:=s.bring 3 rfl
  replace s:St w [(.grp kn (eG ((Kd.set k ((⟨(Kd.getD k z3).1.me,(Kd.getD k z3).1.pr,(Kd.getD k z3).1.sc,(Kd.getD k z3).1.fg⟩,v31,v39):N3)).take (k+1)))),.sl v11 72 68 (Kd.set k ((⟨(Kd.getD k z3).1.me,(Kd.getD k z3).1.pr,(Kd.getD k z3).1.sc,(Kd.getD k z3).1.fg⟩,v31,v39):N3)).length (ax (Kd.set k ((⟨(Kd.getD k z3).1.me,(Kd.getD k z3).1.pr,(Kd.getD k z3).1.sc,(Kd.getD k z3).1.fg⟩,v31,v39):N3))),.blk b2 (.cells (dV au au au au 0 0) 31),.blk b1 (.cells (dV v11 vs vh vl X.M.last X.M.now) 31)] _:=s
  exact ⟨_,by omega,⟨k+1,(Kd.set k ((⟨(Kd.getD k z3).1.me,(Kd.getD k z3).1.pr,(Kd.getD k z3).1.sc,(Kd.getD k z3).1.fg⟩,v31,v39):N3)),kn,h.only ⟨rfl,rfl,rfl,rfl,rfl,rfl,aD rfl (by omega),trivial⟩,St.as s ⟨rfl,rfl,rfl,rfl,trivial⟩,rfl,by omega,Dq hp1 rfl hdk,λj hj=>(Rx (by omega) _).trans (hp2 j (by omega))⟩⟩
 ·refine aw0 (ba (ba (cj (aK (qr ?_)))))
  have hpn:=hp1
  have hlz:Kd.length=X.L.length:=by have h9:=ar8 List.length hp1;simpa [nds] using h9
  rw [show Kd.take k=Kd from au4 (by omega)] at s
  clear hlz
  refine al ac 1 h rfl λf h=>ag (V:=vs) (ae (aF.of_own s 3 rfl) 1 (jv _ _ _ _ _ _)) h fB rfl rfl λf h=>bB h s Zg (JD X.S (by omega) vs _ (hX.sv.keep s.ext) (λx hx=>bR ((hX.keep s.ext).sw x hx))) rfl rfl ?_;intro f w1 v45 hT hE h sq;replace s:=s.sl_new hE hT
  refine al ac 1 h rfl λf h=>aJ 4 h s fB rfl rfl rfl (by rw [bX];omega) (aT (s.getSl 0 rfl)) λw1 s=>?_
  replace s:=s.recell (D:=dV v11 v45 vh vl X.M.last X.M.now) 4 rfl (rfl)
  refine nt (ah (qr ?_))
  replace s:=s.grp0 (S:=FU (X.S.take 0)) (λ_ x hx=>by simp at hx)
  refine al ac 1 h rfl λf h=>ag (V:=v45) (ae (aF.of_own s 5 rfl) 1 (jv _ _ _ _ _ _)) h fB rfl rfl λf h=>f7 1 h s aC1 rfl rfl rfl λf h=>e9 ac 1 h rfl λf h=>av9 (aw1 (λnn aa ww=>∃ k:Nat,∃ Ks:List V2,∃ ks:List Nat,Sl 112 aa [(0,.agg (dV vo vs vh vl X.M.last X.M.now)),(1,.pointer (some ⟨b1,0,none⟩)),(2,.pointer (some ⟨b2,0,none⟩)),(11,v11),(16,v11),(45,v45),(48,v45),(49,.int .i64 (X.S.length:Int)),(50,.int .i64 (k:Int))]/\St w [(.grp ks (FU (Ks.take k))),.sl v45 46 3 Ks.length (aR Ks),(.grp kd (eG Kd)),.sl v11 72 68 Kd.length (ax Kd),.blk b2 (.cells (dV au au au au 0 0) 31),.blk b1 (.cells (dV v11 v45 vh vl X.M.last X.M.now) 31)] ww/\nn=X.S.length - k/\k<=X.S.length/\Ks.map (·.1)=X.S.map (·.1)/\∀ j,k<=j->Ks.getD j d4=X.S.getD j d4) (X.S.length - (0)) ⟨0,X.S,[],h.only ⟨rfl,rfl,rfl,rfl,rfl,rfl,rfl,rfl,aD rfl (by omega),trivial⟩,s.as ⟨rfl,rfl,rfl,rfl,rfl,rfl,trivial⟩,rfl,at8 _,rfl,λj _=>rfl⟩ ?_)
  rintro _ f w1 ⟨k,Ks,ks,h,s,hnn,hp0,hp1,hp2⟩
  refine bJ ac 1 h rfl λf h=>ah (dA h rfl (λhc=>?_) (λhc=>?_))
  ·refine kt (ah (av9 (qr ?_)))
   have hkl:k<X.S.length:=by omega
   have hlk:Ks.length=X.S.length:=by have h9:=ar8 List.length hp1;simpa using h9
   have hdk:k<Ks.length:=by omega
   have hxd:Ks.getD k d4=X.S.getD k d4:=hp2 k (at6 _)
   have hx9:=hb.se hkl
   refine e9 ac 2 h rfl λf h=>fH 0 12 [[],[0],[],[],[3],[],[3,4,5],[3,4,5,6],[3,4,5,6,7],[3,4,5,6,7,8],[0,1,2,3,4,5,6,7,8,9],[0,1,2,3,4,5,6,7,8,9,10],[0,1,2,3,4,5,6,7,8,9,10,11]] [[],[],[],[],[],[],[],[],[],[],[],[],[]] [] [.v _,.v v45,.v _,.v _,.v v45,.v _,.v (.pointer (some (bC v45 (k*3)))),.v (.pointer (some (bC v45 (k*3+2)))),.v ((Ks.getD k d4).2),.m (λv=>[.sl (v 9) 50 67 (X.S.getD k d4).1.tb.length (eQ (X.S.getD k d4).1.tb)]),.v (.pointer (some (bC v45 (k*3)))),.v (.pointer (some (bC v45 (k*3+2)))),.n] _ h s rfl (by kernel_rfl) (by kernel_rfl) (by kernel_rfl) (fJ ac h rfl rfl rfl (bW ?_ (fJ ac h rfl rfl rfl (fJ ac h rfl rfl rfl (bW ?_ (fJ ac h rfl rfl rfl (bW ?_ (bW ?_ (bW ?_ (bW ?_ (bW ?_ (bW ?_ (trivial))))))))))))) [0,1,2,3,4,5,6,7,8,9,10,11] (by kernel_rfl) ?_
   ·intro f9 w2 vl13 E9 hs9 hd9 hl hF s
    have h:=cb [(53,_)] h hs9 hd9 ⟨aS hl 53 0 (by kernel_rfl) (hF 0 (by decide)),trivial⟩
    refine ag (V:=v45) (ae (aF.of_own s 5 rfl) 1 (jv _ _ _ _ _ _)) h fB rfl rfl λf h=>aw ⟨_,aV 54 h rfl rfl,rfl,s⟩
   ·intro f9 w2 vl13 E9 hs9 hd9 hl hF s
    have h:=cb [(56,_)] h hs9 hd9 ⟨aS hl 56 3 (by kernel_rfl) (hF 3 (by decide)),trivial⟩
    refine ag (V:=v45) (ae (aF.of_own s 5 rfl) 1 (jv _ _ _ _ _ _)) h fB rfl rfl λf h=>aw ⟨_,aV 57 h rfl rfl,rfl,s⟩
   ·intro f9 w2 vl13 E9 hs9 hd9 hl hF s
    have h:=cb [(57,_),(58,_)] h hs9 hd9 ⟨aS hl 57 4 (by kernel_rfl) (hF 4 (by decide)),aS hl 58 5 (by kernel_rfl) (hF 5 (by decide)),trivial⟩
    refine am h (bg (br.of_own (s.getSl 1 rfl)) (k) aC1 pA (h.ev rfl) (h.ev rfl) (by omega) (by omega)) rfl λf h=>aw ⟨_,aV 59 h rfl rfl,rfl,s⟩
   ·intro f9 w2 vl13 E9 hs9 hd9 hl hF s
    have h:=cb [(59,_)] h hs9 hd9 ⟨aS hl 59 6 (by kernel_rfl) (hF 6 (by decide)),trivial⟩
    refine am h (bf xB (h.ev rfl) ((br.of_own (s.getSl 1 rfl)).some (by omega))) rfl λf h=>aw ⟨_,aV 60 h rfl rfl,rfl,s⟩
   ·intro f9 w2 vl13 E9 hs9 hd9 hl hF s
    have h:=cb [(60,_)] h hs9 hd9 ⟨aS hl 60 7 (by kernel_rfl) (hF 7 (by decide)),trivial⟩
    refine ag (V:=(Ks.getD k d4).2) (dq (br.of_own (s.getSl 1 rfl)) (k*3+2) (U6 hdk)) h tN rfl rfl λf h=>aw ⟨_,aV 61 h rfl rfl,rfl,s⟩
   ·intro f9 w2 vl13 E9 hs9 hd9 hl hF s
    have h:=cb [(61,_)] h hs9 hd9 ⟨aS hl 61 8 (by kernel_rfl) (hF 8 (by decide)),trivial⟩
    refine bB h s XE (BL (X.S.getD k d4).1.tb (by omega) (Ks.getD k d4).2 _ (by rw [hxd];exact(hX.sw _ (fY hkl)).keep s.ext)) rfl rfl ?_;intro f w1 v62 hT hE h sq;replace s:=s.sl_new hE hT
    exact aw ⟨_,aV 62 h rfl rfl,trivial,s⟩
   ·intro f9 w2 vl13 E9 hs9 hd9 hl hF s
    have h:=cb [(54,_),(55,_)] h hs9 hd9 ⟨aS hl 54 1 (by kernel_rfl) (hF 1 (by decide)),aS hl 55 2 (by kernel_rfl) (hF 2 (by decide)),trivial⟩
    refine am h (bg (br.of_own (s.getSl 1 rfl)) (k) aC1 pA (h.ev rfl) (h.ev rfl) (by omega) (by omega)) rfl λf h=>aw ⟨_,aV 63 h rfl rfl,rfl,s⟩
   ·intro f9 w2 vl13 E9 hs9 hd9 hl hF s
    have h:=cb [(63,_)] h hs9 hd9 ⟨aS hl 63 10 (by kernel_rfl) (hF 10 (by decide)),trivial⟩
    refine am h (bf xB (h.ev rfl) ((br.of_own (s.getSl 1 rfl)).some (by omega))) rfl λf h=>aw ⟨_,aV 64 h rfl rfl,rfl,s⟩
   intro f w1 vl13 hs9 hd9 hv hr hF s
   replace hv:=λi d h9=>hv i d (show Nat.blt i 12=true from h9)
   replace h:=eI 12 (ops:=_) [(53,_),(54,_),(55,_),(56,_),(57,_),(58,_),(59,_),(60,_),(61,_),(62,(vl13 9)),(63,_),(64,_)] h hs9 hd9 hr ⟨(hv 0 53 rfl rfl).trans (hF 0 rfl),(hv 1 54 rfl rfl).trans (hF 1 rfl),(hv 2 55 rfl rfl).trans (hF 2 rfl),(hv 3 56 rfl rfl).trans (hF 3 rfl),(hv 4 57 rfl rfl).trans (hF 4 rfl),(hv 5 58 rfl rfl).trans (hF 5 rfl),(hv 6 59 rfl rfl).trans (hF 6 rfl),(hv 7 60 rfl rfl).trans (hF 7 rfl),(hv 8 61 rfl rfl).trans (hF 8 rfl),hv 9 62 rfl rfl,(hv 10 63 rfl rfl).trans (hF 10 rfl),(hv 11 64 rfl rfl).trans (hF 11 rfl),trivial⟩ (by kernel_rfl)
   replace s:St w [.sl (vl13 9) 50 67 (X.S.getD k d4).1.tb.length (eQ (X.S.getD k d4).1.tb),(.grp ks (FU (Ks.take k))),.sl v45 46 3 Ks.length (aR Ks),(.grp kd (eG Kd)),.sl v11 72 68 Kd.length (ax Kd),.blk b2 (.cells (dV au au au au 0 0) 31),.blk b1 (.cells (dV v11 v45 vh vl X.M.last X.M.now) 31)] _:=s
   refine eP 2 h s tN rfl rfl rfl (by omega) (aT (s.getSl 0 rfl)) (show (aR Ks).set (k*3+2) (vl13 9)=aR (Ks.set k (((Ks.getD k d4).1,(vl13 9)):V2)) from Qh hdk _) λw1 s=>?_
   replace s:=s.resl (m:=(Ks.set k (((Ks.getD k d4).1,(vl13 9)):V2)).length) (ys:=aR (Ks.set k (((Ks.getD k d4).1,(vl13 9)):V2))) 2 rfl (by rw [List.length_set]) rfl
   refine aw (bo (aK (aG (am h (bY (h.ev rfl) (h.ev rfl) (by omega)) rfl λf h=>e9 ac 1 h rfl λf h=>?_))))
   replace s:=s.bring 1 rfl
   replace s:=s.bring 1 rfl
   replace s:St w [.sl (vl13 9) 50 67 (X.S.getD k d4).1.tb.length (eQ (X.S.getD k d4).1.tb),(.grp ks (FU (Ks.take k))),.sl v45 46 3 (Ks.set k (((Ks.getD k d4).1,(vl13 9)):V2)).length (aR (Ks.set k (((Ks.getD k d4).1,(vl13 9)):V2))),(.grp kd (eG Kd)),.sl v11 72 68 Kd.length (ax Kd),.blk b2 (.cells (dV au au au au 0 0) 31),.blk b1 (.cells (dV v11 v45 vh vl X.M.last X.M.now) 31)] _:=s
   obtain ⟨kn,s⟩:=s.slG (S':=FU ((Ks.set k (((Ks.getD k d4).1,(vl13 9)):V2)).take (k+1))) (λw9 h1 h3=>As hdk h3 (by rw [← hxd] at h1;exact h1))
   replace s:=s.bring 5 rfl
   replace s:=s.bring 5 rfl
   replace s:=s.bring 5 rfl
   replace s:=s.bring 5 rfl
   replace s:=s.bring 5 rfl
   replace s:=s.bring 5 rfl
   replace s:St w [(.grp kn (FU ((Ks.set k (((Ks.getD k d4).1,(vl13 9)):V2)).take (k+1)))),.sl v45 46 3 (Ks.set k (((Ks.getD k d4).1,(vl13 9)):V2)).length (aR (Ks.set k (((Ks.getD k d4).1,(vl13 9)):V2))),(.grp kd (eG Kd)),.sl v11 72 68 Kd.length (ax Kd),.blk b2 (.cells (dV au au au au 0 0) 31),.blk b1 (.cells (dV v11 v45 vh vl X.M.last X.M.now) 31)] _:=s
   exact ⟨_,by omega,⟨k+1,(Ks.set k (((Ks.getD k d4).1,(vl13 9)):V2)),kn,h.only ⟨rfl,rfl,rfl,rfl,rfl,rfl,rfl,rfl,aD rfl (by omega),trivial⟩,St.as s ⟨rfl,rfl,rfl,rfl,rfl,rfl,trivial⟩,rfl,by omega,(zy (x:=((Ks.getD k d4).1,(vl13 9))) (z:=d4) (·.1) hdk rfl).trans hp1,λj hj=>(HW (by omega) _ _).trans (hp2 j (by omega))⟩⟩
  ·refine aw0 (ba (ba (cj (aK (qr ?_)))))
   have hps:=hp1
   have hlz:Ks.length=X.S.length:=by have h9:=ar8 List.length hp1;simpa using h9
   rw [show Ks.take k=Ks from au4 (by omega)] at s
   clear hlz
   refine al ac 1 h rfl λf h=>ag (V:=vh) (ae (aF.of_own s 5 rfl) 2 (lj _ _ _ _ _ _)) h ga rfl rfl λf h=>bB h s Xf (JE X.H (by omega) vh _ (hX.ho.keep s.ext) (λx hx=>⟨bR ((hX.keep s.ext).hw x hx).1,bR ((hX.keep s.ext).hw x hx).2.1,bR ((hX.keep s.ext).hw x hx).2.2⟩)) rfl rfl ?_;intro f w1 v68 hT hE h sq;replace s:=s.sl_new hE hT
   refine al ac 1 h rfl λf h=>aJ 6 h s ga rfl rfl rfl (by rw [bX];omega) (aT (s.getSl 0 rfl)) λw1 s=>?_
   replace s:=s.recell (D:=dV v11 v45 v68 vl X.M.last X.M.now) 6 rfl (rfl)
   refine nt (ah (qr ?_))
   replace s:=s.grp0 (S:=xn (X.H.take 0)) (λ_ x hx=>by simp at hx)
   refine al ac 1 h rfl λf h=>ag (V:=v68) (ae (aF.of_own s 7 rfl) 2 (lj _ _ _ _ _ _)) h ga rfl rfl λf h=>f7 1 h s aC2 rfl rfl rfl λf h=>e9 ac 1 h rfl λf h=>av9 (aw1 (λnn aa ww=>∃ k:Nat,∃ Kh:List H4,∃ kh:List Nat,Sl 112 aa [(0,.agg (dV vo vs vh vl X.M.last X.M.now)),(1,.pointer (some ⟨b1,0,none⟩)),(2,.pointer (some ⟨b2,0,none⟩)),(11,v11),(16,v11),(45,v45),(48,v45),(68,v68),(71,v68),(72,.int .i64 (X.H.length:Int)),(73,.int .i64 (k:Int))]/\St w [(.grp kh (xn (Kh.take k))),.sl v68 66 5 Kh.length (aM Kh),(.grp ks (FU Ks)),.sl v45 46 3 Ks.length (aR Ks),(.grp kd (eG Kd)),.sl v11 72 68 Kd.length (ax Kd),.blk b2 (.cells (dV au au au au 0 0) 31),.blk b1 (.cells (dV v11 v45 v68 vl X.M.last X.M.now) 31)] ww/\nn=X.H.length - k/\k<=X.H.length/\Kh.map (·.1)=X.H.map (·.1)/\∀ j,k<=j->Kh.getD j bp=X.H.getD j bp) (X.H.length - (0)) ⟨0,X.H,[],h.only ⟨rfl,rfl,rfl,rfl,rfl,rfl,rfl,rfl,rfl,rfl,aD rfl (by omega),trivial⟩,s.as ⟨rfl,rfl,rfl,rfl,rfl,rfl,rfl,rfl,trivial⟩,rfl,at8 _,rfl,λj _=>rfl⟩ ?_)
   rintro _ f w1 ⟨k,Kh,kh,h,s,hnn,hp0,hp1,hp2⟩
   refine bJ ac 1 h rfl λf h=>ah (dA h rfl (λhc=>?_) (λhc=>?_))
   ·refine kt (ah (av9 (bJ ac 2 h rfl λf h=>qr ?_)))
    have hkl:k<X.H.length:=by omega
    have hlk:Kh.length=X.H.length:=by have h9:=ar8 List.length hp1;simpa using h9
    have hdk:k<Kh.length:=by omega
    have hxd:Kh.getD k bp=X.H.getD k bp:=hp2 k (at6 _)
    have hx9:=hb.he hkl
    refine al ac 1 h rfl λf h=>ag (V:=v68) (ae (aF.of_own s 7 rfl) 2 (lj _ _ _ _ _ _)) h ga rfl rfl λf h=>al ac 1 h rfl λf h=>am h (bg (br.of_own (s.getSl 1 rfl)) (k) aC2 mg (h.ev rfl) (h.ev rfl) (by omega) (by omega)) rfl λf h=>e9 ac 1 h rfl λf h=>cw ac 3 h rfl λf h=>am h (bf wO (h.ev rfl) ((br.of_own (s.getSl 1 rfl)).some (by omega))) rfl λf h=>ag (V:=(Kh.getD k bp).2.1) (dq (br.of_own (s.getSl 1 rfl)) (k*5+2) (TA hdk)) h ii rfl rfl λf h=>bB h s Xw (Li (X.H.getD k bp).1.ws (by omega) (Kh.getD k bp).2.1 _ (by rw [hxd];exact(hX.hw _ (dK hkl)).1.keep s.ext)) rfl rfl ?_;intro f w1 v85 hT hE h sq;replace s:=s.sl_new hE hT
    refine al ac 1 h rfl λf h=>am h (bf wO (h.ev rfl) ((br.of_own (s.getSl 2 rfl)).some (by omega))) rfl λf h=>eP 2 h s ii rfl rfl rfl (by omega) (aT (s.getSl 0 rfl)) (show (aM Kh).set (k*5+2) v85=aM (Kh.set k (((Kh.getD k bp).1,v85,(Kh.getD k bp).2.2):H4)) from Py hdk _) λw1 s=>nt (cw ac 3 h rfl λf h=>am h (bf wI (h.ev rfl) ((br.of_own (s.getSl 2 rfl)).some (by omega))) rfl λf h=>ag (V:=(Kh.getD k bp).2.2.1) (dq (br.of_own (s.getSl 2 rfl)) (k*5+3) ((SV (by rw [List.length_set];exact hdk)).trans (by rw [qy hdk]))) h iO rfl rfl λf h=>bB h s XG (Mc (X.H.getD k bp).1.hs (by omega) (Kh.getD k bp).2.2.1 _ (by rw [hxd];exact(hX.hw _ (dK hkl)).2.1.keep s.ext)) rfl rfl ?_);intro f w1 v93 hT hE h sq;replace s:=s.sl_new hE hT
    refine al ac 1 h rfl λf h=>am h (bf wI (h.ev rfl) ((br.of_own (s.getSl 3 rfl)).some (by omega))) rfl λf h=>eP 3 h s iO rfl rfl rfl (by omega) (aT (s.getSl 0 rfl)) (show (aM (Kh.set k (((Kh.getD k bp).1,v85,(Kh.getD k bp).2.2):H4))).set (k*5+3) v93=aM (Kh.set k (((Kh.getD k bp).1,v85,v93,(Kh.getD k bp).2.2.2):H4)) from (P7 (by rw [List.length_set];exact hdk) _).trans (by rw [qy hdk,List.set_set])) λw1 s=>nt (rs ac 3 h rfl λf h=>am h (bf vG (h.ev rfl) ((br.of_own (s.getSl 3 rfl)).some (by omega))) rfl λf h=>ag (V:=(Kh.getD k bp).2.2.2) (dq (br.of_own (s.getSl 3 rfl)) (k*5+4) ((Ug (by rw [List.length_set];exact hdk)).trans (by rw [qy hdk]))) h iQ rfl rfl λf h=>bB h s Rc (z6 (X.H.getD k bp).1.bx (by omega) (Kh.getD k bp).2.2.2 _ (by rw [hxd];exact(hX.hw _ (dK hkl)).2.2.keep s.ext)) rfl rfl ?_);intro f w1 v101 hT hE h sq;replace s:=s.sl_new hE hT
    refine al ac 1 h rfl λf h=>am h (bf vG (h.ev rfl) ((br.of_own (s.getSl 4 rfl)).some (by omega))) rfl λf h=>eP 4 h s iQ rfl rfl rfl (by omega) (aT (s.getSl 0 rfl)) (show (aM (Kh.set k (((Kh.getD k bp).1,v85,v93,(Kh.getD k bp).2.2.2):H4))).set (k*5+4) v101=aM (Kh.set k (((Kh.getD k bp).1,v85,v93,v101):H4)) from (Qe (by rw [List.length_set];exact hdk) _).trans (by rw [qy hdk,List.set_set])) λw1 s=>?_
    replace s:=s.resl (m:=(Kh.set k (((Kh.getD k bp).1,v85,v93,v101):H4)).length) (ys:=aM (Kh.set k (((Kh.getD k bp).1,v85,v93,v101):H4))) 4 rfl (by rw [List.length_set]) rfl
    refine aw (bo (aK (aG (am h (bY (h.ev rfl) (h.ev rfl) (by omega)) rfl λf h=>e9 ac 1 h rfl λf h=>?_))))
    replace s:=s.bring 3 rfl
    replace s:=s.bring 1 rfl
    replace s:=s.bring 2 rfl
    replace s:=s.bring 3 rfl
    replace s:St w [.sl v85 109 33 (X.H.getD k bp).1.ws.length (cX (X.H.getD k bp).1.ws),.sl v93 112 34 (X.H.getD k bp).1.hs.length (cV (X.H.getD k bp).1.hs),.sl v101 9 1 (X.H.getD k bp).1.bx.length (tP (X.H.getD k bp).1.bx),(.grp kh (xn (Kh.take k))),.sl v68 66 5 (Kh.set k (((Kh.getD k bp).1,v85,v93,v101):H4)).length (aM (Kh.set k (((Kh.getD k bp).1,v85,v93,v101):H4))),(.grp ks (FU Ks)),.sl v45 46 3 Ks.length (aR Ks),(.grp kd (eG Kd)),.sl v11 72 68 Kd.length (ax Kd),.blk b2 (.cells (dV au au au au 0 0) 31),.blk b1 (.cells (dV v11 v45 v68 vl X.M.last X.M.now) 31)] _:=s
    obtain ⟨kn,s⟩:=s.sl3G (S':=xn ((Kh.set k (((Kh.getD k bp).1,v85,v93,v101):H4)).take (k+1))) (λw9 h1 h2 h3 h4=>As hdk h4 (by rw [← hxd] at h1 h2 h3;exact ⟨h1,h2,h3⟩))
    replace s:=s.bring 7 rfl
    replace s:=s.bring 7 rfl
    replace s:=s.bring 7 rfl
    replace s:=s.bring 7 rfl
    replace s:=s.bring 7 rfl
    replace s:=s.bring 7 rfl
    replace s:=s.bring 7 rfl
    replace s:=s.bring 7 rfl
    replace s:St w [(.grp kn (xn ((Kh.set k (((Kh.getD k bp).1,v85,v93,v101):H4)).take (k+1)))),.sl v68 66 5 (Kh.set k (((Kh.getD k bp).1,v85,v93,v101):H4)).length (aM (Kh.set k (((Kh.getD k bp).1,v85,v93,v101):H4))),(.grp ks (FU Ks)),.sl v45 46 3 Ks.length (aR Ks),(.grp kd (eG Kd)),.sl v11 72 68 Kd.length (ax Kd),.blk b2 (.cells (dV au au au au 0 0) 31),.blk b1 (.cells (dV v11 v45 v68 vl X.M.last X.M.now) 31)] _:=s
    exact ⟨_,by omega,⟨k+1,(Kh.set k (((Kh.getD k bp).1,v85,v93,v101):H4)),kn,h.only ⟨rfl,rfl,rfl,rfl,rfl,rfl,rfl,rfl,rfl,rfl,aD rfl (by omega),trivial⟩,St.as s ⟨rfl,rfl,rfl,rfl,rfl,rfl,rfl,rfl,trivial⟩,rfl,by omega,(zy (x:=((Kh.getD k bp).1,v85,v93,v101)) (z:=bp) (·.1) hdk rfl).trans hp1,λj hj=>(HW (by omega) _ _).trans (hp2 j (by omega))⟩⟩
   ·refine aw0 (ba (ba (cj (aK (qr ?_)))))
    have hph:=hp1
    have hlz:Kh.length=X.H.length:=by have h9:=ar8 List.length hp1;simpa using h9
    rw [show Kh.take k=Kh from au4 (by omega)] at s
    clear hlz
    refine al ac 2 h rfl λf h=>ag (V:=vl) (ae (aF.of_own s 7 rfl) 3 (qk _ _ _ _ _ _)) h fh rfl rfl λf h=>bB h s IT (pf X.M.l (by omega) vl _ (hX.ml.keep s.ext)) rfl rfl ?_;intro f w1 v108 hT hE h sq;replace s:=s.sl_new hE hT
    refine al ac 2 h rfl λf h=>aJ 8 h s fh rfl rfl rfl (by rw [bX];omega) (aT (s.getSl 0 rfl)) λw1 s=>?_
    replace s:=s.recell (D:=dV v11 v45 v68 v108 X.M.last X.M.now) 8 rfl (rfl)
    refine nt (qr (ak 8 h s fj rfl rfl (bX _ _ _ _ _ _) rfl λf h=>aj 7 h s fj rfl rfl rfl (bX _ _ _ _ _ _) (bX _ _ _ _ _ _) (iL _ _ (aT (s.getSl 6 rfl)) (aT (s.getSl 4 rfl)) (aT (s.getSl 2 rfl)) (aT (s.getSl 0 rfl))) λw1 s=>nt (av8 (iP 7 rfl h s fj rfl rfl (bX _ _ _ _ _ _) (SC hpn hps hph (s.sel [4,2,6,0,5,3,1] rfl (by decide)))))))
set_option maxHeartbeats 1000000 in
theorem FZ (x y:V2) (bx:Nat)  (w:World) (hx9:x.2.oneCell'=true) (hy9:y.2.oneCell'=true) (hb:iX w bx #[.func (.func 76) #[] #[]]):Calls Tryz.prog 134 [.agg (de x.1.no x.1.sec x.2),.agg (de y.1.no y.1.sec y.2),.pointer (some ⟨bx,0,none⟩)].toArray w (cd w (is (.int .i64 (cJ x.1.no y.1.no)))):=by
 refine bN Tryz.func134 rfl Tryz.ntmps134 rfl λf h s=>qr (aZ (de x.1.no x.1.sec x.2) h s rfl rfl rfl λf w1 b3 h s=>aZ (de y.1.no y.1.sec y.2) h s rfl rfl rfl λf w1 b4 h s=>e9 ac 1 h rfl λf h=>ah (fH 0 7 [[],[],[0,1],[],[],[0,1,2,3,4],[0,1,2,3,4,5],[0,1,2,3,4,5,6]] [[],[],[],[],[],[],[],[]] [] [.v (.func (.func 76) #[] #[]),.v (.agg (de x.1.no x.1.sec x.2)),.v (.int .i64 x.1.no),.v (.func (.func 76) #[] #[]),.v (.agg (de y.1.no y.1.sec y.2)),.v (.int .i64 y.1.no),.v (.int .i64 (cJ x.1.no y.1.no)),.n] _ h s rfl (by kernel_rfl) (by kernel_rfl) (by kernel_rfl) (bW ?_ (bW ?_ (bW ?_ (bW ?_ (bW ?_ (bW ?_ (bW ?_ (trivial)))))))) [0,1,2,3,4,5,6] (by kernel_rfl) ?_))
 ·intro f9 w2 vl1 E9 hs9 hd9 hl hF s
  have h:=cb [(2,_)] h hs9 hd9 ⟨d5 hl 2 (by kernel_rfl) (h.holds 2 _ rfl),trivial⟩
  refine ag (V:=.func (.func 76) #[] #[]) (ae (aF.of_tab (hb.keep s.ext)) 0 (rfl)) h Hc rfl rfl λf h=>aw ⟨_,aV 6 h rfl rfl,rfl,s⟩
 ·intro f9 w2 vl1 E9 hs9 hd9 hl hF s
  have h:=cb [(3,_)] h hs9 hd9 ⟨d5 hl 3 (by kernel_rfl) (h.holds 3 _ rfl),trivial⟩
  refine ak 1 h s ip rfl rfl (cD _ _ _) rfl λf h=>aw ⟨_,aV 7 h rfl rfl,rfl,s⟩
 ·intro f9 w2 vl1 E9 hs9 hd9 hl hF s
  have h:=cb [(6,_),(7,_)] h hs9 hd9 ⟨aS hl 6 0 (by kernel_rfl) (hF 0 (by decide)),aS hl 7 1 (by kernel_rfl) (hF 1 (by decide)),trivial⟩
  refine eS [.agg (de x.1.no x.1.sec x.2)] (caps:=[]) h s QF rfl (yF x _ hx9) rfl rfl ?_;intro f w1 v9 hT hE h s;obtain rfl:=hT
  exact aw ⟨_,aV 8 h rfl rfl,rfl,s⟩
 ·intro f9 w2 vl1 E9 hs9 hd9 hl hF s
  have h:=cb [(2,_)] h hs9 hd9 ⟨d5 hl 2 (by kernel_rfl) (h.holds 2 _ rfl),trivial⟩
  refine ag (V:=.func (.func 76) #[] #[]) (ae (aF.of_tab (hb.keep s.ext)) 0 (rfl)) h Hc rfl rfl λf h=>aw ⟨_,aV 9 h rfl rfl,rfl,s⟩
 ·intro f9 w2 vl1 E9 hs9 hd9 hl hF s
  have h:=cb [(4,_)] h hs9 hd9 ⟨d5 hl 4 (by kernel_rfl) (h.holds 4 _ rfl),trivial⟩
  refine ak 0 h s ip rfl rfl (cD _ _ _) rfl λf h=>aw ⟨_,aV 10 h rfl rfl,rfl,s⟩
 ·intro f9 w2 vl1 E9 hs9 hd9 hl hF s
  have h:=cb [(9,_),(10,_)] h hs9 hd9 ⟨aS hl 9 3 (by kernel_rfl) (hF 3 (by decide)),aS hl 10 4 (by kernel_rfl) (hF 4 (by decide)),trivial⟩
  refine eS [.agg (de y.1.no y.1.sec y.2)] (caps:=[]) h s QF rfl (yF y _ hy9) rfl rfl ?_;intro f w1 v9 hT hE h s;obtain rfl:=hT
  exact aw ⟨_,aV 11 h rfl rfl,rfl,s⟩
 ·intro f9 w2 vl1 E9 hs9 hd9 hl hF s
  have h:=cb [(8,_),(11,_)] h hs9 hd9 ⟨aS hl 8 2 (by kernel_rfl) (hF 2 (by decide)),aS hl 11 5 (by kernel_rfl) (hF 5 (by decide)),trivial⟩
  refine dM h s sA (kU x.1.no y.1.no _) rfl rfl λf w1 h s=>aw ⟨_,aV 12 h rfl rfl,rfl,s⟩
 intro f w1 vl1 hs9 hd9 hv hr hF s
 replace hv:=λi d h9=>hv i d (show Nat.blt i 7=true from h9)
 replace h:=eI 7 (ops:=_) [(6,_),(7,_),(8,_),(9,_),(10,_),(11,_),(12,_)] h hs9 hd9 hr ⟨(hv 0 6 rfl rfl).trans (hF 0 rfl),(hv 1 7 rfl rfl).trans (hF 1 rfl),(hv 2 8 rfl rfl).trans (hF 2 rfl),(hv 3 9 rfl rfl).trans (hF 3 rfl),(hv 4 10 rfl rfl).trans (hF 4 rfl),(hv 5 11 rfl rfl).trans (hF 5 rfl),(hv 6 12 rfl rfl).trans (hF 6 rfl),trivial⟩ (by kernel_rfl)
 refine e9 ac 1 h rfl λf h=>av8 (aA rfl h s rfl (rfl))
theorem Fk (L:List V2) (hL:L.length<=1000) (ho:∀ x∈L,x.2.oneCell'=true) (hd:L.Pairwise λa b=>a.1.no≠b.1.no) (v:Value) (bx:Nat) (B8 B9:List Own) (w0 w:World) (s:St w0 (.sl v 46 3 L.length (aR L)::B9) w) (hb:∀ w9 C,St w0 (C::B9) w9->iX w9 bx #[.func (.func 76) #[] #[]]):
 Calls Tryz.prog 133 [v,.func (.func 134) #[] #[.pointer (some ⟨bx,0,none⟩)]].toArray w (λe w'=>∃ r,e=.returned r/\∃ K:List V2,K.Perm L/\(K.Pairwise λa b=>a.1.no<b.1.no)/\St w0 (.sl v 46 3 K.length (aR K)::B9) w'):=by
 by_cases h0:L.length=0
 ·have hl:L=[]:=List.eq_nil_of_length_eq_zero h0
  subst hl
  obtain ⟨a,c,rfl⟩:=cP (s.getSl 0 rfl)
  refine(Go.Proofs.AnyF.slices_SortFunc_none (P:=Tryz.prog) (ρ:=Tryz.layS_ren) Tryz.layS a c (.func (.func 134) #[] #[.pointer (some ⟨bx,0,none⟩)]) w).mono ?_
  rintro e w' ⟨rfl,rfl⟩
  exact ⟨_,rfl,[],List.Perm.refl _,List.Pairwise.nil,s⟩
 ·have ho9:∀ x∈L,∀ u∈tq x,u.oneCell'=true:=λx hx u hu=>u4 (l:=[x]) (λy hy=>by rw [as9.1 hy];exact ho x hx) u (by unfold aR;simpa using hu)
  obtain ⟨l,hl⟩:∃ l,l=ZB tq L ho9:=⟨_,rfl⟩
  have hm:l.map (·.1)=L:=by rw [hl];exact wJ tq L ho9
  have hln:l.length=L.length:=by rw [hl];exact EK tq L ho9
  have hc:aR L=l.flatMap (subL tq):=by rw [lE,hm];rfl
  have hos:∀ x:gL tq,(λx:V2=>x.2.oneCell'=true) x.1:=λx=>x.2 _ (by unfold tq VE;simp)
  rw [hc,← hln] at s
  obtain ⟨g,cap,rfl,hlt,hgo,hH,hst⟩:=zB tq 3 n4 (by decide) s rfl (by omega)
  have hcon:=Go.Proofs.AnyQ.slices_SortFunc (P:=Tryz.prog) (ρ:=Tryz.layS_ren) Tryz.layS 3 Tryz.isAgg46 Tryz.sizeOf46 (subL tq) (jn tq 3 n4) (tU tq) (λx y:gL tq=>cJ x.1.1.no y.1.1.no) (Aq tq (λx:V2=>x.1.no)) 134 #[.pointer (some ⟨bx,0,none⟩)] g 0 cap l.toArray w (enters_of Tryz.func134 (by kernel_rfl) rfl) (λm os dk hdk x y=>by
   have h9:=FZ x.1 y.1 bx (Go.Proofs.sortWorldK (subL tq) 3 w g 0 m dk os) (hos x) (hos y) (hb _ _ (hst m os dk (by simpa using hdk)))
   refine h9.mono ?_
   rintro e w' ⟨v,rfl,hv,hE⟩
   obtain rfl:=hv
   exact ⟨rfl,vV hE⟩) hH hlt (by rw [List.size_toArray];omega)
  refine hcon.mono ?_
  rintro e w' ⟨rfl,d',n,os,hp,hs,rfl⟩
  have hsz:d'.size=l.length:=by rw [hp.1,List.size_toArray]
  have s2:=hst n os d' hsz
  obtain ⟨h1,h2⟩:=Ap tq (λx:V2=>x.1.no) (l:=l) (by rw [← hm,List.pairwise_map] at hd;exact hd) hp hs
  have hKl:(d'.toList.map (·.1)).length=l.length:=by rw [av6,as7,hsz]
  refine ⟨_,rfl,d'.toList.map (·.1),?_,List.pairwise_map.2 h2,?_⟩
  ·rw [← hm];exact h1.map _
  ·rw [lE] at s2;rw [hKl];exact s2
set_option maxHeartbeats 1000000 in
theorem xH (L:List V2) (x:V2) (v:Value) (B9:List Own) (w0 w:World) (s:St w0 (.sl v 46 3 L.length (aR L)::B9) w) (hL:L.length<=900) (ho:∀ x∈L,x.2.oneCell'=true) (hx9:x.2.oneCell'=true) (hd:(L++[x]).Pairwise λa b=>a.1.no≠b.1.no):Calls Tryz.prog 75 [v,.agg (de x.1.no x.1.sec x.2),.func (.func 76) #[] #[]].toArray w (λe w9=>∃ v9,e=.returned v9/\∃ K:List V2,K.Perm (L++[x])/\(K.Pairwise λa b=>a.1.no<b.1.no)/\St w0 (.sl v9 46 3 K.length (aR K)::B9) w9):=by
 have ho1:∀ y∈(L++[x]),y.2.oneCell'=true:=λy hy=>by rcases av4.1 hy with hy|hy;exact ho y hy;rw [as9.1 hy];exact hx9
 refine cO Tryz.func75 rfl Tryz.ntmps75 rfl [(0,v),(1,.agg (de x.1.no x.1.sec x.2)),(2,.func (.func 76) #[] #[])] (by simp) λf h=>?_
 refine qr (aZ (de x.1.no x.1.sec x.2) h s rfl rfl rfl λf w1 b4 h s=>aZ (#[.func (.func 76) #[] #[]]) h s rfl rfl rfl λf w1 b5 h s=>e9 ac 1 h rfl λf h=>cw ac 1 h rfl λf h=>ak 1 h s ip rfl rfl (cD _ _ _) rfl λf h=>cU (vs:=[.agg (de x.1.no x.1.sec x.2)]) [.tmp 8] h s aC1 DO rfl rfl (λv hv=>by rw [as9.1 hv];rfl) rfl rfl rfl λf w1 v9 h s=>?_)
 replace s:=s.resl (m:=1) (ys:=aR [x]) 0 rfl rfl rfl
 refine ez 3 0 h s aC1 DO rfl rfl rfl rfl (by decide) ((u4 (l:=[x]) (λy hy=>by rw [as9.1 hy];exact hx9))) (by unfold maxLen;omega) (by omega) rfl λf w1 v10 h s=>?_
 replace s:=s.pick _ (at7 _ _)
 replace s:=s.resl (m:=(L++[x]).length) (ys:=aR (L++[x])) 2 rfl (by rw [as2];rfl) (by unfold aR;rw [aw7])
 refine e9 ac 1 h rfl λf h=>cw ac 1 h rfl λf h=>am h (dF [.pointer (some ⟨b5,0,none⟩)] (kQ h rfl)) rfl λf h=>?_
 replace s:=s.bring 2 rfl
 replace s:St w0 (.sl v10 46 3 (L++[x]).length (aR (L++[x]))::.blk b5 (.cells (#[.func (.func 76) #[] #[]]) 142)::.blk b4 (.cells (de x.1.no x.1.sec x.2) 46)::B9) _:=s
 refine cF [v10,.func (.func 134) #[] #[.pointer (some ⟨b5,0,none⟩)]] h UX (Fk (L++[x]) (by rw [as2];show L.length+1<=1000;omega) ho1 hd v10 b5 [] _ _ _ s (λw9 C9 s9=>iX.of_own s9 1 rfl)) rfl rfl ?_;rintro f w1 r ⟨K,hkp,hks,s⟩ h
 refine nt (bJ ac 2 h rfl λf h=>av8 (dG rfl h rfl (⟨v10,rfl,K,hkp,hks,(s.pick _ (ar2 _ (ar3 _ (ar3 _ (List.Sublist.refl _)))))⟩)))
set_option maxHeartbeats 1000000 in
theorem FH (x y:H4) (bx:Nat)  (w:World) (hx9:x.2.1.oneCell'=true/\x.2.2.1.oneCell'=true/\x.2.2.2.oneCell'=true) (hy9:y.2.1.oneCell'=true/\y.2.2.1.oneCell'=true/\y.2.2.2.oneCell'=true) (hb:iX w bx #[.func (.func 88) #[] #[]]):Calls Tryz.prog 148 [.agg (bE x.1.no x.1.gt x.2.1 x.2.2.1 x.2.2.2),.agg (bE y.1.no y.1.gt y.2.1 y.2.2.1 y.2.2.2),.pointer (some ⟨bx,0,none⟩)].toArray w (cd w (is (.int .i64 (cJ x.1.no y.1.no)))):=by
 refine bN Tryz.func148 rfl Tryz.ntmps148 rfl λf h s=>qr (aZ (bE x.1.no x.1.gt x.2.1 x.2.2.1 x.2.2.2) h s rfl rfl rfl λf w1 b3 h s=>aZ (bE y.1.no y.1.gt y.2.1 y.2.2.1 y.2.2.2) h s rfl rfl rfl λf w1 b4 h s=>e9 ac 1 h rfl λf h=>ah (fH 0 7 [[],[],[0,1],[],[],[0,1,2,3,4],[0,1,2,3,4,5],[0,1,2,3,4,5,6]] [[],[],[],[],[],[],[],[]] [] [.v (.func (.func 88) #[] #[]),.v (.agg (bE x.1.no x.1.gt x.2.1 x.2.2.1 x.2.2.2)),.v (.int .i64 x.1.no),.v (.func (.func 88) #[] #[]),.v (.agg (bE y.1.no y.1.gt y.2.1 y.2.2.1 y.2.2.2)),.v (.int .i64 y.1.no),.v (.int .i64 (cJ x.1.no y.1.no)),.n] _ h s rfl (by kernel_rfl) (by kernel_rfl) (by kernel_rfl) (bW ?_ (bW ?_ (bW ?_ (bW ?_ (bW ?_ (bW ?_ (bW ?_ (trivial)))))))) [0,1,2,3,4,5,6] (by kernel_rfl) ?_))
 ·intro f9 w2 vl1 E9 hs9 hd9 hl hF s
  have h:=cb [(2,_)] h hs9 hd9 ⟨d5 hl 2 (by kernel_rfl) (h.holds 2 _ rfl),trivial⟩
  refine ag (V:=.func (.func 88) #[] #[]) (ae (aF.of_tab (hb.keep s.ext)) 0 (rfl)) h KA rfl rfl λf h=>aw ⟨_,aV 6 h rfl rfl,rfl,s⟩
 ·intro f9 w2 vl1 E9 hs9 hd9 hl hF s
  have h:=cb [(3,_)] h hs9 hd9 ⟨d5 hl 3 (by kernel_rfl) (h.holds 3 _ rfl),trivial⟩
  refine ak 1 h s eM rfl rfl (bq _ _ _ _ _) rfl λf h=>aw ⟨_,aV 7 h rfl rfl,rfl,s⟩
 ·intro f9 w2 vl1 E9 hs9 hd9 hl hF s
  have h:=cb [(6,_),(7,_)] h hs9 hd9 ⟨aS hl 6 0 (by kernel_rfl) (hF 0 (by decide)),aS hl 7 1 (by kernel_rfl) (hF 1 (by decide)),trivial⟩
  refine eS [.agg (bE x.1.no x.1.gt x.2.1 x.2.2.1 x.2.2.2)] (caps:=[]) h s HL rfl (qI x _ hx9) rfl rfl ?_;intro f w1 v9 hT hE h s;obtain rfl:=hT
  exact aw ⟨_,aV 8 h rfl rfl,rfl,s⟩
 ·intro f9 w2 vl1 E9 hs9 hd9 hl hF s
  have h:=cb [(2,_)] h hs9 hd9 ⟨d5 hl 2 (by kernel_rfl) (h.holds 2 _ rfl),trivial⟩
  refine ag (V:=.func (.func 88) #[] #[]) (ae (aF.of_tab (hb.keep s.ext)) 0 (rfl)) h KA rfl rfl λf h=>aw ⟨_,aV 9 h rfl rfl,rfl,s⟩
 ·intro f9 w2 vl1 E9 hs9 hd9 hl hF s
  have h:=cb [(4,_)] h hs9 hd9 ⟨d5 hl 4 (by kernel_rfl) (h.holds 4 _ rfl),trivial⟩
  refine ak 0 h s eM rfl rfl (bq _ _ _ _ _) rfl λf h=>aw ⟨_,aV 10 h rfl rfl,rfl,s⟩
 ·intro f9 w2 vl1 E9 hs9 hd9 hl hF s
  have h:=cb [(9,_),(10,_)] h hs9 hd9 ⟨aS hl 9 3 (by kernel_rfl) (hF 3 (by decide)),aS hl 10 4 (by kernel_rfl) (hF 4 (by decide)),trivial⟩
  refine eS [.agg (bE y.1.no y.1.gt y.2.1 y.2.2.1 y.2.2.2)] (caps:=[]) h s HL rfl (qI y _ hy9) rfl rfl ?_;intro f w1 v9 hT hE h s;obtain rfl:=hT
  exact aw ⟨_,aV 11 h rfl rfl,rfl,s⟩
 ·intro f9 w2 vl1 E9 hs9 hd9 hl hF s
  have h:=cb [(8,_),(11,_)] h hs9 hd9 ⟨aS hl 8 2 (by kernel_rfl) (hF 2 (by decide)),aS hl 11 5 (by kernel_rfl) (hF 5 (by decide)),trivial⟩
  refine dM h s sA (kU x.1.no y.1.no _) rfl rfl λf w1 h s=>aw ⟨_,aV 12 h rfl rfl,rfl,s⟩
 intro f w1 vl1 hs9 hd9 hv hr hF s
 replace hv:=λi d h9=>hv i d (show Nat.blt i 7=true from h9)
 replace h:=eI 7 (ops:=_) [(6,_),(7,_),(8,_),(9,_),(10,_),(11,_),(12,_)] h hs9 hd9 hr ⟨(hv 0 6 rfl rfl).trans (hF 0 rfl),(hv 1 7 rfl rfl).trans (hF 1 rfl),(hv 2 8 rfl rfl).trans (hF 2 rfl),(hv 3 9 rfl rfl).trans (hF 3 rfl),(hv 4 10 rfl rfl).trans (hF 4 rfl),(hv 5 11 rfl rfl).trans (hF 5 rfl),(hv 6 12 rfl rfl).trans (hF 6 rfl),trivial⟩ (by kernel_rfl)
 refine e9 ac 1 h rfl λf h=>av8 (aA rfl h s rfl (rfl))
theorem FP (L:List H4) (hL:L.length<=1000) (ho:∀ x∈L,x.2.1.oneCell'=true/\x.2.2.1.oneCell'=true/\x.2.2.2.oneCell'=true) (hd:L.Pairwise λa b=>a.1.no≠b.1.no) (v:Value) (bx:Nat) (B8 B9:List Own) (w0 w:World) (s:St w0 (.sl v 66 5 L.length (aM L)::B9) w) (hb:∀ w9 C,St w0 (C::B9) w9->iX w9 bx #[.func (.func 88) #[] #[]]):
 Calls Tryz.prog 147 [v,.func (.func 148) #[] #[.pointer (some ⟨bx,0,none⟩)]].toArray w (λe w'=>∃ r,e=.returned r/\∃ K:List H4,K.Perm L/\(K.Pairwise λa b=>a.1.no<b.1.no)/\St w0 (.sl v 66 5 K.length (aM K)::B9) w'):=by
 by_cases h0:L.length=0
 ·have hl:L=[]:=List.eq_nil_of_length_eq_zero h0
  subst hl
  obtain ⟨a,c,rfl⟩:=cP (s.getSl 0 rfl)
  refine(Go.Proofs.AnyF.slices_SortFunc_none (P:=Tryz.prog) (ρ:=Tryz.layH_ren) Tryz.layH a c (.func (.func 148) #[] #[.pointer (some ⟨bx,0,none⟩)]) w).mono ?_
  rintro e w' ⟨rfl,rfl⟩
  exact ⟨_,rfl,[],List.Perm.refl _,List.Pairwise.nil,s⟩
 ·have ho9:∀ x∈L,∀ u∈oA x,u.oneCell'=true:=λx hx u hu=>wh (l:=[x]) (λy hy=>by rw [as9.1 hy];exact ho x hx) u (by unfold aM;simpa using hu)
  obtain ⟨l,hl⟩:∃ l,l=ZB oA L ho9:=⟨_,rfl⟩
  have hm:l.map (·.1)=L:=by rw [hl];exact wJ oA L ho9
  have hln:l.length=L.length:=by rw [hl];exact EK oA L ho9
  have hc:aM L=l.flatMap (subL oA):=by rw [lE,hm];rfl
  have hos:∀ x:gL oA,(λx:H4=>x.2.1.oneCell'=true/\x.2.2.1.oneCell'=true/\x.2.2.2.oneCell'=true) x.1:=λx=>⟨x.2 _ (by unfold oA Mo;simp),x.2 _ (by unfold oA Mo;simp),x.2 _ (by unfold oA Mo;simp)⟩
  rw [hc,← hln] at s
  obtain ⟨g,cap,rfl,hlt,hgo,hH,hst⟩:=zB oA 5 g8 (by decide) s rfl (by omega)
  have hcon:=Go.Proofs.AnyQ.slices_SortFunc (P:=Tryz.prog) (ρ:=Tryz.layH_ren) Tryz.layH 5 Tryz.isAgg66 Tryz.sizeOf66 (subL oA) (jn oA 5 g8) (tU oA) (λx y:gL oA=>cJ x.1.1.no y.1.1.no) (Aq oA (λx:H4=>x.1.no)) 148 #[.pointer (some ⟨bx,0,none⟩)] g 0 cap l.toArray w (enters_of Tryz.func148 (by kernel_rfl) rfl) (λm os dk hdk x y=>by
   have h9:=FH x.1 y.1 bx (Go.Proofs.sortWorldK (subL oA) 5 w g 0 m dk os) (hos x) (hos y) (hb _ _ (hst m os dk (by simpa using hdk)))
   refine h9.mono ?_
   rintro e w' ⟨v,rfl,hv,hE⟩
   obtain rfl:=hv
   exact ⟨rfl,vV hE⟩) hH hlt (by rw [List.size_toArray];omega)
  refine hcon.mono ?_
  rintro e w' ⟨rfl,d',n,os,hp,hs,rfl⟩
  have hsz:d'.size=l.length:=by rw [hp.1,List.size_toArray]
  have s2:=hst n os d' hsz
  obtain ⟨h1,h2⟩:=Ap oA (λx:H4=>x.1.no) (l:=l) (by rw [← hm,List.pairwise_map] at hd;exact hd) hp hs
  have hKl:(d'.toList.map (·.1)).length=l.length:=by rw [av6,as7,hsz]
  refine ⟨_,rfl,d'.toList.map (·.1),?_,List.pairwise_map.2 h2,?_⟩
  ·rw [← hm];exact h1.map _
  ·rw [lE] at s2;rw [hKl];exact s2
set_option maxHeartbeats 1000000 in
theorem wM (L:List H4) (x:H4) (v:Value) (B9:List Own) (w0 w:World) (s:St w0 (.sl v 66 5 L.length (aM L)::B9) w) (hL:L.length<=900) (ho:∀ x∈L,x.2.1.oneCell'=true/\x.2.2.1.oneCell'=true/\x.2.2.2.oneCell'=true) (hx9:x.2.1.oneCell'=true/\x.2.2.1.oneCell'=true/\x.2.2.2.oneCell'=true) (hd:(L++[x]).Pairwise λa b=>a.1.no≠b.1.no):Calls Tryz.prog 87 [v,.agg (bE x.1.no x.1.gt x.2.1 x.2.2.1 x.2.2.2),.func (.func 88) #[] #[]].toArray w (λe w9=>∃ v9,e=.returned v9/\∃ K:List H4,K.Perm (L++[x])/\(K.Pairwise λa b=>a.1.no<b.1.no)/\St w0 (.sl v9 66 5 K.length (aM K)::B9) w9):=by
 have ho1:∀ y∈(L++[x]),y.2.1.oneCell'=true/\y.2.2.1.oneCell'=true/\y.2.2.2.oneCell'=true:=λy hy=>by rcases av4.1 hy with hy|hy;exact ho y hy;rw [as9.1 hy];exact hx9
 refine cO Tryz.func87 rfl Tryz.ntmps87 rfl [(0,v),(1,.agg (bE x.1.no x.1.gt x.2.1 x.2.2.1 x.2.2.2)),(2,.func (.func 88) #[] #[])] (by simp) λf h=>?_
 refine qr (aZ (bE x.1.no x.1.gt x.2.1 x.2.2.1 x.2.2.2) h s rfl rfl rfl λf w1 b4 h s=>aZ (#[.func (.func 88) #[] #[]]) h s rfl rfl rfl λf w1 b5 h s=>e9 ac 1 h rfl λf h=>cw ac 1 h rfl λf h=>ak 1 h s eM rfl rfl (bq _ _ _ _ _) rfl λf h=>cU (vs:=[.agg (bE x.1.no x.1.gt x.2.1 x.2.2.1 x.2.2.2)]) [.tmp 8] h s aC2 EI rfl rfl (λv hv=>by rw [as9.1 hv];rfl) rfl rfl rfl λf w1 v9 h s=>?_)
 replace s:=s.resl (m:=1) (ys:=aM [x]) 0 rfl rfl rfl
 refine ez 3 0 h s aC2 EI rfl rfl rfl rfl (by decide) ((wh (l:=[x]) (λy hy=>by rw [as9.1 hy];exact hx9))) (by unfold maxLen;omega) (by omega) rfl λf w1 v10 h s=>?_
 replace s:=s.pick _ (at7 _ _)
 replace s:=s.resl (m:=(L++[x]).length) (ys:=aM (L++[x])) 2 rfl (by rw [as2];rfl) (by unfold aM;rw [aw7])
 refine e9 ac 1 h rfl λf h=>cw ac 1 h rfl λf h=>am h (dF [.pointer (some ⟨b5,0,none⟩)] (kQ h rfl)) rfl λf h=>?_
 replace s:=s.bring 2 rfl
 replace s:St w0 (.sl v10 66 5 (L++[x]).length (aM (L++[x]))::.blk b5 (.cells (#[.func (.func 88) #[] #[]]) 157)::.blk b4 (.cells (bE x.1.no x.1.gt x.2.1 x.2.2.1 x.2.2.2) 66)::B9) _:=s
 refine cF [v10,.func (.func 148) #[] #[.pointer (some ⟨b5,0,none⟩)]] h U7 (FP (L++[x]) (by rw [as2];show L.length+1<=1000;omega) ho1 hd v10 b5 [] _ _ _ s (λw9 C9 s9=>iX.of_own s9 1 rfl)) rfl rfl ?_;rintro f w1 r ⟨K,hkp,hks,s⟩ h
 refine nt (bJ ac 2 h rfl λf h=>av8 (dG rfl h rfl (⟨v10,rfl,K,hkp,hks,(s.pick _ (ar2 _ (ar3 _ (ar3 _ (List.Sublist.refl _)))))⟩)))
set_option maxHeartbeats 2000000 in
theorem BS (vo vs vh vl vn:Value) (X:Wx) (kk:List Nat) (bc:Nat) (B9:List Own) (a:Ac) (va:Value)  (w0 w:World) (s:St w0 (.blk bc (.cells (dZ vo vs vh vl X.M.last X.M.now vn) 83)::.sl vs 46 3 X.S.length (aR X.S)::.sl vh 66 5 X.H.length (aM X.H)::.sl vn 59 74 ([]:List Nt).length (aW ([]:List Nt))::.grp kk (λw9=>RdC w9 vo vl X)::B9) w) (hbd:BdW (aH X)) (hH0:X.H=[]) (hU:∀ w9,St w0 B9 w9->gf w9 va a.l):Calls Tryz.prog 39 [.pointer (some ⟨bc,0,none⟩),.agg (bM a va)].toArray w (λe w9=>∃ v,e=.returned v/\Cf w0 bc 83 46 66 59 (qK (aH X) a.no a.tO) B9 v w9):=by
 have hbH:=hbd.hx
 refine cO Tryz.func39 rfl Tryz.ntmps39 rfl [(0,.pointer (some ⟨bc,0,none⟩)),(1,.agg (bM a va))] (by simp) λf h=>?_
 refine qr (aZ (bM a va) h s rfl rfl rfl λf w1 b3 h s=>e9 ac 1 h rfl λf h=>cw ac 1 h rfl λf h=>ag (V:=.int .i64 a.no) (ae (aF.of_own s 0 rfl) 1 (FW _ _)) h bu rfl rfl λf h=>al ac 1 h rfl λf h=>ag (V:=.int .i64 a.tO) (ae (aF.of_own s 0 rfl) 2 (af5 _ _)) h bu rfl rfl λf h=>bB h s YQ (Ha a.no a.tO _) rfl rfl ?_);rintro f w1 v12 ⟨uw,uh,ui,k1,rfl,hG⟩ hE h sq;replace s:=s.add hG;clear hG
 have hu1:=bR ((s.getG 0 rfl) (jS _ 0 0)).1
 have hu2:=bR ((s.getG 0 rfl) (jS _ 0 0)).2.1
 have hu3:=bR ((s.getG 0 rfl) (jS _ 0 0)).2.2
 refine al ac 3 h rfl λf h=>aO (bE 0 0 au au au) h s qJ rfl rfl λf w1 b5 h s=>aj 0 h s eM rfl rfl rfl (bq _ _ _ _ _) (bq _ _ _ _ _) (eW _ _ (hu1) (hu2) (hu3)) λw1 s=>e9 ac 1 h rfl λf h=>ah (bJ ac 2 h rfl λf h=>cr h rfl (λhc=>?_) (λhc=>?_))
 ·have x0:¬ (oL a.no a.tO)=0:=ar4 hc
  refine bJ ac 2 h rfl λf h=>rt (dG rfl h rfl (by replace s:=s.bring 7 rfl;replace s:=s.bring 7 rfl;replace s:=s.bring 7 rfl;replace s:=s.bring 7 rfl;replace s:=s.bring 7 rfl;exact ⟨_,rfl,lR (R:=qK (aH X) a.no a.tO) (Yd x0) x0 (s.pick _ (ar2 _ (ar2 _ (ar2 _ (ar2 _ (ar2 _ (ar3 _ (ar3 _ (ar3 _ (List.Sublist.refl _))))))))))⟩))
 ·have x0:(oL a.no a.tO)=0:=Decidable.of_not_not (ar5 hc)
  refine kt (ah (cw ac 2 h rfl λf h=>ag (V:=.int .i64 a.no) (ae (aF.of_own s 2 rfl) 1 (FW _ _)) h bu rfl rfl λf h=>dM h s L6 (a6 (.pointer none) (oP vo vs vh vl vn X.M.last X.M.now bc X.H a.no _ (iX.of_own s 3 rfl) (br.of_own (s.getSl 5 rfl)) (λx hx=>⟨bR ((s.getG 7 rfl).hw x hx).1,bR ((s.getG 7 rfl).hw x hx).2.1,bR ((s.getG 7 rfl).hw x hx).2.2⟩) (by omega)) (zF (by rw [hH0];exact ax1 _))) rfl rfl λf w1 h s=>am h (a8 (.bool false) (eN aF1 (h.ev rfl) (h.ev rfl)) (rfl)) rfl λf h=>fL h rfl (ah ?_)))
  replace s:=s.bring 5 rfl
  replace s:St w0 (.sl vh 66 5 X.H.length (aM X.H)::.blk b5 (.cells (bE (gS a.no a.tO).no (gS a.no a.tO).gt uw uh ui) 66)::(.grp k1 (λw9=>ma w9 au au au oT->ma w9 uw uh ui (gS a.no a.tO)))::.blk b3 (.cells (bM a va) 36)::.blk bc (.cells (dZ vo vs vh vl X.M.last X.M.now vn) 83)::.sl vs 46 3 X.S.length (aR X.S)::.sl vn 59 74 ([]:List Nt).length (aW ([]:List Nt))::(.grp kk (λw9=>RdC w9 vo vl X))::B9) _:=s
  refine fH 1 8 [[],[],[1],[1,2],[1,2,3],[1,2,3,4],[],[1,2,3,4,5,6],[0,1,2,3,4,5,6,7],[0,1,2,3,4,5,6,7,8],[0,1,2,3,4,5,6,7,8,9],[0,1,2,3,4,5,6,7,8,9,10]] [[],[],[],[],[],[],[],[12],[],[],[],[]] [[_]] [.v _,.v _,.v _,.v _,.v _,.v vh,.v (.agg (bE (gS a.no a.tO).no (gS a.no a.tO).gt uw uh ui)),.m (λv=>[.sl (v 7) 66 5 1 (aM [((gS a.no a.tO),uw,uh,ui)])]),.n,.n,.n,.n] _ h s rfl (by kernel_rfl) (by kernel_rfl) (by kernel_rfl) (fJ ac h rfl rfl rfl (fJ ac h rfl rfl rfl (fJ ac h rfl rfl rfl (fJ ac h rfl rfl rfl (fJ ac h rfl rfl rfl (bW ?_ (bW ?_ (bW ?_ (trivial))))))))) [0,1,2,3,4,5,6,7] (by kernel_rfl) ?_
  ·intro f9 w2 vl6 E9 hs9 hd9 hl hF s
   have h:=cb [(27,_)] h hs9 hd9 ⟨aS hl 27 4 (by kernel_rfl) (hF 4 (by decide)),trivial⟩
   refine ag (V:=vh) (ae (aF.of_own s 3 rfl) 2 (ae5 _ _ _ _ _ _ _)) h ga rfl rfl λf h=>aw ⟨_,aV 28 h rfl rfl,rfl,s⟩
  ·intro f9 w2 vl6 E9 hs9 hd9 hl hF s
   have h:=cb [(5,_)] h hs9 hd9 ⟨d5 hl 5 (by kernel_rfl) (h.holds 5 _ rfl),trivial⟩
   refine ak 0 h s eM rfl rfl (bq _ _ _ _ _) rfl λf h=>aw ⟨_,aV 29 h rfl rfl,rfl,s⟩
  ·intro f9 w2 vl6 E9 hs9 hd9 hl hF s
   have h:=cb [(28,_),(29,_)] h hs9 hd9 ⟨aS hl 28 5 (by kernel_rfl) (hF 5 (by decide)),aS hl 29 6 (by kernel_rfl) (hF 6 (by decide)),trivial⟩
   replace s:=s.resl (m:=([]:List H4).length) (ys:=aM []) 0 rfl (by rw [hH0]) (by rw [hH0])
   refine cF [vh,.agg (bE (gS a.no a.tO).no (gS a.no a.tO).gt uw uh ui),.func (.func 88) #[] #[]] h W4 (wM [] ((gS a.no a.tO),uw,uh,ui) vh _ _ _ s (at8 _) (λx hx=>by cases hx) ⟨hu1,hu2,hu3⟩ (List.pairwise_singleton _ _)) rfl rfl ?_;rintro f w1 v30 ⟨K,hkp,hks,s⟩ h
   obtain rfl:=List.perm_singleton.1 hkp
   exact aw ⟨_,aV 30 h rfl rfl,trivial,s⟩
  intro f w1 vl6 hs9 hd9 hv hr hF s
  replace hv:=λi d h9=>hv i d (show Nat.blt i 8=true from h9)
  replace h:=eI 8 (ops:=_) [(23,_),(24,_),(25,_),(26,_),(27,_),(28,_),(29,_),(30,(vl6 7))] h hs9 hd9 hr ⟨(hv 0 23 rfl rfl).trans (hF 0 rfl),(hv 1 24 rfl rfl).trans (hF 1 rfl),(hv 2 25 rfl rfl).trans (hF 2 rfl),(hv 3 26 rfl rfl).trans (hF 3 rfl),(hv 4 27 rfl rfl).trans (hF 4 rfl),(hv 5 28 rfl rfl).trans (hF 5 rfl),(hv 6 29 rfl rfl).trans (hF 6 rfl),hv 7 30 rfl rfl,trivial⟩ (by kernel_rfl)
  replace s:St w0 (.sl (vl6 7) 66 5 1 (aM [((gS a.no a.tO),uw,uh,ui)])::.blk b5 (.cells (bE (gS a.no a.tO).no (gS a.no a.tO).gt uw uh ui) 66)::(.grp k1 (λw9=>ma w9 au au au oT->ma w9 uw uh ui (gS a.no a.tO)))::.blk b3 (.cells (bM a va) 36)::.blk bc (.cells (dZ vo vs vh vl X.M.last X.M.now vn) 83)::.sl vs 46 3 X.S.length (aR X.S)::.sl vn 59 74 ([]:List Nt).length (aW ([]:List Nt))::(.grp kk (λw9=>RdC w9 vo vl X))::B9) _:=s
  refine al ac 3 h rfl λf h=>aJ 4 h s ga rfl rfl rfl (by rw [gH];omega) (aT (s.getSl 0 rfl)) λw1 s=>?_
  replace s:=s.recell (D:=dZ vo vs (vl6 7) vl X.M.last X.M.now vn) 4 rfl (rfl)
  refine nt (bJ ac 1 h rfl λf h=>av8 (dG rfl h rfl (by replace s:=s.bring 6 rfl;replace s:=s.bring 1 rfl;replace s:=s.bring 6 rfl;replace s:=s.bring 6 rfl;replace s:=s.bring 7 rfl;replace s:=s.bring 6 rfl;exact ⟨_,rfl,Gm hH0 x0 (s.pick _ (ar2 _ (ar2 _ (ar2 _ (ar2 _ (ar2 _ (ar2 _ (ar3 _ (ar3 _ (List.Sublist.refl _))))))))))⟩)))
set_option maxHeartbeats 1000000 in
theorem Ch (vo vs vh vl vn:Value) (X:Wx) (kk:List Nat) (bc:Nat) (B9:List Own) (a:Ac) (va:Value)  (w0 w:World) (s:St w0 (.blk bc (.cells (dZ vo vs vh vl X.M.last X.M.now vn) 83)::.sl vs 46 3 X.S.length (aR X.S)::.sl vh 66 5 X.H.length (aM X.H)::.sl vn 59 74 ([]:List Nt).length (aW ([]:List Nt))::.grp kk (λw9=>RdC w9 vo vl X)::B9) w) (hbd:BdW (aH X)) (hU:∀ w9,St w0 B9 w9->gf w9 va a.l):Calls Tryz.prog 38 [.pointer (some ⟨bc,0,none⟩),.agg (bM a va)].toArray w (λe w9=>∃ v,e=.returned v/\Cf w0 bc 83 46 66 59 (sS (aH X) a.n) B9 v w9):=by
 have hbM:X.M.l.length<=100:=hbd.ml
 refine cO Tryz.func38 rfl Tryz.ntmps38 rfl [(0,.pointer (some ⟨bc,0,none⟩)),(1,.agg (bM a va))] (by simp) λf h=>?_
 refine qr (aZ (bM a va) h s rfl rfl rfl λf w1 b3 h s=>e9 ac 1 h rfl λf h=>ah ?_)
 replace s:=s.bring 1 rfl
 replace s:St w0 (.blk bc (.cells (dZ vo vs vh vl X.M.last X.M.now vn) 83)::.blk b3 (.cells (bM a va) 36)::.sl vs 46 3 X.S.length (aR X.S)::.sl vh 66 5 X.H.length (aM X.H)::.sl vn 59 74 ([]:List Nt).length (aW ([]:List Nt))::(.grp kk (λw9=>RdC w9 vo vl X))::B9) _:=s
 refine oU 1 [[],[],[1],[1,2],[1,2,3],[1,2,3,4],[],[6],[1,2,3,4,5,6,7],[1,2,3,4,5,6,7,8],[1,2,3,4,5,6,7,8],[0,1,2,3,4,5,6,7,8,9,10],[0,1,2,3,4,5,6,7,8,9,10,11]] [[],[],[],[],[],[],[],[],[],[],[],[13],[]] [[],[],[],[],[],[0],[],[],[],[],[],[],[]] [[_]] [.v (.pointer (some ⟨bc,0,none⟩)),.v (.pointer (some ⟨bc,0,none⟩)),.v (.pointer (some ⟨bc,0,none⟩)),.v (.pointer (some ⟨bc,0,none⟩)),.v (.pointer (some ⟨bc,3,none⟩)),.v (.agg #[vl,.int .i64 X.M.last,.int .i64 X.M.now]),.v (.pointer (some ⟨b3,3,none⟩)),.v (.int .i64 a.n),.r (λv=>[.sl (eL (v 8)) 61 4 (dP X.M a.n).l.length (bw (dP X.M a.n).l)]) (λv=>v 8=.tuple #[.agg #[(eL (v 8)),.int .i64 (dP X.M a.n).last,.int .i64 (dP X.M a.n).now],.int .i64 (fG X.M a.n)]),.f (λv=>v 9=.agg #[(eL (v 8)),.int .i64 (dP X.M a.n).last,.int .i64 (dP X.M a.n).now]),.v (.int .i64 (fG X.M a.n)),.w (λv=>[.blk bc (.cells (dZ vo vs vh (eL (v 8)) (dP X.M a.n).last (dP X.M a.n).now vn) 83)]) (.int .i64 (fG X.M a.n)),.v (.int .i64 (fG X.M a.n))] (λ_ _=>[]) _ h s rfl (by kernel_rfl) (by kernel_rfl) (by kernel_rfl) (by kernel_rfl) (bW ?_ (bW ?_ (bW ?_ (bW ?_ (bW ?_ (bW ?_ (bW ?_ (bW ?_ (bW ?_ (bW ?_ (bW ?_ (bW ?_ (bW ?_ (trivial)))))))))))))) [0,1,2,3,4,5,6,7,8,9,10,11,12] (by kernel_rfl) ?_
 ·intro f9 w2 vl1 E9 lst9 hlo hlc hlz hs9 hd9 hl hF hR9 s
  have h:=cb [(0,_)] h hs9 hd9 ⟨d5 hl 0 (by kernel_rfl) (h.holds 0 _ rfl),trivial⟩
  refine al ac 1 h rfl λf h=>aw ⟨_,aV 5 h rfl rfl,rfl,s⟩
 ·intro f9 w2 vl1 E9 lst9 hlo hlc hlz hs9 hd9 hl hF hR9 s
  have h:=cb [(0,_)] h hs9 hd9 ⟨d5 hl 0 (by kernel_rfl) (h.holds 0 _ rfl),trivial⟩
  refine al ac 1 h rfl λf h=>aw ⟨_,aV 6 h rfl rfl,rfl,s⟩
 ·intro f9 w2 vl1 E9 lst9 hlo hlc hlz hs9 hd9 hl hF hR9 s
  have h:=cb [(6,_)] h hs9 hd9 ⟨aS hl 6 1 (by kernel_rfl) (hF 1 (by decide)),trivial⟩
  refine al ac 1 h rfl λf h=>aw ⟨_,aV 7 h rfl rfl,rfl,s⟩
 ·intro f9 w2 vl1 E9 lst9 hlo hlc hlz hs9 hd9 hl hF hR9 s
  have h:=cb [(7,_)] h hs9 hd9 ⟨aS hl 7 2 (by kernel_rfl) (hF 2 (by decide)),trivial⟩
  refine al ac 1 h rfl λf h=>aw ⟨_,aV 8 h rfl rfl,rfl,s⟩
 ·intro f9 w2 vl1 E9 lst9 hlo hlc hlz hs9 hd9 hl hF hR9 s
  have h:=cb [(8,_)] h hs9 hd9 ⟨aS hl 8 3 (by kernel_rfl) (hF 3 (by decide)),trivial⟩
  refine al ac 1 h rfl λf h=>aw ⟨_,aV 9 h rfl rfl,rfl,s⟩
 ·intro f9 w2 vl1 E9 lst9 hlo hlc hlz hs9 hd9 hl hF hR9 s
  have hq9:Own.blk bc (.cells (dZ vo vs vh vl X.M.last X.M.now vn) 83)∈E9:=hR9 0 (by decide) _ at0
  have h:=cb [(9,_)] h hs9 hd9 ⟨aS hl 9 4 (by kernel_rfl) (hF 4 (by decide)),trivial⟩
  have hq8:Own.blk bc (.cells (dZ vo vs vh vl X.M.last X.M.now vn) 83)∈(.blk b3 (.cells (bM a va) 36)::.sl vs 46 3 X.S.length (aR X.S)::.sl vh 66 5 X.H.length (aM X.H)::.sl vn 59 74 ([]:List Nt).length (aW ([]:List Nt))::(.grp kk (λw9=>RdC w9 vo vl X))::(B9++E9)):=by simp only [at1,av4,hq9,or_true]
  refine az (aF.subL (aF.of_mem s hq8) 3 3 (D:=#[vl,.int .i64 X.M.last,.int .i64 X.M.now]) (IF _ _ _ _ _ _ _)) h bV rfl (rfl) rfl λf h=>aw ⟨_,aV 10 h rfl rfl,rfl,s⟩
 ·intro f9 w2 vl1 E9 lst9 hlo hlc hlz hs9 hd9 hl hF hR9 s
  have h:=cb [(3,_)] h hs9 hd9 ⟨d5 hl 3 (by kernel_rfl) (h.holds 3 _ rfl),trivial⟩
  refine al ac 1 h rfl λf h=>aw ⟨_,aV 11 h rfl rfl,rfl,s⟩
 ·intro f9 w2 vl1 E9 lst9 hlo hlc hlz hs9 hd9 hl hF hR9 s
  have h:=cb [(11,_)] h hs9 hd9 ⟨aS hl 11 6 (by kernel_rfl) (hF 6 (by decide)),trivial⟩
  refine ag (V:=.int .i64 a.n) (ae (aF.of_own s 0 rfl) 3 (Pd _ _)) h bu rfl rfl λf h=>aw ⟨_,aV 12 h rfl rfl,rfl,s⟩
 ·intro f9 w2 vl1 E9 lst9 hlo hlc hlz hs9 hd9 hl hF hR9 s
  have h:=cb [(10,_),(12,_)] h hs9 hd9 ⟨aS hl 10 5 (by kernel_rfl) (hF 5 (by decide)),aS hl 12 7 (by kernel_rfl) (hF 7 (by decide)),trivial⟩
  have hml:=(s.getG 4 rfl).ml
  refine bB h s V5 (Lk X.M vl a.n _ hml (by omega)) rfl rfl ?_;rintro f w1 v13 ⟨vx,rfl,hT⟩ hE h sq;replace s:=s.sl_new hE hT
  obtain ⟨a9,c9,rfl⟩:=cP (s.getSl 0 rfl)
  exact aw ⟨_,aV 13 h rfl rfl,rfl,s⟩
 ·intro f9 w2 vl1 E9 lst9 hlo hlc hlz hs9 hd9 hl hF hR9 s
  have h:=cb [(13,.tuple #[.agg #[(eL (vl1 8)),.int .i64 (dP X.M a.n).last,.int .i64 (dP X.M a.n).now],.int .i64 (fG X.M a.n)])] h hs9 hd9 ⟨aS hl 13 8 (by kernel_rfl) (hF 8 (by decide)),trivial⟩
  refine al ac 1 h rfl λf h=>aw ⟨_,aV 14 h rfl rfl,rfl,s⟩
 ·intro f9 w2 vl1 E9 lst9 hlo hlc hlz hs9 hd9 hl hF hR9 s
  have h:=cb [(13,.tuple #[.agg #[(eL (vl1 8)),.int .i64 (dP X.M a.n).last,.int .i64 (dP X.M a.n).now],.int .i64 (fG X.M a.n)])] h hs9 hd9 ⟨aS hl 13 8 (by kernel_rfl) (hF 8 (by decide)),trivial⟩
  refine al ac 1 h rfl λf h=>aw ⟨_,aV 15 h rfl rfl,rfl,s⟩
 ·intro f9 w2 vl1 E9 lst9 hlo hlc hlz hs9 hd9 hl hF hR9 s
  have h:=cb [(5,_),(14,.agg #[(eL (vl1 8)),.int .i64 (dP X.M a.n).last,.int .i64 (dP X.M a.n).now]),(15,_)] h hs9 hd9 ⟨aS hl 5 0 (by kernel_rfl) (hF 0 (by decide)),aS hl 14 9 (by kernel_rfl) (hF 9 (by decide)),aS hl 15 10 (by kernel_rfl) (hF 10 (by decide)),trivial⟩
  replace s:St w0 (.blk bc (.cells (dZ vo vs vh vl X.M.last X.M.now vn) 83)::.blk b3 (.cells (bM a va) 36)::.sl vs 46 3 X.S.length (aR X.S)::.sl vh 66 5 X.H.length (aM X.H)::.sl vn 59 74 ([]:List Nt).length (aW ([]:List Nt))::(.grp kk (λw9=>RdC w9 vo vl X))::(B9++E9)) _:=s
  refine cF [.pointer (some ⟨bc,0,none⟩),.agg #[(eL (vl1 8)),.int .i64 (dP X.M a.n).last,.int .i64 (dP X.M a.n).now],.int .i64 (fG X.M a.n)] h CX (lH vo vs vh vl vn (eL (vl1 8)) X.M.last X.M.now (dP X.M a.n).last (dP X.M a.n).now bc _ (fG X.M a.n) _ _ s (lT _)) rfl rfl ?_;rintro f w1 v16 ⟨rfl,s⟩ h
  exact aw ⟨_,aV 16 h rfl rfl,rfl,s⟩
 ·intro f9 w2 vl1 E9 lst9 hlo hlc hlz hs9 hd9 hl hF hR9 s
  have h:=cb [(16,_)] h hs9 hd9 ⟨aS hl 16 11 (by kernel_rfl) (hF 11 (by decide)),trivial⟩
  refine al ac 1 h rfl λf h=>aw ⟨_,aV 4 h rfl rfl,rfl,s⟩
 intro f w1 vl1 hs9 hd9 hv hr hF s
 replace h:=kj (ops:=_) [(5,_),(6,_),(7,_),(8,_),(9,_),(10,_),(11,_),(12,_),(13,.tuple #[.agg #[(eL (vl1 8)),.int .i64 (dP X.M a.n).last,.int .i64 (dP X.M a.n).now],.int .i64 (fG X.M a.n)]),(14,.agg #[(eL (vl1 8)),.int .i64 (dP X.M a.n).last,.int .i64 (dP X.M a.n).now]),(15,_),(16,_),(4,_)] h hs9 hd9 hr ⟨(hv 0 5 rfl).trans (hF 0 rfl),(hv 1 6 rfl).trans (hF 1 rfl),(hv 2 7 rfl).trans (hF 2 rfl),(hv 3 8 rfl).trans (hF 3 rfl),(hv 4 9 rfl).trans (hF 4 rfl),(hv 5 10 rfl).trans (hF 5 rfl),(hv 6 11 rfl).trans (hF 6 rfl),(hv 7 12 rfl).trans (hF 7 rfl),(hv 8 13 rfl).trans (hF 8 rfl),(hv 9 14 rfl).trans (hF 9 rfl),(hv 10 15 rfl).trans (hF 10 rfl),(hv 11 16 rfl).trans (hF 11 rfl),(hv 12 4 rfl).trans (hF 12 rfl),trivial⟩ (by kernel_rfl)
 replace s:St w0 (.sl (eL (vl1 8)) 61 4 (dP X.M a.n).l.length (bw (dP X.M a.n).l)::.blk bc (.cells (dZ vo vs vh (eL (vl1 8)) (dP X.M a.n).last (dP X.M a.n).now vn) 83)::.blk b3 (.cells (bM a va) 36)::.sl vs 46 3 X.S.length (aR X.S)::.sl vh 66 5 X.H.length (aM X.H)::.sl vn 59 74 ([]:List Nt).length (aW ([]:List Nt))::(.grp kk (λw9=>RdC w9 vo vl X))::B9) _:=s
 refine aK (av8 (dG rfl h rfl (by replace s:=s.bring 5 rfl;replace s:=s.bring 5 rfl;replace s:=s.bring 5 rfl;replace s:=s.bring 4 rfl;replace s:=s.bring 6 rfl;replace s:=s.bring 5 rfl;exact ⟨_,rfl,xf (X:=X) (s.pick _ (ar2 _ (ar2 _ (ar2 _ (ar2 _ (ar2 _ (ar2 _ (ar3 _ (List.Sublist.refl _)))))))))⟩)))
set_option maxHeartbeats 1000000 in
theorem AH (vo vs vh vl vn:Value) (X:Wx) (kk:List Nat) (bc:Nat) (B9:List Own) (a:Ac) (va:Value)  (w0 w:World) (s:St w0 (.blk bc (.cells (dZ vo vs vh vl X.M.last X.M.now vn) 83)::.sl vs 46 3 X.S.length (aR X.S)::.sl vh 66 5 X.H.length (aM X.H)::.sl vn 59 74 ([]:List Nt).length (aW ([]:List Nt))::.grp kk (λw9=>RdC w9 vo vl X)::B9) w) (hbd:BdW (aH X)) (hU:∀ w9,St w0 B9 w9->gf w9 va a.l):Calls Tryz.prog 45 [.pointer (some ⟨bc,0,none⟩),.agg (bM a va)].toArray w (λe w9=>∃ v,e=.returned v/\Cf w0 bc 83 46 66 59 (xp (aH X) a.n) B9 v w9):=by
 have hbM:X.M.l.length<=100:=hbd.ml
 refine cO Tryz.func45 rfl Tryz.ntmps45 rfl [(0,.pointer (some ⟨bc,0,none⟩)),(1,.agg (bM a va))] (by simp) λf h=>?_
 refine qr (aZ (bM a va) h s rfl rfl rfl λf w1 b3 h s=>e9 ac 1 h rfl λf h=>ah ?_)
 replace s:=s.bring 1 rfl
 replace s:St w0 (.blk bc (.cells (dZ vo vs vh vl X.M.last X.M.now vn) 83)::.blk b3 (.cells (bM a va) 36)::.sl vs 46 3 X.S.length (aR X.S)::.sl vh 66 5 X.H.length (aM X.H)::.sl vn 59 74 ([]:List Nt).length (aW ([]:List Nt))::(.grp kk (λw9=>RdC w9 vo vl X))::B9) _:=s
 refine oU 1 [[],[],[1],[1,2],[1,2,3],[1,2,3,4],[],[6],[1,2,3,4,5,6,7],[1,2,3,4,5,6,7,8],[1,2,3,4,5,6,7,8],[0,1,2,3,4,5,6,7,8,9,10],[0,1,2,3,4,5,6,7,8,9,10,11]] [[],[],[],[],[],[],[],[],[],[],[],[13],[]] [[],[],[],[],[],[0],[],[],[],[],[],[],[]] [[_]] [.v (.pointer (some ⟨bc,0,none⟩)),.v (.pointer (some ⟨bc,0,none⟩)),.v (.pointer (some ⟨bc,0,none⟩)),.v (.pointer (some ⟨bc,0,none⟩)),.v (.pointer (some ⟨bc,3,none⟩)),.v (.agg #[vl,.int .i64 X.M.last,.int .i64 X.M.now]),.v (.pointer (some ⟨b3,3,none⟩)),.v (.int .i64 a.n),.r (λv=>[.sl (eL (v 8)) 61 4 (l8 X.M a.n).l.length (bw (l8 X.M a.n).l)]) (λv=>v 8=.tuple #[.agg #[(eL (v 8)),.int .i64 (l8 X.M a.n).last,.int .i64 (l8 X.M a.n).now],.int .i64 (tj X.M a.n)]),.f (λv=>v 9=.agg #[(eL (v 8)),.int .i64 (l8 X.M a.n).last,.int .i64 (l8 X.M a.n).now]),.v (.int .i64 (tj X.M a.n)),.w (λv=>[.blk bc (.cells (dZ vo vs vh (eL (v 8)) (l8 X.M a.n).last (l8 X.M a.n).now vn) 83)]) (.int .i64 (tj X.M a.n)),.v (.int .i64 (tj X.M a.n))] (λ_ _=>[]) _ h s rfl (by kernel_rfl) (by kernel_rfl) (by kernel_rfl) (by kernel_rfl) (bW ?_ (bW ?_ (bW ?_ (bW ?_ (bW ?_ (bW ?_ (bW ?_ (bW ?_ (bW ?_ (bW ?_ (bW ?_ (bW ?_ (bW ?_ (trivial)))))))))))))) [0,1,2,3,4,5,6,7,8,9,10,11,12] (by kernel_rfl) ?_
 ·intro f9 w2 vl1 E9 lst9 hlo hlc hlz hs9 hd9 hl hF hR9 s
  have h:=cb [(0,_)] h hs9 hd9 ⟨d5 hl 0 (by kernel_rfl) (h.holds 0 _ rfl),trivial⟩
  refine al ac 1 h rfl λf h=>aw ⟨_,aV 5 h rfl rfl,rfl,s⟩
 ·intro f9 w2 vl1 E9 lst9 hlo hlc hlz hs9 hd9 hl hF hR9 s
  have h:=cb [(0,_)] h hs9 hd9 ⟨d5 hl 0 (by kernel_rfl) (h.holds 0 _ rfl),trivial⟩
  refine al ac 1 h rfl λf h=>aw ⟨_,aV 6 h rfl rfl,rfl,s⟩
 ·intro f9 w2 vl1 E9 lst9 hlo hlc hlz hs9 hd9 hl hF hR9 s
  have h:=cb [(6,_)] h hs9 hd9 ⟨aS hl 6 1 (by kernel_rfl) (hF 1 (by decide)),trivial⟩
  refine al ac 1 h rfl λf h=>aw ⟨_,aV 7 h rfl rfl,rfl,s⟩
 ·intro f9 w2 vl1 E9 lst9 hlo hlc hlz hs9 hd9 hl hF hR9 s
  have h:=cb [(7,_)] h hs9 hd9 ⟨aS hl 7 2 (by kernel_rfl) (hF 2 (by decide)),trivial⟩
  refine al ac 1 h rfl λf h=>aw ⟨_,aV 8 h rfl rfl,rfl,s⟩
 ·intro f9 w2 vl1 E9 lst9 hlo hlc hlz hs9 hd9 hl hF hR9 s
  have h:=cb [(8,_)] h hs9 hd9 ⟨aS hl 8 3 (by kernel_rfl) (hF 3 (by decide)),trivial⟩
  refine al ac 1 h rfl λf h=>aw ⟨_,aV 9 h rfl rfl,rfl,s⟩
 ·intro f9 w2 vl1 E9 lst9 hlo hlc hlz hs9 hd9 hl hF hR9 s
  have hq9:Own.blk bc (.cells (dZ vo vs vh vl X.M.last X.M.now vn) 83)∈E9:=hR9 0 (by decide) _ at0
  have h:=cb [(9,_)] h hs9 hd9 ⟨aS hl 9 4 (by kernel_rfl) (hF 4 (by decide)),trivial⟩
  have hq8:Own.blk bc (.cells (dZ vo vs vh vl X.M.last X.M.now vn) 83)∈(.blk b3 (.cells (bM a va) 36)::.sl vs 46 3 X.S.length (aR X.S)::.sl vh 66 5 X.H.length (aM X.H)::.sl vn 59 74 ([]:List Nt).length (aW ([]:List Nt))::(.grp kk (λw9=>RdC w9 vo vl X))::(B9++E9)):=by simp only [at1,av4,hq9,or_true]
  refine az (aF.subL (aF.of_mem s hq8) 3 3 (D:=#[vl,.int .i64 X.M.last,.int .i64 X.M.now]) (IF _ _ _ _ _ _ _)) h bV rfl (rfl) rfl λf h=>aw ⟨_,aV 10 h rfl rfl,rfl,s⟩
 ·intro f9 w2 vl1 E9 lst9 hlo hlc hlz hs9 hd9 hl hF hR9 s
  have h:=cb [(3,_)] h hs9 hd9 ⟨d5 hl 3 (by kernel_rfl) (h.holds 3 _ rfl),trivial⟩
  refine al ac 1 h rfl λf h=>aw ⟨_,aV 11 h rfl rfl,rfl,s⟩
 ·intro f9 w2 vl1 E9 lst9 hlo hlc hlz hs9 hd9 hl hF hR9 s
  have h:=cb [(11,_)] h hs9 hd9 ⟨aS hl 11 6 (by kernel_rfl) (hF 6 (by decide)),trivial⟩
  refine ag (V:=.int .i64 a.n) (ae (aF.of_own s 0 rfl) 3 (Pd _ _)) h bu rfl rfl λf h=>aw ⟨_,aV 12 h rfl rfl,rfl,s⟩
 ·intro f9 w2 vl1 E9 lst9 hlo hlc hlz hs9 hd9 hl hF hR9 s
  have h:=cb [(10,_),(12,_)] h hs9 hd9 ⟨aS hl 10 5 (by kernel_rfl) (hF 5 (by decide)),aS hl 12 7 (by kernel_rfl) (hF 7 (by decide)),trivial⟩
  have hml:=(s.getG 4 rfl).ml
  refine bB h s Y2 (Fw X.M vl a.n _ hml (by omega)) rfl rfl ?_;rintro f w1 v13 ⟨vx,rfl,hT⟩ hE h sq;replace s:=s.sl_new hE hT
  obtain ⟨a9,c9,rfl⟩:=cP (s.getSl 0 rfl)
  exact aw ⟨_,aV 13 h rfl rfl,rfl,s⟩
 ·intro f9 w2 vl1 E9 lst9 hlo hlc hlz hs9 hd9 hl hF hR9 s
  have h:=cb [(13,.tuple #[.agg #[(eL (vl1 8)),.int .i64 (l8 X.M a.n).last,.int .i64 (l8 X.M a.n).now],.int .i64 (tj X.M a.n)])] h hs9 hd9 ⟨aS hl 13 8 (by kernel_rfl) (hF 8 (by decide)),trivial⟩
  refine al ac 1 h rfl λf h=>aw ⟨_,aV 14 h rfl rfl,rfl,s⟩
 ·intro f9 w2 vl1 E9 lst9 hlo hlc hlz hs9 hd9 hl hF hR9 s
  have h:=cb [(13,.tuple #[.agg #[(eL (vl1 8)),.int .i64 (l8 X.M a.n).last,.int .i64 (l8 X.M a.n).now],.int .i64 (tj X.M a.n)])] h hs9 hd9 ⟨aS hl 13 8 (by kernel_rfl) (hF 8 (by decide)),trivial⟩
  refine al ac 1 h rfl λf h=>aw ⟨_,aV 15 h rfl rfl,rfl,s⟩
 ·intro f9 w2 vl1 E9 lst9 hlo hlc hlz hs9 hd9 hl hF hR9 s
  have h:=cb [(5,_),(14,.agg #[(eL (vl1 8)),.int .i64 (l8 X.M a.n).last,.int .i64 (l8 X.M a.n).now]),(15,_)] h hs9 hd9 ⟨aS hl 5 0 (by kernel_rfl) (hF 0 (by decide)),aS hl 14 9 (by kernel_rfl) (hF 9 (by decide)),aS hl 15 10 (by kernel_rfl) (hF 10 (by decide)),trivial⟩
  replace s:St w0 (.blk bc (.cells (dZ vo vs vh vl X.M.last X.M.now vn) 83)::.blk b3 (.cells (bM a va) 36)::.sl vs 46 3 X.S.length (aR X.S)::.sl vh 66 5 X.H.length (aM X.H)::.sl vn 59 74 ([]:List Nt).length (aW ([]:List Nt))::(.grp kk (λw9=>RdC w9 vo vl X))::(B9++E9)) _:=s
  refine cF [.pointer (some ⟨bc,0,none⟩),.agg #[(eL (vl1 8)),.int .i64 (l8 X.M a.n).last,.int .i64 (l8 X.M a.n).now],.int .i64 (tj X.M a.n)] h CX (lH vo vs vh vl vn (eL (vl1 8)) X.M.last X.M.now (l8 X.M a.n).last (l8 X.M a.n).now bc _ (tj X.M a.n) _ _ s (lT _)) rfl rfl ?_;rintro f w1 v16 ⟨rfl,s⟩ h
  exact aw ⟨_,aV 16 h rfl rfl,rfl,s⟩
 ·intro f9 w2 vl1 E9 lst9 hlo hlc hlz hs9 hd9 hl hF hR9 s
  have h:=cb [(16,_)] h hs9 hd9 ⟨aS hl 16 11 (by kernel_rfl) (hF 11 (by decide)),trivial⟩
  refine al ac 1 h rfl λf h=>aw ⟨_,aV 4 h rfl rfl,rfl,s⟩
 intro f w1 vl1 hs9 hd9 hv hr hF s
 replace h:=kj (ops:=_) [(5,_),(6,_),(7,_),(8,_),(9,_),(10,_),(11,_),(12,_),(13,.tuple #[.agg #[(eL (vl1 8)),.int .i64 (l8 X.M a.n).last,.int .i64 (l8 X.M a.n).now],.int .i64 (tj X.M a.n)]),(14,.agg #[(eL (vl1 8)),.int .i64 (l8 X.M a.n).last,.int .i64 (l8 X.M a.n).now]),(15,_),(16,_),(4,_)] h hs9 hd9 hr ⟨(hv 0 5 rfl).trans (hF 0 rfl),(hv 1 6 rfl).trans (hF 1 rfl),(hv 2 7 rfl).trans (hF 2 rfl),(hv 3 8 rfl).trans (hF 3 rfl),(hv 4 9 rfl).trans (hF 4 rfl),(hv 5 10 rfl).trans (hF 5 rfl),(hv 6 11 rfl).trans (hF 6 rfl),(hv 7 12 rfl).trans (hF 7 rfl),(hv 8 13 rfl).trans (hF 8 rfl),(hv 9 14 rfl).trans (hF 9 rfl),(hv 10 15 rfl).trans (hF 10 rfl),(hv 11 16 rfl).trans (hF 11 rfl),(hv 12 4 rfl).trans (hF 12 rfl),trivial⟩ (by kernel_rfl)
 replace s:St w0 (.sl (eL (vl1 8)) 61 4 (l8 X.M a.n).l.length (bw (l8 X.M a.n).l)::.blk bc (.cells (dZ vo vs vh (eL (vl1 8)) (l8 X.M a.n).last (l8 X.M a.n).now vn) 83)::.blk b3 (.cells (bM a va) 36)::.sl vs 46 3 X.S.length (aR X.S)::.sl vh 66 5 X.H.length (aM X.H)::.sl vn 59 74 ([]:List Nt).length (aW ([]:List Nt))::(.grp kk (λw9=>RdC w9 vo vl X))::B9) _:=s
 refine aK (av8 (dG rfl h rfl (by replace s:=s.bring 5 rfl;replace s:=s.bring 5 rfl;replace s:=s.bring 5 rfl;replace s:=s.bring 4 rfl;replace s:=s.bring 6 rfl;replace s:=s.bring 5 rfl;exact ⟨_,rfl,xf (X:=X) (s.pick _ (ar2 _ (ar2 _ (ar2 _ (ar2 _ (ar2 _ (ar2 _ (ar3 _ (List.Sublist.refl _)))))))))⟩)))
set_option maxHeartbeats 1000000 in
theorem Cc (vo vs vh vl vn:Value) (X:Wx) (kk:List Nat) (bc:Nat) (B9:List Own) (a:Ac) (va:Value)  (w0 w:World) (s:St w0 (.blk bc (.cells (dZ vo vs vh vl X.M.last X.M.now vn) 83)::.sl vs 46 3 X.S.length (aR X.S)::.sl vh 66 5 X.H.length (aM X.H)::.sl vn 59 74 ([]:List Nt).length (aW ([]:List Nt))::.grp kk (λw9=>RdC w9 vo vl X)::B9) w) (hbd:BdW (aH X)) (hU:∀ w9,St w0 B9 w9->gf w9 va a.l):Calls Tryz.prog 46 [.pointer (some ⟨bc,0,none⟩),.agg (bM a va)].toArray w (λe w9=>∃ v,e=.returned v/\Cf w0 bc 83 46 66 59 (wj (aH X) a.n) B9 v w9):=by
 have hbM:X.M.l.length<=100:=hbd.ml
 refine cO Tryz.func46 rfl Tryz.ntmps46 rfl [(0,.pointer (some ⟨bc,0,none⟩)),(1,.agg (bM a va))] (by simp) λf h=>?_
 refine qr (aZ (bM a va) h s rfl rfl rfl λf w1 b3 h s=>e9 ac 1 h rfl λf h=>ah ?_)
 replace s:=s.bring 1 rfl
 replace s:St w0 (.blk bc (.cells (dZ vo vs vh vl X.M.last X.M.now vn) 83)::.blk b3 (.cells (bM a va) 36)::.sl vs 46 3 X.S.length (aR X.S)::.sl vh 66 5 X.H.length (aM X.H)::.sl vn 59 74 ([]:List Nt).length (aW ([]:List Nt))::(.grp kk (λw9=>RdC w9 vo vl X))::B9) _:=s
 refine oU 1 [[],[],[1],[1,2],[1,2,3],[1,2,3,4],[],[6],[1,2,3,4,5,6,7],[1,2,3,4,5,6,7,8],[1,2,3,4,5,6,7,8],[0,1,2,3,4,5,6,7,8,9,10],[0,1,2,3,4,5,6,7,8,9,10,11]] [[],[],[],[],[],[],[],[],[],[],[],[13],[]] [[],[],[],[],[],[0],[],[],[],[],[],[],[]] [[_]] [.v (.pointer (some ⟨bc,0,none⟩)),.v (.pointer (some ⟨bc,0,none⟩)),.v (.pointer (some ⟨bc,0,none⟩)),.v (.pointer (some ⟨bc,0,none⟩)),.v (.pointer (some ⟨bc,3,none⟩)),.v (.agg #[vl,.int .i64 X.M.last,.int .i64 X.M.now]),.v (.pointer (some ⟨b3,3,none⟩)),.v (.int .i64 a.n),.r (λv=>[.sl (eL (v 8)) 61 4 (dB X.M a.n).l.length (bw (dB X.M a.n).l)]) (λv=>v 8=.tuple #[.agg #[(eL (v 8)),.int .i64 (dB X.M a.n).last,.int .i64 (dB X.M a.n).now],.int .i64 (fO X.M a.n)]),.f (λv=>v 9=.agg #[(eL (v 8)),.int .i64 (dB X.M a.n).last,.int .i64 (dB X.M a.n).now]),.v (.int .i64 (fO X.M a.n)),.w (λv=>[.blk bc (.cells (dZ vo vs vh (eL (v 8)) (dB X.M a.n).last (dB X.M a.n).now vn) 83)]) (.int .i64 (fO X.M a.n)),.v (.int .i64 (fO X.M a.n))] (λ_ _=>[]) _ h s rfl (by kernel_rfl) (by kernel_rfl) (by kernel_rfl) (by kernel_rfl) (bW ?_ (bW ?_ (bW ?_ (bW ?_ (bW ?_ (bW ?_ (bW ?_ (bW ?_ (bW ?_ (bW ?_ (bW ?_ (bW ?_ (bW ?_ (trivial)))))))))))))) [0,1,2,3,4,5,6,7,8,9,10,11,12] (by kernel_rfl) ?_
 ·intro f9 w2 vl1 E9 lst9 hlo hlc hlz hs9 hd9 hl hF hR9 s
  have h:=cb [(0,_)] h hs9 hd9 ⟨d5 hl 0 (by kernel_rfl) (h.holds 0 _ rfl),trivial⟩
  refine al ac 1 h rfl λf h=>aw ⟨_,aV 5 h rfl rfl,rfl,s⟩
 ·intro f9 w2 vl1 E9 lst9 hlo hlc hlz hs9 hd9 hl hF hR9 s
  have h:=cb [(0,_)] h hs9 hd9 ⟨d5 hl 0 (by kernel_rfl) (h.holds 0 _ rfl),trivial⟩
  refine al ac 1 h rfl λf h=>aw ⟨_,aV 6 h rfl rfl,rfl,s⟩
 ·intro f9 w2 vl1 E9 lst9 hlo hlc hlz hs9 hd9 hl hF hR9 s
  have h:=cb [(6,_)] h hs9 hd9 ⟨aS hl 6 1 (by kernel_rfl) (hF 1 (by decide)),trivial⟩
  refine al ac 1 h rfl λf h=>aw ⟨_,aV 7 h rfl rfl,rfl,s⟩
 ·intro f9 w2 vl1 E9 lst9 hlo hlc hlz hs9 hd9 hl hF hR9 s
  have h:=cb [(7,_)] h hs9 hd9 ⟨aS hl 7 2 (by kernel_rfl) (hF 2 (by decide)),trivial⟩
  refine al ac 1 h rfl λf h=>aw ⟨_,aV 8 h rfl rfl,rfl,s⟩
 ·intro f9 w2 vl1 E9 lst9 hlo hlc hlz hs9 hd9 hl hF hR9 s
  have h:=cb [(8,_)] h hs9 hd9 ⟨aS hl 8 3 (by kernel_rfl) (hF 3 (by decide)),trivial⟩
  refine al ac 1 h rfl λf h=>aw ⟨_,aV 9 h rfl rfl,rfl,s⟩
 ·intro f9 w2 vl1 E9 lst9 hlo hlc hlz hs9 hd9 hl hF hR9 s
  have hq9:Own.blk bc (.cells (dZ vo vs vh vl X.M.last X.M.now vn) 83)∈E9:=hR9 0 (by decide) _ at0
  have h:=cb [(9,_)] h hs9 hd9 ⟨aS hl 9 4 (by kernel_rfl) (hF 4 (by decide)),trivial⟩
  have hq8:Own.blk bc (.cells (dZ vo vs vh vl X.M.last X.M.now vn) 83)∈(.blk b3 (.cells (bM a va) 36)::.sl vs 46 3 X.S.length (aR X.S)::.sl vh 66 5 X.H.length (aM X.H)::.sl vn 59 74 ([]:List Nt).length (aW ([]:List Nt))::(.grp kk (λw9=>RdC w9 vo vl X))::(B9++E9)):=by simp only [at1,av4,hq9,or_true]
  refine az (aF.subL (aF.of_mem s hq8) 3 3 (D:=#[vl,.int .i64 X.M.last,.int .i64 X.M.now]) (IF _ _ _ _ _ _ _)) h bV rfl (rfl) rfl λf h=>aw ⟨_,aV 10 h rfl rfl,rfl,s⟩
 ·intro f9 w2 vl1 E9 lst9 hlo hlc hlz hs9 hd9 hl hF hR9 s
  have h:=cb [(3,_)] h hs9 hd9 ⟨d5 hl 3 (by kernel_rfl) (h.holds 3 _ rfl),trivial⟩
  refine al ac 1 h rfl λf h=>aw ⟨_,aV 11 h rfl rfl,rfl,s⟩
 ·intro f9 w2 vl1 E9 lst9 hlo hlc hlz hs9 hd9 hl hF hR9 s
  have h:=cb [(11,_)] h hs9 hd9 ⟨aS hl 11 6 (by kernel_rfl) (hF 6 (by decide)),trivial⟩
  refine ag (V:=.int .i64 a.n) (ae (aF.of_own s 0 rfl) 3 (Pd _ _)) h bu rfl rfl λf h=>aw ⟨_,aV 12 h rfl rfl,rfl,s⟩
 ·intro f9 w2 vl1 E9 lst9 hlo hlc hlz hs9 hd9 hl hF hR9 s
  have h:=cb [(10,_),(12,_)] h hs9 hd9 ⟨aS hl 10 5 (by kernel_rfl) (hF 5 (by decide)),aS hl 12 7 (by kernel_rfl) (hF 7 (by decide)),trivial⟩
  have hml:=(s.getG 4 rfl).ml
  refine bB h s SZ (HY X.M vl a.n _ hml (by omega)) rfl rfl ?_;rintro f w1 v13 ⟨vx,rfl,hT⟩ hE h sq;replace s:=s.sl_new hE hT
  obtain ⟨a9,c9,rfl⟩:=cP (s.getSl 0 rfl)
  exact aw ⟨_,aV 13 h rfl rfl,rfl,s⟩
 ·intro f9 w2 vl1 E9 lst9 hlo hlc hlz hs9 hd9 hl hF hR9 s
  have h:=cb [(13,.tuple #[.agg #[(eL (vl1 8)),.int .i64 (dB X.M a.n).last,.int .i64 (dB X.M a.n).now],.int .i64 (fO X.M a.n)])] h hs9 hd9 ⟨aS hl 13 8 (by kernel_rfl) (hF 8 (by decide)),trivial⟩
  refine al ac 1 h rfl λf h=>aw ⟨_,aV 14 h rfl rfl,rfl,s⟩
 ·intro f9 w2 vl1 E9 lst9 hlo hlc hlz hs9 hd9 hl hF hR9 s
  have h:=cb [(13,.tuple #[.agg #[(eL (vl1 8)),.int .i64 (dB X.M a.n).last,.int .i64 (dB X.M a.n).now],.int .i64 (fO X.M a.n)])] h hs9 hd9 ⟨aS hl 13 8 (by kernel_rfl) (hF 8 (by decide)),trivial⟩
  refine al ac 1 h rfl λf h=>aw ⟨_,aV 15 h rfl rfl,rfl,s⟩
 ·intro f9 w2 vl1 E9 lst9 hlo hlc hlz hs9 hd9 hl hF hR9 s
  have h:=cb [(5,_),(14,.agg #[(eL (vl1 8)),.int .i64 (dB X.M a.n).last,.int .i64 (dB X.M a.n).now]),(15,_)] h hs9 hd9 ⟨aS hl 5 0 (by kernel_rfl) (hF 0 (by decide)),aS hl 14 9 (by kernel_rfl) (hF 9 (by decide)),aS hl 15 10 (by kernel_rfl) (hF 10 (by decide)),trivial⟩
  replace s:St w0 (.blk bc (.cells (dZ vo vs vh vl X.M.last X.M.now vn) 83)::.blk b3 (.cells (bM a va) 36)::.sl vs 46 3 X.S.length (aR X.S)::.sl vh 66 5 X.H.length (aM X.H)::.sl vn 59 74 ([]:List Nt).length (aW ([]:List Nt))::(.grp kk (λw9=>RdC w9 vo vl X))::(B9++E9)) _:=s
  refine cF [.pointer (some ⟨bc,0,none⟩),.agg #[(eL (vl1 8)),.int .i64 (dB X.M a.n).last,.int .i64 (dB X.M a.n).now],.int .i64 (fO X.M a.n)] h CX (lH vo vs vh vl vn (eL (vl1 8)) X.M.last X.M.now (dB X.M a.n).last (dB X.M a.n).now bc _ (fO X.M a.n) _ _ s (lT _)) rfl rfl ?_;rintro f w1 v16 ⟨rfl,s⟩ h
  exact aw ⟨_,aV 16 h rfl rfl,rfl,s⟩
 ·intro f9 w2 vl1 E9 lst9 hlo hlc hlz hs9 hd9 hl hF hR9 s
  have h:=cb [(16,_)] h hs9 hd9 ⟨aS hl 16 11 (by kernel_rfl) (hF 11 (by decide)),trivial⟩
  refine al ac 1 h rfl λf h=>aw ⟨_,aV 4 h rfl rfl,rfl,s⟩
 intro f w1 vl1 hs9 hd9 hv hr hF s
 replace h:=kj (ops:=_) [(5,_),(6,_),(7,_),(8,_),(9,_),(10,_),(11,_),(12,_),(13,.tuple #[.agg #[(eL (vl1 8)),.int .i64 (dB X.M a.n).last,.int .i64 (dB X.M a.n).now],.int .i64 (fO X.M a.n)]),(14,.agg #[(eL (vl1 8)),.int .i64 (dB X.M a.n).last,.int .i64 (dB X.M a.n).now]),(15,_),(16,_),(4,_)] h hs9 hd9 hr ⟨(hv 0 5 rfl).trans (hF 0 rfl),(hv 1 6 rfl).trans (hF 1 rfl),(hv 2 7 rfl).trans (hF 2 rfl),(hv 3 8 rfl).trans (hF 3 rfl),(hv 4 9 rfl).trans (hF 4 rfl),(hv 5 10 rfl).trans (hF 5 rfl),(hv 6 11 rfl).trans (hF 6 rfl),(hv 7 12 rfl).trans (hF 7 rfl),(hv 8 13 rfl).trans (hF 8 rfl),(hv 9 14 rfl).trans (hF 9 rfl),(hv 10 15 rfl).trans (hF 10 rfl),(hv 11 16 rfl).trans (hF 11 rfl),(hv 12 4 rfl).trans (hF 12 rfl),trivial⟩ (by kernel_rfl)
 replace s:St w0 (.sl (eL (vl1 8)) 61 4 (dB X.M a.n).l.length (bw (dB X.M a.n).l)::.blk bc (.cells (dZ vo vs vh (eL (vl1 8)) (dB X.M a.n).last (dB X.M a.n).now vn) 83)::.blk b3 (.cells (bM a va) 36)::.sl vs 46 3 X.S.length (aR X.S)::.sl vh 66 5 X.H.length (aM X.H)::.sl vn 59 74 ([]:List Nt).length (aW ([]:List Nt))::(.grp kk (λw9=>RdC w9 vo vl X))::B9) _:=s
 refine aK (av8 (dG rfl h rfl (by replace s:=s.bring 5 rfl;replace s:=s.bring 5 rfl;replace s:=s.bring 5 rfl;replace s:=s.bring 4 rfl;replace s:=s.bring 6 rfl;replace s:=s.bring 5 rfl;exact ⟨_,rfl,xf (X:=X) (s.pick _ (ar2 _ (ar2 _ (ar2 _ (ar2 _ (ar2 _ (ar2 _ (ar3 _ (List.Sublist.refl _)))))))))⟩)))
set_option maxHeartbeats 1000000 in
theorem BW (vo vs vh vl vn:Value) (X:Wx) (kk:List Nat) (bc:Nat) (B9:List Own) (a:Ac) (va:Value)  (w0 w:World) (s:St w0 (.blk bc (.cells (dZ vo vs vh vl X.M.last X.M.now vn) 83)::.sl vs 46 3 X.S.length (aR X.S)::.sl vh 66 5 X.H.length (aM X.H)::.sl vn 59 74 ([]:List Nt).length (aW ([]:List Nt))::.grp kk (λw9=>RdC w9 vo vl X)::B9) w) (hbd:BdW (aH X)) (hU:∀ w9,St w0 B9 w9->gf w9 va a.l):Calls Tryz.prog 47 [.pointer (some ⟨bc,0,none⟩),.agg (bM a va)].toArray w (λe w9=>∃ v,e=.returned v/\Cf w0 bc 83 46 66 59 (vP (aH X) a.n) B9 v w9):=by
 have hbM:X.M.l.length<=100:=hbd.ml
 refine cO Tryz.func47 rfl Tryz.ntmps47 rfl [(0,.pointer (some ⟨bc,0,none⟩)),(1,.agg (bM a va))] (by simp) λf h=>?_
 refine qr (aZ (bM a va) h s rfl rfl rfl λf w1 b3 h s=>e9 ac 1 h rfl λf h=>ah ?_)
 replace s:=s.bring 1 rfl
 replace s:St w0 (.blk bc (.cells (dZ vo vs vh vl X.M.last X.M.now vn) 83)::.blk b3 (.cells (bM a va) 36)::.sl vs 46 3 X.S.length (aR X.S)::.sl vh 66 5 X.H.length (aM X.H)::.sl vn 59 74 ([]:List Nt).length (aW ([]:List Nt))::(.grp kk (λw9=>RdC w9 vo vl X))::B9) _:=s
 refine oU 1 [[],[],[1],[1,2],[1,2,3],[1,2,3,4],[],[6],[1,2,3,4,5,6,7],[1,2,3,4,5,6,7,8],[1,2,3,4,5,6,7,8],[0,1,2,3,4,5,6,7,8,9,10],[0,1,2,3,4,5,6,7,8,9,10,11]] [[],[],[],[],[],[],[],[],[],[],[],[13],[]] [[],[],[],[],[],[0],[],[],[],[],[],[],[]] [[_]] [.v (.pointer (some ⟨bc,0,none⟩)),.v (.pointer (some ⟨bc,0,none⟩)),.v (.pointer (some ⟨bc,0,none⟩)),.v (.pointer (some ⟨bc,0,none⟩)),.v (.pointer (some ⟨bc,3,none⟩)),.v (.agg #[vl,.int .i64 X.M.last,.int .i64 X.M.now]),.v (.pointer (some ⟨b3,3,none⟩)),.v (.int .i64 a.n),.r (λv=>[.sl (eL (v 8)) 61 4 (d7 X.M a.n).l.length (bw (d7 X.M a.n).l)]) (λv=>v 8=.tuple #[.agg #[(eL (v 8)),.int .i64 (d7 X.M a.n).last,.int .i64 (d7 X.M a.n).now],.int .i64 (fO X.M a.n)]),.f (λv=>v 9=.agg #[(eL (v 8)),.int .i64 (d7 X.M a.n).last,.int .i64 (d7 X.M a.n).now]),.v (.int .i64 (fO X.M a.n)),.w (λv=>[.blk bc (.cells (dZ vo vs vh (eL (v 8)) (d7 X.M a.n).last (d7 X.M a.n).now vn) 83)]) (.int .i64 (fO X.M a.n)),.v (.int .i64 (fO X.M a.n))] (λ_ _=>[]) _ h s rfl (by kernel_rfl) (by kernel_rfl) (by kernel_rfl) (by kernel_rfl) (bW ?_ (bW ?_ (bW ?_ (bW ?_ (bW ?_ (bW ?_ (bW ?_ (bW ?_ (bW ?_ (bW ?_ (bW ?_ (bW ?_ (bW ?_ (trivial)))))))))))))) [0,1,2,3,4,5,6,7,8,9,10,11,12] (by kernel_rfl) ?_
 ·intro f9 w2 vl1 E9 lst9 hlo hlc hlz hs9 hd9 hl hF hR9 s
  have h:=cb [(0,_)] h hs9 hd9 ⟨d5 hl 0 (by kernel_rfl) (h.holds 0 _ rfl),trivial⟩
  refine al ac 1 h rfl λf h=>aw ⟨_,aV 5 h rfl rfl,rfl,s⟩
 ·intro f9 w2 vl1 E9 lst9 hlo hlc hlz hs9 hd9 hl hF hR9 s
  have h:=cb [(0,_)] h hs9 hd9 ⟨d5 hl 0 (by kernel_rfl) (h.holds 0 _ rfl),trivial⟩
  refine al ac 1 h rfl λf h=>aw ⟨_,aV 6 h rfl rfl,rfl,s⟩
 ·intro f9 w2 vl1 E9 lst9 hlo hlc hlz hs9 hd9 hl hF hR9 s
  have h:=cb [(6,_)] h hs9 hd9 ⟨aS hl 6 1 (by kernel_rfl) (hF 1 (by decide)),trivial⟩
  refine al ac 1 h rfl λf h=>aw ⟨_,aV 7 h rfl rfl,rfl,s⟩
 ·intro f9 w2 vl1 E9 lst9 hlo hlc hlz hs9 hd9 hl hF hR9 s
  have h:=cb [(7,_)] h hs9 hd9 ⟨aS hl 7 2 (by kernel_rfl) (hF 2 (by decide)),trivial⟩
  refine al ac 1 h rfl λf h=>aw ⟨_,aV 8 h rfl rfl,rfl,s⟩
 ·intro f9 w2 vl1 E9 lst9 hlo hlc hlz hs9 hd9 hl hF hR9 s
  have h:=cb [(8,_)] h hs9 hd9 ⟨aS hl 8 3 (by kernel_rfl) (hF 3 (by decide)),trivial⟩
  refine al ac 1 h rfl λf h=>aw ⟨_,aV 9 h rfl rfl,rfl,s⟩
 ·intro f9 w2 vl1 E9 lst9 hlo hlc hlz hs9 hd9 hl hF hR9 s
  have hq9:Own.blk bc (.cells (dZ vo vs vh vl X.M.last X.M.now vn) 83)∈E9:=hR9 0 (by decide) _ at0
  have h:=cb [(9,_)] h hs9 hd9 ⟨aS hl 9 4 (by kernel_rfl) (hF 4 (by decide)),trivial⟩
  have hq8:Own.blk bc (.cells (dZ vo vs vh vl X.M.last X.M.now vn) 83)∈(.blk b3 (.cells (bM a va) 36)::.sl vs 46 3 X.S.length (aR X.S)::.sl vh 66 5 X.H.length (aM X.H)::.sl vn 59 74 ([]:List Nt).length (aW ([]:List Nt))::(.grp kk (λw9=>RdC w9 vo vl X))::(B9++E9)):=by simp only [at1,av4,hq9,or_true]
  refine az (aF.subL (aF.of_mem s hq8) 3 3 (D:=#[vl,.int .i64 X.M.last,.int .i64 X.M.now]) (IF _ _ _ _ _ _ _)) h bV rfl (rfl) rfl λf h=>aw ⟨_,aV 10 h rfl rfl,rfl,s⟩
 ·intro f9 w2 vl1 E9 lst9 hlo hlc hlz hs9 hd9 hl hF hR9 s
  have h:=cb [(3,_)] h hs9 hd9 ⟨d5 hl 3 (by kernel_rfl) (h.holds 3 _ rfl),trivial⟩
  refine al ac 1 h rfl λf h=>aw ⟨_,aV 11 h rfl rfl,rfl,s⟩
 ·intro f9 w2 vl1 E9 lst9 hlo hlc hlz hs9 hd9 hl hF hR9 s
  have h:=cb [(11,_)] h hs9 hd9 ⟨aS hl 11 6 (by kernel_rfl) (hF 6 (by decide)),trivial⟩
  refine ag (V:=.int .i64 a.n) (ae (aF.of_own s 0 rfl) 3 (Pd _ _)) h bu rfl rfl λf h=>aw ⟨_,aV 12 h rfl rfl,rfl,s⟩
 ·intro f9 w2 vl1 E9 lst9 hlo hlc hlz hs9 hd9 hl hF hR9 s
  have h:=cb [(10,_),(12,_)] h hs9 hd9 ⟨aS hl 10 5 (by kernel_rfl) (hF 5 (by decide)),aS hl 12 7 (by kernel_rfl) (hF 7 (by decide)),trivial⟩
  have hml:=(s.getG 4 rfl).ml
  refine bB h s TI (IX X.M vl a.n _ hml (by omega)) rfl rfl ?_;rintro f w1 v13 ⟨vx,rfl,hT⟩ hE h sq;replace s:=s.sl_new hE hT
  obtain ⟨a9,c9,rfl⟩:=cP (s.getSl 0 rfl)
  exact aw ⟨_,aV 13 h rfl rfl,rfl,s⟩
 ·intro f9 w2 vl1 E9 lst9 hlo hlc hlz hs9 hd9 hl hF hR9 s
  have h:=cb [(13,.tuple #[.agg #[(eL (vl1 8)),.int .i64 (d7 X.M a.n).last,.int .i64 (d7 X.M a.n).now],.int .i64 (fO X.M a.n)])] h hs9 hd9 ⟨aS hl 13 8 (by kernel_rfl) (hF 8 (by decide)),trivial⟩
  refine al ac 1 h rfl λf h=>aw ⟨_,aV 14 h rfl rfl,rfl,s⟩
 ·intro f9 w2 vl1 E9 lst9 hlo hlc hlz hs9 hd9 hl hF hR9 s
  have h:=cb [(13,.tuple #[.agg #[(eL (vl1 8)),.int .i64 (d7 X.M a.n).last,.int .i64 (d7 X.M a.n).now],.int .i64 (fO X.M a.n)])] h hs9 hd9 ⟨aS hl 13 8 (by kernel_rfl) (hF 8 (by decide)),trivial⟩
  refine al ac 1 h rfl λf h=>aw ⟨_,aV 15 h rfl rfl,rfl,s⟩
 ·intro f9 w2 vl1 E9 lst9 hlo hlc hlz hs9 hd9 hl hF hR9 s
  have h:=cb [(5,_),(14,.agg #[(eL (vl1 8)),.int .i64 (d7 X.M a.n).last,.int .i64 (d7 X.M a.n).now]),(15,_)] h hs9 hd9 ⟨aS hl 5 0 (by kernel_rfl) (hF 0 (by decide)),aS hl 14 9 (by kernel_rfl) (hF 9 (by decide)),aS hl 15 10 (by kernel_rfl) (hF 10 (by decide)),trivial⟩
  replace s:St w0 (.blk bc (.cells (dZ vo vs vh vl X.M.last X.M.now vn) 83)::.blk b3 (.cells (bM a va) 36)::.sl vs 46 3 X.S.length (aR X.S)::.sl vh 66 5 X.H.length (aM X.H)::.sl vn 59 74 ([]:List Nt).length (aW ([]:List Nt))::(.grp kk (λw9=>RdC w9 vo vl X))::(B9++E9)) _:=s
  refine cF [.pointer (some ⟨bc,0,none⟩),.agg #[(eL (vl1 8)),.int .i64 (d7 X.M a.n).last,.int .i64 (d7 X.M a.n).now],.int .i64 (fO X.M a.n)] h CX (lH vo vs vh vl vn (eL (vl1 8)) X.M.last X.M.now (d7 X.M a.n).last (d7 X.M a.n).now bc _ (fO X.M a.n) _ _ s (lT _)) rfl rfl ?_;rintro f w1 v16 ⟨rfl,s⟩ h
  exact aw ⟨_,aV 16 h rfl rfl,rfl,s⟩
 ·intro f9 w2 vl1 E9 lst9 hlo hlc hlz hs9 hd9 hl hF hR9 s
  have h:=cb [(16,_)] h hs9 hd9 ⟨aS hl 16 11 (by kernel_rfl) (hF 11 (by decide)),trivial⟩
  refine al ac 1 h rfl λf h=>aw ⟨_,aV 4 h rfl rfl,rfl,s⟩
 intro f w1 vl1 hs9 hd9 hv hr hF s
 replace h:=kj (ops:=_) [(5,_),(6,_),(7,_),(8,_),(9,_),(10,_),(11,_),(12,_),(13,.tuple #[.agg #[(eL (vl1 8)),.int .i64 (d7 X.M a.n).last,.int .i64 (d7 X.M a.n).now],.int .i64 (fO X.M a.n)]),(14,.agg #[(eL (vl1 8)),.int .i64 (d7 X.M a.n).last,.int .i64 (d7 X.M a.n).now]),(15,_),(16,_),(4,_)] h hs9 hd9 hr ⟨(hv 0 5 rfl).trans (hF 0 rfl),(hv 1 6 rfl).trans (hF 1 rfl),(hv 2 7 rfl).trans (hF 2 rfl),(hv 3 8 rfl).trans (hF 3 rfl),(hv 4 9 rfl).trans (hF 4 rfl),(hv 5 10 rfl).trans (hF 5 rfl),(hv 6 11 rfl).trans (hF 6 rfl),(hv 7 12 rfl).trans (hF 7 rfl),(hv 8 13 rfl).trans (hF 8 rfl),(hv 9 14 rfl).trans (hF 9 rfl),(hv 10 15 rfl).trans (hF 10 rfl),(hv 11 16 rfl).trans (hF 11 rfl),(hv 12 4 rfl).trans (hF 12 rfl),trivial⟩ (by kernel_rfl)
 replace s:St w0 (.sl (eL (vl1 8)) 61 4 (d7 X.M a.n).l.length (bw (d7 X.M a.n).l)::.blk bc (.cells (dZ vo vs vh (eL (vl1 8)) (d7 X.M a.n).last (d7 X.M a.n).now vn) 83)::.blk b3 (.cells (bM a va) 36)::.sl vs 46 3 X.S.length (aR X.S)::.sl vh 66 5 X.H.length (aM X.H)::.sl vn 59 74 ([]:List Nt).length (aW ([]:List Nt))::(.grp kk (λw9=>RdC w9 vo vl X))::B9) _:=s
 refine aK (av8 (dG rfl h rfl (by replace s:=s.bring 5 rfl;replace s:=s.bring 5 rfl;replace s:=s.bring 5 rfl;replace s:=s.bring 4 rfl;replace s:=s.bring 6 rfl;replace s:=s.bring 5 rfl;exact ⟨_,rfl,xf (X:=X) (s.pick _ (ar2 _ (ar2 _ (ar2 _ (ar2 _ (ar2 _ (ar2 _ (ar3 _ (List.Sublist.refl _)))))))))⟩)))
end Go.Proofs.YtkhepdpfdhdlaaaGreatDoor
