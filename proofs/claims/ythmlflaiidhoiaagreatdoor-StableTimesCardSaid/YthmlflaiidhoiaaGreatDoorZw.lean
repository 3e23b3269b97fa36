/- Package world and what it stands on, so far as it is wanted: what each function answers. -/
import Derived.Test.YthmlflaiidhoiaaGreatDoorZt
import Derived.Test.YthmlflaiidhoiaaGreatDoorZu
import Derived.Test.YthmlflaiidhoiaaGreatDoorZn
import Derived.Test.YthmlflaiidhoiaaGreatDoorZc
import Derived.Test.YthmlflaiidhoiaaGreatDoorZi
import Derived.Test.YthmlflaiidhoiaaGreatDoorZr
set_option linter.unusedVariables false
set_option linter.unusedSimpArgs false
set_option linter.unusedSectionVars false
namespace Go.Proofs.YthmlflaiidhoiaaGreatDoor
open Go.RowKit
theorem Ji (Sx:List V2) (L:List N3) (vs vo:Value)  (w:World) (hS:a7 w vs 3 Sx.length (bM Sx)) (hT:∀ x∈Sx,ma w x.2 x.1.tb) (hO:qC w vo L) (hSb:∀ x∈Sx,x.1.tb.length<=1000) (hSl:Sx.length<=1000) (hL:L.length<=40):Calls Tryz.prog 27 [vs,.agg #[vo]].toArray w (bW w (is (.bool (oS Sx L)))):=by
 refine bG Tryz.func27 rfl Tryz.ntmps27 rfl λf h s=>qr (ba (#[vo]) h s rfl rfl rfl λf w1 b3 h s=>e9 ac 1 h rfl λf h=>ag (ag ?_))
 cases l0:(decide (Sx.length=L.length):Bool)
 ·refine rs ac 1 h rfl λf h=>cb h (hS.keep s.ext) aA2 rfl rfl λf h=>ap ac 1 h rfl λf h=>ai (V:=vo) (ah (aX.of_own s 0 rfl) 0 rfl) h iW rfl rfl λf h=>cb h (hO.1.keep s.ext) aA1 rfl rfl λf h=>jy ac h rfl (by have h9:=aq0 l0;simp;omega) λf h=>iz h rfl (bD ac 1 h rfl λf h=>rt (aA rfl h s rfl (by show _=_;rw [Tj (aq0 l0)])))
 ·refine rs ac 1 h rfl λf h=>cb h (hS.keep s.ext) aA2 rfl rfl λf h=>ap ac 1 h rfl λf h=>ai (V:=vo) (ah (aX.of_own s 0 rfl) 0 rfl) h iW rfl rfl λf h=>cb h (hO.1.keep s.ext) aA1 rfl rfl λf h=>jd ac h rfl (by have h9:=ap9 l0;simp;omega) λf h=>iA h rfl (ag (cw ac 1 h rfl λf h=>cb h (hS.keep s.ext) aA2 rfl rfl λf h=>e9 ac 1 h rfl λf h=>au4 (au6 (λnn aa ww=>∃ k:Nat,Sl 36 aa [(0,vs),(1,.agg #[vo]),(3,.pointer (some ⟨b3,0,none⟩)),(13,vs),(14,.int .i64 (Sx.length:Int)),(15,.int .i64 (k:Int))]/\St w [.blk b3 (.cells (#[vo]) 24)] ww/\nn=Sx.length - k/\k<=Sx.length/\∀ j,j<k->(cU (Sx.getD j dA).1 && decide ((Sx.getD j dA).1.no=(L.getD j z3).1.me.1))=true) (Sx.length - (0)) ⟨0,h.only ⟨rfl,rfl,rfl,rfl,rfl,aw rfl (by omega),trivial⟩,s.as ⟨rfl,trivial⟩,rfl,as3 _,λj hj=>ax7 hj (av6 _)⟩ ?_)))
  rintro _ f w1 ⟨k,h,s,hnn,hp0,hp1⟩
  refine bD ac 1 h rfl λf h=>ag (cZ h rfl (λhc=>?_) (λhc=>?_))
  ·refine kt (ag (au4 (cw ac 1 h rfl λf h=>?_)))
   have hkl:k<Sx.length:=by omega
   have hko:k<L.length:=by have:=ap9 l0;omega
   refine ak h (bj (hS.keep s.ext) (k) aA2 zu (h.ev rfl) (h.ev rfl) (by omega) (by omega)) rfl λf h=>ax ((hS.keep s.ext).el (k) (by omega) (by decide) (D:=gx (Sx.getD k dA).1.no (Sx.getD k dA).1.sec (Sx.getD k dA).2) (JB _ k hkl)) h oV rfl (dm _ _ _) rfl λf h=>aK (gx 0 ByteArray.empty aq) h s Cp rfl rfl λf w1 b6 h s=>ap ac 1 h rfl λf h=>am 0 h s oV rfl rfl rfl (dm _ _ _) (dm _ _ _) (nX _ _ (bJ ((hT _ (fO hkl)).keep s.ext))) λw1 s=>nt (ag ?_)
   cases s0:(cU (Sx.getD k dA).1:Bool)
   ·refine cK 15 h (by kernel_rfl) (aH 0 h s oV rfl rfl (dm _ _ _) rfl λf h=>bR h Jj (λw9 hE9=>bK (.bool false) (nS (Sx.getD k dA).1 (Sx.getD k dA).2 w9 ((hT _ (fO hkl)).keep (s.ext.trans hE9)) (hSb _ (fO hkl))) (aq3 Value.bool s0)) rfl rfl λf h=>aD ac 13 h rfl λf h=>bF s λw1 s=>iz h rfl (bD ac 1 h rfl λf h=>au3 (aY (aQ (aQ (aY (aQ (aA rfl h s rfl (by show _=_;rw [AS hkl (by rw [s0];rfl)])))))))))
   ·skip
    cases s1:(decide ((Sx.getD k dA).1.no=(L.getD k z3).1.me.1):Bool)
    ·refine cK 15 h (by kernel_rfl) (aH 0 h s oV rfl rfl (dm _ _ _) rfl λf h=>bR h Jj (λw9 hE9=>bK (.bool true) (nS (Sx.getD k dA).1 (Sx.getD k dA).2 w9 ((hT _ (fO hkl)).keep (s.ext.trans hE9)) (hSb _ (fO hkl))) (aq3 Value.bool s0)) rfl rfl λf h=>aD ac 3 h rfl λf h=>cj h rfl (bw (V:=.int .i64 (Sx.getD k dA).1.no) (ah (aX.of_own s 0 rfl) 0 (F5 _ _ _)) h bQ rfl rfl λf h=>aD ac 1 h rfl λf h=>cj h rfl (bw (V:=vo) (ah (aX.of_own s 1 rfl) 0 rfl) h iW rfl rfl λf h=>aD ac 1 h rfl λf h=>cj h rfl (aF h (bj (hO.1.keep s.ext) (k) aA1 uO (h.ev rfl) (h.ev rfl) (by omega) (by omega)) rfl λf h=>cj h rfl (aF h (a6 gn (h.ev rfl) ((hO.1.keep s.ext).some (by omega))) rfl λf h=>cj h rfl (aF h (a6 gS (h.ev rfl) ((hO.1.keep s.ext).some (by omega))) rfl λf h=>cj h rfl (bw (V:=.int .i64 (L.getD k z3).1.me.1) (dt (hO.1.keep s.ext) (k*68+0) (DN _ k hko)) h bQ rfl rfl λf h=>cj h rfl (ql ac h rfl (by simpa using s1) λf h=>aD ac 1 h rfl λf h=>bF s λw1 s=>iz h rfl (bD ac 1 h rfl λf h=>au3 (aY (aQ (aQ (aY (aQ (aA rfl h s rfl (by show _=_;rw [AS hkl (by rw [s0,s1];rfl)]))))))))))))))))
    ·refine cK 15 h (by kernel_rfl) (aH 0 h s oV rfl rfl (dm _ _ _) rfl λf h=>bR h Jj (λw9 hE9=>bK (.bool true) (nS (Sx.getD k dA).1 (Sx.getD k dA).2 w9 ((hT _ (fO hkl)).keep (s.ext.trans hE9)) (hSb _ (fO hkl))) (aq3 Value.bool s0)) rfl rfl λf h=>aD ac 3 h rfl λf h=>cj h rfl (bw (V:=.int .i64 (Sx.getD k dA).1.no) (ah (aX.of_own s 0 rfl) 0 (F5 _ _ _)) h bQ rfl rfl λf h=>aD ac 1 h rfl λf h=>cj h rfl (bw (V:=vo) (ah (aX.of_own s 1 rfl) 0 rfl) h iW rfl rfl λf h=>aD ac 1 h rfl λf h=>cj h rfl (aF h (bj (hO.1.keep s.ext) (k) aA1 uO (h.ev rfl) (h.ev rfl) (by omega) (by omega)) rfl λf h=>cj h rfl (aF h (a6 gn (h.ev rfl) ((hO.1.keep s.ext).some (by omega))) rfl λf h=>cj h rfl (aF h (a6 gS (h.ev rfl) ((hO.1.keep s.ext).some (by omega))) rfl λf h=>cj h rfl (bw (V:=.int .i64 (L.getD k z3).1.me.1) (dt (hO.1.keep s.ext) (k*68+0) (DN _ k hko)) h bQ rfl rfl λf h=>cj h rfl (sT ac h rfl (by simpa using s1) λf h=>aD ac 1 h rfl λf h=>bF s λw1 s=>tS h rfl (wpIn_skip (aW (aG (aC (ak h (bB (h.ev rfl) (h.ev rfl) (by omega)) rfl λf h=>e9 ac 1 h rfl λf h=>?_)))))))))))))
     exact ⟨_,by omega,⟨k+1,h.only ⟨rfl,rfl,rfl,rfl,rfl,aw rfl (by omega),trivial⟩,St.as (s.pick _ (ar8 [_] _)) ⟨rfl,trivial⟩,rfl,by omega,gM hp1 (by rw [s0,s1];rfl)⟩⟩
  ·refine au5 (aT (aT (bS (aG (bD ac 1 h rfl λf h=>au3 (aA rfl h s rfl (by show _=_;rw [Kx (ap9 l0) (λj hj=>hp1 j (by omega))])))))))
set_option maxHeartbeats 1000000 in
theorem lM (X:Wx) (vo vs vh vl:Value)  (w:World) (hX:RdW w vo vs vh vl X) (hb:BdW (aM X)):Calls Tryz.prog 12 [.agg (cY vo vs vh vl X.M.last X.M.now)].toArray w (bW w (is (.bool (bN (aM X))))):=by
 have hbM:X.M.l.length<=100:=hb.ml
 refine bG Tryz.func12 rfl Tryz.ntmps12 rfl λf h s=>qr (ba (cY vo vs vh vl X.M.last X.M.now) h s rfl rfl rfl λf w1 b1 h s=>e9 ac 1 h rfl λf h=>ag ?_)
 refine rs ac 1 h rfl λf h=>ax (aX.subL (aX.of_own s 0 rfl) 0 1 (D:=#[vo]) (LB _ _ _ _ _ _)) h cH rfl (rfl) rfl λf h=>fx h s XP (Gd X.L vo _ (hX.keep s.ext).ov hb.ox hb.oe) rfl rfl (λo0 f w1 h s=>?_) (λo0 f w1 h s=>?_)
 ·refine e9 ac 18 h rfl λf h=>au3 (aA rfl h s rfl (by show _=_;rw [Fi,o0];rfl))
 ·skip
  refine ap ac 2 h rfl λf h=>cg h rfl (ai (V:=vs) (ah (aX.of_own s 0 rfl) 1 (wK _ _ _ _ _ _)) h mV rfl rfl λf h=>ap ac 1 h rfl λf h=>cg h rfl (ax (aX.subL (aX.of_own s 0 rfl) 0 1 (D:=#[vo]) (LB _ _ _ _ _ _)) h cH rfl (rfl) rfl λf h=>cg h rfl (fx h s Xr (Ji X.S X.L vs vo _ (hX.keep s.ext).sv (hX.keep s.ext).sw (hX.keep s.ext).ov hb.s9 hb.s8 hb.ox) rfl rfl (λs0 f w1 h s=>?_) (λs0 f w1 h s=>?_))))
  ·refine e9 ac 12 h rfl λf h=>au3 (aA rfl h s rfl (by show _=_;rw [Fi,o0,s0];rfl))
  ·skip
   refine ap ac 3 h rfl λf h=>cg h rfl (ai (V:=vh) (ah (aX.of_own s 0 rfl) 2 (F9 _ _ _ _ _ _)) h rV rfl rfl λf h=>cg h rfl (fx h s YM (Lg X.H vh _ (hX.keep s.ext).ho (hX.keep s.ext).hw hb.h9 hb.h8) rfl rfl (λh0 f w1 h s=>?_) (λh0 f w1 h s=>?_)))
   ·refine e9 ac 7 h rfl λf h=>au3 (aA rfl h s rfl (by show _=_;rw [Fi,o0,s0,h0];rfl))
   ·skip
    refine ap ac 3 h rfl λf h=>cg h rfl (ax (aX.subL (aX.of_own s 0 rfl) 3 3 (D:=#[vl,.int .i64 X.M.last,.int .i64 X.M.now]) (ag9 _ _ _ _ _ _)) h iN rfl (rfl) rfl λf h=>cg h rfl (fx h s Da (jZ X.M vl _ (hX.keep s.ext).ml (by omega)) rfl rfl (λm0 f w1 h s=>?_) (λm0 f w1 h s=>?_)))
    ·refine e9 ac 2 h rfl λf h=>au3 (aA rfl h s rfl (by show _=_;rw [Fi,o0,s0,h0,m0];rfl))
    ·refine e9 ac 2 h rfl λf h=>au3 (aA rfl h s rfl (by show _=_;rw [Fi,o0,s0,h0,m0];rfl))
set_option maxHeartbeats 2000000 in
theorem rY (X:Wx) (vo vs vh vl:Value) (a:Ac) (va:Value) (fn:Nat)  (w:World) (hX:RdW w vo vs vh vl X) (hb:BdW (aM X)) (hrt:bN (aM X)=true) (hA:Co w va a.l) (hk1:1<=a.k) (hk2:a.k<=15) (hkv:∃ j,Instr.findNow (.int .i64) (.int .i64 a.k) (kvE Ki).toList 0=some (some (j,.func (.func fn) #[] #[]))) (hFn:Fnc Tryz.prog fn) (hC:Z1 Tryz.prog fn 84 54 68 91 X a va):Calls Tryz.prog 9 [.agg (cY vo vs vh vl X.M.last X.M.now),.agg (fb a va)].toArray w (bW w (WA w vo vs vh vl X va a.l (bY (aM X) a))):=by
 have hst:=wy hrt hk1 hk2
 refine bG Tryz.func9 rfl Tryz.ntmps9 rfl λf h s=>qr (ba (cY vo vs vh vl X.M.last X.M.now) h s rfl rfl rfl λf w1 b2 h s=>ba (fb a va) h s rfl rfl rfl λf w1 b3 h s=>aK (cY aq aq aq aq 0 0) h s py rfl rfl λf w1 b4 h s=>e9 ac 2 h rfl λf h=>ag (jC 0 8 [[],[],[1],[0,1,2],[0,1,2,3],[0,1,2,3,4],[0,1,2,3,4],[0,1,2,3,4,5],[0,1,2,3,4,5,6,7]] [[],[],[],[0],[],[],[],[],[]] [] [.r (λv=>[.blk (mbk (v 0)) (KvO Ki)]) (λv=>v 0=.map (some (mbk (v 0)))),.v _,.v (.int .i64 a.k),.v (.tuple #[.func (.func fn) #[] #[],.bool true]),.v _,.v _,.v _,.v _,.n] _ h s rfl (by kernel_rfl) (by kernel_rfl) (by kernel_rfl) (cq ?_ (iG ac h rfl rfl rfl (cq ?_ (cq ?_ (iG ac h rfl rfl rfl (iG ac h rfl rfl rfl (iG ac h rfl rfl rfl (iG ac h rfl rfl rfl (trivial))))))))) [1,2,3,4,5,6,7] (by kernel_rfl) ?_))
 ·intro f9 w2 vl1 E9 hs9 hd9 hl hF s
  have h:=dU [] (hs9.trans h.size) (hd9.trans h.defers) (holds_lk trivial)
  refine bg h s YN (GE _) rfl rfl ?_;rintro f w1 v12 ⟨bm,rfl,hS⟩ hE h sq;replace s:=s.add hS;clear hS
  exact aE ⟨_,bq 12 h rfl rfl,rfl,s⟩
 ·intro f9 w2 vl1 E9 hs9 hd9 hl hF s
  have h:=cJ [(13,_)] h hs9 hd9 ⟨bp hl 13 1 (by kernel_rfl) (hF 1 (by decide)),trivial⟩
  refine ai (V:=.int .i64 a.k) (ah (aX.of_own s 1 rfl) 0 (ag6 _ _)) h bQ rfl rfl λf h=>aE ⟨_,bq 14 h rfl rfl,rfl,s⟩
 ·intro f9 w2 vl1 E9 hs9 hd9 hl hF s
  have e12:f9.tmps.getD 12 undef=(vl1 0):=eN hl 12 0 (by kernel_rfl) (by kernel_rfl)
  have e14:f9.tmps.getD 14 undef=.int .i64 a.k:=(eN hl 14 2 (by kernel_rfl) (by kernel_rfl)).trans (hF 2 (by decide))
  have h:=dU [(12,(vl1 0)),(14,.int .i64 a.k)] (hs9.trans h.size) (hd9.trans h.defers) (holds_lk ⟨e12,e14,trivial⟩)
  have hm9:vl1 0=.map (some (mbk (vl1 0))):=hF 0 (by decide)
  refine Iy (V:=.func (.func fn) #[] #[]) (ok:=true) 0 h s aB9 az8 (by exact rfl) U9 ((rfl:_=some (vl1 0)).trans (aq3 some hm9)) rfl rfl (.inl ⟨_,hkv.choose_spec,rfl⟩) rfl ?_;intro f h
  exact aE ⟨_,bq 15 h rfl rfl,rfl,(s.pick _ (ap8 _ (ap7 _ (ap7 _ (ap7 _ (List.Sublist.refl _))))))⟩
 intro f w1 vl1 hs9 hd9 hv hr hF s
 replace hv:=λi d h9=>hv i d (show Nat.blt i 8=true from h9)
 replace h:=jx 8 (ops:=_) [(12,(vl1 0)),(13,_),(14,_),(15,_),(11,_),(16,_),(17,_),(7,_)] h hs9 hd9 hr ⟨hv 0 12 rfl rfl,(hv 1 13 rfl rfl).trans (hF 1 rfl),(hv 2 14 rfl rfl).trans (hF 2 rfl),(hv 3 15 rfl rfl).trans (hF 3 rfl),(hv 4 11 rfl rfl).trans (hF 4 rfl),(hv 5 16 rfl rfl).trans (hF 5 rfl),(hv 6 17 rfl rfl).trans (hF 6 rfl),(hv 7 7 rfl rfl).trans (hF 7 rfl),trivial⟩ (by kernel_rfl)
 refine e9 ac 1 h rfl λf h=>ag (cw ac 3 h rfl λf h=>cg h rfl (al 2 h s dC rfl rfl (bo _ _ _ _ _ _) rfl λf h=>cg h rfl (jX true h s Kz (lM X vo vs vh vl _ (hX.keep s.ext) hb) (hrt) rfl rfl λf w1 h s=>e9 ac 2 h rfl λf h=>ry h rfl (qr (al 2 h s dC rfl rfl (bo _ _ _ _ _ _) rfl λf h=>bg h s Zg (AP X vo vs vh vl _ (hX.keep s.ext) hb) rfl rfl ?_)))));rintro f w1 v27 ⟨uo,us,uh,ul,Y,ks,hv9,hY,hS⟩ hE h sq;replace s:=s.add hS;clear hS
 have hM:Y.M=X.M:=aq3 Wd.ml hY
 rw [← hM] at hv9
 subst hv9
 refine ak h (zj XI (h.ev rfl)) rfl λf h=>aK (qP aq aq aq aq 0 0 aq) h s VB rfl rfl λf w1 b9 h s=>am 0 h s Wf rfl rfl rfl (oG _ _ _ _ _ _ _) (oG _ _ _ _ _ _ _) (JA _ _ (bJ (s.getG 3 rfl).ov.1) (aZ (s.getSl 1 rfl)) (aZ (s.getSl 2 rfl)) (bJ (s.getG 3 rfl).ml) (rfl)) λw1 s=>nt (ag (cw ac 1 h rfl λf h=>al 5 h s YU rfl rfl (CD _ _) rfl λf h=>?_))
 replace s:=s.nilSl 91 74
 replace s:=s.bring 4 rfl
 replace s:=s.bring 1 rfl
 replace s:=s.bring 4 rfl
 replace s:=s.bring 4 rfl
 replace s:=s.bring 4 rfl
 replace s:St w [.blk b9 (.cells (qP uo us uh ul Y.M.last Y.M.now aq) 84),.sl us 54 3 Y.S.length (bM Y.S),.sl uh 68 5 Y.H.length (bC Y.H),.sl aq 91 74 ([]:List Nt).length (dB []),(.grp ks (λw9=>RdC w9 uo ul Y)),.blk b4 (.cells (cY aq aq aq aq 0 0) 31),.blk b3 (.cells (fb a va) 45),.blk b2 (.cells (cY vo vs vh vl X.M.last X.M.now) 31)] _:=s
 refine HB [.pointer (some ⟨b9,0,none⟩),.agg (fb a va)] h hFn rfl (hC uo us uh ul aq Y ks b9 _ w _ hY (λw9 s9=>hA.keep s9.ext) s) rfl rfl ?_;rintro f w1 v31 ⟨rfl,po,ps,ph,pl,pn,Z,N,kk,hR,s⟩ h
 refine e9 ac 1 h rfl λf h=>bD ac 2 h rfl λf h=>cT h rfl (λhc=>?_) (λhc=>?_)
 ·have e0:¬ (np (aM X) a a.k.toNat).e=0:=ap9 hc
  refine qr (ak h (oY RF) rfl λf h=>ap ac 1 h rfl λf h=>am 5 h s dC rfl rfl rfl (bo _ _ _ _ _ _) (bo _ _ _ _ _ _) (gY _ _ (rfl) (rfl) (rfl) (rfl)) λw1 s=>e9 ac 2 h rfl λf h=>rt ?_)
  exact sh 5 rfl h s dC rfl rfl (bo _ _ _ _ _ _) rfl rfl (by rw [hst];exact YJ ((C4 _ _ _).resolve_left e0).1 ((C4 _ _ _).resolve_left e0).2 rfl s)
 ·have e0:(np (aM X) a a.k.toNat).e=0:=Decidable.of_not_not (aq0 hc)
  refine kt (ag ?_)
  replace s:=s.bring 5 rfl
  replace s:St w [.blk b4 (.cells (cY aq aq aq aq 0 0) 31),.blk b9 (.cells (qP po ps ph pl Z.M.last Z.M.now pn) 84),.sl ps 54 3 Z.S.length (bM Z.S),.sl ph 68 5 Z.H.length (bC Z.H),.sl pn 91 74 N.length (dB N),(.grp kk (λw9=>RdC w9 po pl Z)),.blk b3 (.cells (fb a va) 45),.blk b2 (.cells (cY vo vs vh vl X.M.last X.M.now) 31)] _:=s
  refine jC 1 5 [[],[0],[],[2],[0,1],[0,1,2,3,4],[0,1,2,3,4,5]] [[],[],[],[],[7],[],[]] [[_]] [.v _,.v (.agg (cY po ps ph pl Z.M.last Z.M.now)),.v _,.v pn,.m (λv=>[.blk b4 (.cells (cY po ps ph pl Z.M.last Z.M.now) 31)]),.n,.n] _ h s rfl (by kernel_rfl) (by kernel_rfl) (by kernel_rfl) (iG ac h rfl rfl rfl (cq ?_ (iG ac h rfl rfl rfl (cq ?_ (cq ?_ (trivial)))))) [0,1,2,3,4] (by kernel_rfl) ?_
  ·intro f9 w2 vl8 E9 hs9 hd9 hl hF s
   have h:=cJ [(36,_)] h hs9 hd9 ⟨bp hl 36 0 (by kernel_rfl) (hF 0 (by decide)),trivial⟩
   refine ax (aX.subL (aX.of_own s 0 rfl) 0 6 (D:=cY po ps ph pl Z.M.last Z.M.now) (af3 _ _ _ _ _ _ _)) h dC rfl (bo _ _ _ _ _ _) rfl λf h=>aE ⟨_,bq 37 h rfl rfl,rfl,s⟩
  ·intro f9 w2 vl8 E9 hs9 hd9 hl hF s
   have h:=cJ [(38,_)] h hs9 hd9 ⟨bp hl 38 2 (by kernel_rfl) (hF 2 (by decide)),trivial⟩
   refine ai (V:=pn) (ah (aX.of_own s 0 rfl) 6 (ae8 _ _ _ _ _ _ _)) h zi rfl rfl λf h=>aE ⟨_,bq 39 h rfl rfl,rfl,s⟩
  ·intro f9 w2 vl8 E9 hs9 hd9 hl hF s
   have h:=cJ [(4,_),(37,_)] h hs9 hd9 ⟨gp hl 4 (by kernel_rfl) (h.holds 4 _ rfl),bp hl 37 1 (by kernel_rfl) (hF 1 (by decide)),trivial⟩
   refine am 0 h s dC rfl rfl rfl (bo _ _ _ _ _ _) (bo _ _ _ _ _ _) (gY _ _ (bJ (s.getG 5 rfl).ov.1) (aZ (s.getSl 2 rfl)) (aZ (s.getSl 3 rfl)) (bJ (s.getG 5 rfl).ml)) λw1 s=>aE ⟨undef,gO rfl,trivial,s⟩
  intro f w1 vl8 hs9 hd9 hv hr hF s
  replace hv:=λi d h9=>hv i d (show Nat.blt i 5=true from h9)
  replace h:=jx 5 (ops:=_) [(36,_),(37,_),(38,_),(39,_)] h hs9 hd9 hr ⟨(hv 0 36 rfl rfl).trans (hF 0 rfl),(hv 1 37 rfl rfl).trans (hF 1 rfl),(hv 2 38 rfl rfl).trans (hF 2 rfl),(hv 3 39 rfl rfl).trans (hF 3 rfl),trivial⟩ (by kernel_rfl)
  refine e9 ac 2 h rfl λf h=>au3 ?_
  exact sh 0 rfl h s dC rfl rfl (bo _ _ _ _ _ _) rfl rfl ((hst▸Wj hR e0 (s.sel [1,2,3,4,5] rfl (by decide))))
set_option maxHeartbeats 1000000 in
theorem Cu (vo vs vh vl vn:Value) (X:Wx) (kk:List Nat) (bc:Nat) (B9:List Own) (a:Ac) (va:Value)  (w0 w:World) (s:St w0 (.blk bc (.cells (qP vo vs vh vl X.M.last X.M.now vn) 84)::.sl vs 54 3 X.S.length (bM X.S)::.sl vh 68 5 X.H.length (bC X.H)::.sl vn 91 74 ([]:List Nt).length (dB ([]:List Nt))::.grp kk (λw9=>RdC w9 vo vl X)::B9) w) (hbd:BdW (aM X)) (hrt:bN (aM X)=true) (hU:∀ w9,St w0 B9 w9->Co w9 va a.l):Calls Tryz.prog 50 [.pointer (some ⟨bc,0,none⟩),.agg (fb a va)].toArray w (λe w9=>∃ v,e=.returned v/\Xx w0 bc 84 54 68 91 (Cg (aM X)) B9 v w9):=by
 refine da Tryz.func50 rfl Tryz.ntmps50 rfl [(0,.pointer (some ⟨bc,0,none⟩)),(1,.agg (fb a va))] (by simp) λf h=>?_
 refine qr (ba (fb a va) h s rfl rfl rfl λf w1 b3 h s=>e9 ac 1 h rfl λf h=>cw ac 4 h rfl λf h=>ax (aX.subL (aX.of_own s 1 rfl) 0 1 (D:=#[vo]) (ab3 _ _ _ _ _ _ _)) h cH rfl (rfl) rfl λf h=>bg h s Vg (By X.L vo _ (s.getG 5 rfl).ov hbd.ox hbd.oe) rfl rfl ?_);rintro f w1 v13 ⟨o9,rfl,vp,L1,k1,rfl,hL1,hG⟩ hE h sq;replace s:=s.add hG;clear hG
 refine ap ac 3 h rfl λf h=>aK (#[aq]) h s CV rfl rfl λf w1 b5 h s=>am 0 h s cH rfl rfl rfl (rfl) (rfl) (lZ (bJ ((s.getG 1 rfl) (s.getG 7 rfl).ov).1)) λw1 s=>e9 ac 1 h rfl λf h=>cw ac 1 h rfl λf h=>al 0 h s cH rfl rfl (rfl) rfl λf h=>ap ac 3 h rfl λf h=>ga 3 h s cH rfl rfl rfl (rfl) (by rw [oG];omega) (lZ (bJ ((s.getG 1 rfl) (s.getG 7 rfl).ov).1)) λw1 s=>?_
 replace s:=s.recell (D:=qP vp vs vh vl X.M.last X.M.now vn) 3 rfl rfl
 refine nt (bD ac 2 h rfl λf h=>au3 (gB rfl h rfl (by replace s:=s.bring 6 rfl;replace s:=s.bring 6 rfl;replace s:=s.bring 6 rfl;replace s:=s.bring 6 rfl;replace s:=s.bring 7 rfl;replace s:=s.bring 6 rfl;exact ⟨_,rfl,by have z9:=Tc (X:=X) hrt hL1 (s.pick _ (ap7 _ (ap7 _ (ap7 _ (ap7 _ (ap7 _ (ap7 _ (ap8 _ (ap8 _ (List.Sublist.refl _))))))))));rw [z9.1];exact z9.2⟩)))
theorem yO (X:Wx) (vo vs vh vl:Value) (a:Ac) (va:Value) (w:World) (hX:RdW w vo vs vh vl X) (hb:BdW (aM X)) (hr:bN (aM X)=true) (hA:Co w va a.l) (hal:a.l.length<=1000) (hk:a.k=4):Calls Tryz.prog 9 [.agg (cY vo vs vh vl X.M.last X.M.now),.agg (fb a va)].toArray w (bW w (WA w vo vs vh vl X va a.l (bY (aM X) a))):=by
 refine rY X vo vs vh vl a va 50 w hX hb hr hA (by omega) (by omega) ⟨_,by rw [hk];rfl⟩ Yy ?_
 intro po ps ph pl pn Y kk c B9 w0 w1 hY hU s
 have hb9:BdW (aM Y):=by rw [hY];exact hb
 have hr9:bN (aM Y)=true:=by rw [hY];exact hr
 have h:=Cu po ps ph pl pn Y kk c B9 a va w0 w1 s hb9 hr9 hU
 rw [hY] at h
 rw [hk]
 exact h
end Go.Proofs.YthmlflaiidhoiaaGreatDoor
