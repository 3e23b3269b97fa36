/- Package world and what it stands on, so far as it is wanted: what each function answers. -/
import Derived.Test.YtkhepdpfdhdlaaaGreatDoorZw
import Derived.Test.YtkhepdpfdhdlaaaGreatDoorZx
import Derived.Test.YtkhepdpfdhdlaaaGreatDoorZq
import Derived.Test.YtkhepdpfdhdlaaaGreatDoorZc
import Derived.Test.YtkhepdpfdhdlaaaGreatDoorZi
import Derived.Test.YtkhepdpfdhdlaaaGreatDoorZu
import Derived.Test.YtkhepdpfdhdlaaaGreatDoorZv
set_option linter.unusedVariables false
set_option linter.unusedSimpArgs false
set_option linter.unusedSectionVars false
namespace Go.Proofs.YtkhepdpfdhdlaaaGreatDoor
open Go.RowKit
theorem IS (Sx:List V2) (L:List N3) (vs vo:Value)  (w:World) (hS:br w vs 3 Sx.length (aR Sx)) (hT:∀ x∈Sx,Mk w x.2 x.1.tb) (hO:kB w vo L) (hSb:∀ x∈Sx,x.1.tb.length<=1000) (hSl:Sx.length<=1000) (hL:L.length<=40):Calls Tryz.prog 15 [vs,.agg #[vo]].toArray w (cd w (is (.bool (nD Sx L)))):=by
 refine bN Tryz.func15 rfl Tryz.ntmps15 rfl λf h s=>qr (aZ (#[vo]) h s rfl rfl rfl λf w1 b3 h s=>e9 ac 1 h rfl λf h=>ah (ah ?_))
 cases l0:(decide (Sx.length=L.length):Bool)
 ·refine rs ac 1 h rfl λf h=>bT h (hS.keep s.ext) aC1 rfl rfl λf h=>al ac 1 h rfl λf h=>ag (V:=vo) (ae (aF.of_own s 0 rfl) 0 rfl) h ew rfl rfl λf h=>bT h (hO.1.keep s.ext) aC0 rfl rfl λf h=>fy ac h rfl (by have h9:=ar5 l0;simp;omega) λf h=>gh h rfl (bJ ac 1 h rfl λf h=>rt (aA rfl h s rfl (by show _=_;rw [Vm (ar5 l0)])))
 ·refine rs ac 1 h rfl λf h=>bT h (hS.keep s.ext) aC1 rfl rfl λf h=>al ac 1 h rfl λf h=>ag (V:=vo) (ae (aF.of_own s 0 rfl) 0 rfl) h ew rfl rfl λf h=>bT h (hO.1.keep s.ext) aC0 rfl rfl λf h=>eF ac h rfl (by have h9:=ar4 l0;simp;omega) λf h=>fL h rfl (ah (cw ac 1 h rfl λf h=>bT h (hS.keep s.ext) aC1 rfl rfl λf h=>e9 ac 1 h rfl λf h=>av9 (aw1 (λnn aa ww=>∃ k:Nat,Sl 36 aa [(0,vs),(1,.agg #[vo]),(3,.pointer (some ⟨b3,0,none⟩)),(13,vs),(14,.int .i64 (Sx.length:Int)),(15,.int .i64 (k:Int))]/\St w [.blk b3 (.cells (#[vo]) 24)] ww/\nn=Sx.length - k/\k<=Sx.length/\∀ j,j<k->(fI (Sx.getD j d4).1 && decide ((Sx.getD j d4).1.no=(L.getD j z3).1.me.1))=true) (Sx.length - (0)) ⟨0,h.only ⟨rfl,rfl,rfl,rfl,rfl,aD rfl (by omega),trivial⟩,s.as ⟨rfl,trivial⟩,rfl,at8 _,λj hj=>az2 hj (ax1 _)⟩ ?_)))
  rintro _ f w1 ⟨k,h,s,hnn,hp0,hp1⟩
  refine bJ ac 1 h rfl λf h=>ah (dA h rfl (λhc=>?_) (λhc=>?_))
  ·refine kt (ah (av9 (cw ac 1 h rfl λf h=>?_)))
   have hkl:k<Sx.length:=by omega
   have hko:k<L.length:=by have:=ar4 l0;omega
   refine am h (bg (hS.keep s.ext) (k) aC1 pA (h.ev rfl) (h.ev rfl) (by omega) (by omega)) rfl λf h=>az ((hS.keep s.ext).el (k) (by omega) (by decide) (D:=de (Sx.getD k d4).1.no (Sx.getD k d4).1.sec (Sx.getD k d4).2) (uA _ k hkl)) h ip rfl (cD _ _ _) rfl λf h=>aO (de 0 ByteArray.empty au) h s B7 rfl rfl λf w1 b6 h s=>al ac 1 h rfl λf h=>aj 0 h s ip rfl rfl rfl (cD _ _ _) (cD _ _ _) (m7 _ _ (bR ((hT _ (fY hkl)).keep s.ext))) λw1 s=>nt (ah ?_)
   cases s0:(fI (Sx.getD k d4).1:Bool)
   ·refine cQ 15 h (by kernel_rfl) (aX 0 h s ip rfl rfl (cD _ _ _) rfl λf h=>bj h Lx (λw9 hE9=>a6 (.bool false) (mE (Sx.getD k d4).1 (Sx.getD k d4).2 w9 ((hT _ (fY hkl)).keep (s.ext.trans hE9)) (hSb _ (fY hkl))) (ar8 Value.bool s0)) rfl rfl λf h=>ar ac 13 h rfl λf h=>bK s λw1 s=>gh h rfl (bJ ac 1 h rfl λf h=>av8 (bh (aU (aU (bh (aU (aA rfl h s rfl (by show _=_;rw [yC hkl (by rw [s0];rfl)])))))))))
   ·skip
    cases s1:(decide ((Sx.getD k d4).1.no=(L.getD k z3).1.me.1):Bool)
    ·refine cQ 15 h (by kernel_rfl) (aX 0 h s ip rfl rfl (cD _ _ _) rfl λf h=>bj h Lx (λw9 hE9=>a6 (.bool true) (mE (Sx.getD k d4).1 (Sx.getD k d4).2 w9 ((hT _ (fY hkl)).keep (s.ext.trans hE9)) (hSb _ (fY hkl))) (ar8 Value.bool s0)) rfl rfl λf h=>ar ac 3 h rfl λf h=>bD h rfl (ao (V:=.int .i64 (Sx.getD k d4).1.no) (ae (aF.of_own s 0 rfl) 0 (CT _ _ _)) h bu rfl rfl λf h=>ar ac 1 h rfl λf h=>bD h rfl (ao (V:=vo) (ae (aF.of_own s 1 rfl) 0 rfl) h ew rfl rfl λf h=>ar ac 1 h rfl λf h=>bD h rfl (av h (bg (hO.1.keep s.ext) (k) aC0 mt (h.ev rfl) (h.ev rfl) (by omega) (by omega)) rfl λf h=>bD h rfl (av h (bf fw (h.ev rfl) ((hO.1.keep s.ext).some (by omega))) rfl λf h=>bD h rfl (av h (bf gD (h.ev rfl) ((hO.1.keep s.ext).some (by omega))) rfl λf h=>bD h rfl (ao (V:=.int .i64 (L.getD k z3).1.me.1) (dq (hO.1.keep s.ext) (k*68+0) (zJ _ k hko)) h bu rfl rfl λf h=>bD h rfl (ot ac h rfl (by simpa using s1) λf h=>ar ac 1 h rfl λf h=>bK s λw1 s=>gh h rfl (bJ ac 1 h rfl λf h=>av8 (bh (aU (aU (bh (aU (aA rfl h s rfl (by show _=_;rw [yC hkl (by rw [s0,s1];rfl)]))))))))))))))))
    ·refine cQ 15 h (by kernel_rfl) (aX 0 h s ip rfl rfl (cD _ _ _) rfl λf h=>bj h Lx (λw9 hE9=>a6 (.bool true) (mE (Sx.getD k d4).1 (Sx.getD k d4).2 w9 ((hT _ (fY hkl)).keep (s.ext.trans hE9)) (hSb _ (fY hkl))) (ar8 Value.bool s0)) rfl rfl λf h=>ar ac 3 h rfl λf h=>bD h rfl (ao (V:=.int .i64 (Sx.getD k d4).1.no) (ae (aF.of_own s 0 rfl) 0 (CT _ _ _)) h bu rfl rfl λf h=>ar ac 1 h rfl λf h=>bD h rfl (ao (V:=vo) (ae (aF.of_own s 1 rfl) 0 rfl) h ew rfl rfl λf h=>ar ac 1 h rfl λf h=>bD h rfl (av h (bg (hO.1.keep s.ext) (k) aC0 mt (h.ev rfl) (h.ev rfl) (by omega) (by omega)) rfl λf h=>bD h rfl (av h (bf fw (h.ev rfl) ((hO.1.keep s.ext).some (by omega))) rfl λf h=>bD h rfl (av h (bf gD (h.ev rfl) ((hO.1.keep s.ext).some (by omega))) rfl λf h=>bD h rfl (ao (V:=.int .i64 (L.getD k z3).1.me.1) (dq (hO.1.keep s.ext) (k*68+0) (zJ _ k hko)) h bu rfl rfl λf h=>bD h rfl (zC ac h rfl (by simpa using s1) λf h=>ar ac 1 h rfl λf h=>bK s λw1 s=>oW h rfl (wpIn_skip (bo (aK (aG (am h (bY (h.ev rfl) (h.ev rfl) (by omega)) rfl λf h=>e9 ac 1 h rfl λf h=>?_)))))))))))))
     exact ⟨_,by omega,⟨k+1,h.only ⟨rfl,rfl,rfl,rfl,rfl,aD rfl (by omega),trivial⟩,St.as (s.pick _ (at3 [_] _)) ⟨rfl,trivial⟩,rfl,by omega,eu hp1 (by rw [s0,s1];rfl)⟩⟩
  ·refine aw0 (ba (ba (cj (aK (bJ ac 1 h rfl λf h=>av8 (aA rfl h s rfl (by show _=_;rw [Mi (ar4 l0) (λj hj=>hp1 j (by omega))])))))))
set_option maxHeartbeats 1000000 in
theorem pv (X:Wx) (vo vs vh vl:Value)  (w:World) (hX:RdW w vo vs vh vl X) (hb:BdW (aH X)):Calls Tryz.prog 7 [.agg (dV vo vs vh vl X.M.last X.M.now)].toArray w (cd w (is (.bool (cg (aH X))))):=by
 have hbM:X.M.l.length<=100:=hb.ml
 refine bN Tryz.func7 rfl Tryz.ntmps7 rfl λf h s=>qr (aZ (dV vo vs vh vl X.M.last X.M.now) h s rfl rfl rfl λf w1 b1 h s=>e9 ac 1 h rfl λf h=>ah ?_)
 refine rs ac 1 h rfl λf h=>az (aF.subL (aF.of_own s 0 rfl) 0 1 (D:=#[vo]) (LB _ _ _ _ _ _)) h cc rfl (rfl) rfl λf h=>eC h s Xz (F0 X.L vo _ (hX.keep s.ext).ov hb.ox hb.oe) rfl rfl (λo0 f w1 h s=>?_) (λo0 f w1 h s=>?_)
 ·refine e9 ac 18 h rfl λf h=>av8 (aA rfl h s rfl (by show _=_;rw [Ao,o0];rfl))
 ·skip
  refine al ac 2 h rfl λf h=>bF h rfl (ag (V:=vs) (ae (aF.of_own s 0 rfl) 1 (jv _ _ _ _ _ _)) h fB rfl rfl λf h=>al ac 1 h rfl λf h=>bF h rfl (az (aF.subL (aF.of_own s 0 rfl) 0 1 (D:=#[vo]) (LB _ _ _ _ _ _)) h cc rfl (rfl) rfl λf h=>bF h rfl (eC h s YY (IS X.S X.L vs vo _ (hX.keep s.ext).sv (hX.keep s.ext).sw (hX.keep s.ext).ov hb.s9 hb.s8 hb.ox) rfl rfl (λs0 f w1 h s=>?_) (λs0 f w1 h s=>?_))))
  ·refine e9 ac 12 h rfl λf h=>av8 (aA rfl h s rfl (by show _=_;rw [Ao,o0,s0];rfl))
  ·skip
   refine al ac 3 h rfl λf h=>bF h rfl (ag (V:=vh) (ae (aF.of_own s 0 rfl) 2 (lj _ _ _ _ _ _)) h ga rfl rfl λf h=>bF h rfl (eC h s Ye (Je X.H vh _ (hX.keep s.ext).ho (hX.keep s.ext).hw hb.h9 hb.h8) rfl rfl (λh0 f w1 h s=>?_) (λh0 f w1 h s=>?_)))
   ·refine e9 ac 7 h rfl λf h=>av8 (aA rfl h s rfl (by show _=_;rw [Ao,o0,s0,h0];rfl))
   ·skip
    refine al ac 3 h rfl λf h=>bF h rfl (az (aF.subL (aF.of_own s 0 rfl) 3 3 (D:=#[vl,.int .i64 X.M.last,.int .i64 X.M.now]) (We _ _ _ _ _ _)) h bV rfl (rfl) rfl λf h=>bF h rfl (eC h s tL (gP X.M vl _ (hX.keep s.ext).ml (by omega)) rfl rfl (λm0 f w1 h s=>?_) (λm0 f w1 h s=>?_)))
    ·refine e9 ac 2 h rfl λf h=>av8 (aA rfl h s rfl (by show _=_;rw [Ao,o0,s0,h0,m0];rfl))
    ·refine e9 ac 2 h rfl λf h=>av8 (aA rfl h s rfl (by show _=_;rw [Ao,o0,s0,h0,m0];rfl))
set_option maxHeartbeats 2000000 in
theorem fC (X:Wx) (vo vs vh vl:Value) (a:Ac) (va:Value) (fn:Nat)  (w:World) (hX:RdW w vo vs vh vl X) (hb:BdW (aH X)) (hrt:cg (aH X)=true) (hA:gf w va a.l) (hk1:1<=a.k) (hk2:a.k<=15) (hkv:∃ j,Instr.findNow (.int .i64) (.int .i64 a.k) (kvE Ii).toList 0=some (some (j,.func (.func fn) #[] #[]))) (hFn:Fnc Tryz.prog fn) (hC:ah6 Tryz.prog fn 83 46 66 59 X a va):Calls Tryz.prog 10 [.agg (dV vo vs vh vl X.M.last X.M.now),.agg (bM a va)].toArray w (cd w (GT w vo vs vh vl X va a.l (dD (aH X) a))):=by
 have hst:=jL hrt hk1 hk2
 refine bN Tryz.func10 rfl Tryz.ntmps10 rfl λf h s=>qr (aZ (dV vo vs vh vl X.M.last X.M.now) h s rfl rfl rfl λf w1 b2 h s=>aZ (bM a va) h s rfl rfl rfl λf w1 b3 h s=>aO (dV au au au au 0 0) h s wE rfl rfl λf w1 b4 h s=>e9 ac 2 h rfl λf h=>ah (fH 0 8 [[],[],[1],[0,1,2],[0,1,2,3],[0,1,2,3,4],[0,1,2,3,4],[0,1,2,3,4,5],[0,1,2,3,4,5,6,7]] [[],[],[],[0],[],[],[],[],[]] [] [.r (λv=>[.blk (ZQ (v 0)) (KvO Ii)]) (λv=>v 0=.map (some (ZQ (v 0)))),.v _,.v (.int .i64 a.k),.v (.tuple #[.func (.func fn) #[] #[],.bool true]),.v _,.v _,.v _,.v _,.n] _ h s rfl (by kernel_rfl) (by kernel_rfl) (by kernel_rfl) (bW ?_ (fJ ac h rfl rfl rfl (bW ?_ (bW ?_ (fJ ac h rfl rfl rfl (fJ ac h rfl rfl rfl (fJ ac h rfl rfl rfl (fJ ac h rfl rfl rfl (trivial))))))))) [1,2,3,4,5,6,7] (by kernel_rfl) ?_))
 ·intro f9 w2 vl1 E9 hs9 hd9 hl hF s
  have h:=dy [] (hs9.trans h.size) (hd9.trans h.defers) (holds_lk trivial)
  refine bB h s XK (Gr _) rfl rfl ?_;rintro f w1 v12 ⟨bm,rfl,hS⟩ hE h sq;replace s:=s.add hS;clear hS
  exact aw ⟨_,aV 12 h rfl rfl,rfl,s⟩
 ·intro f9 w2 vl1 E9 hs9 hd9 hl hF s
  have h:=cb [(13,_)] h hs9 hd9 ⟨aS hl 13 1 (by kernel_rfl) (hF 1 (by decide)),trivial⟩
  refine ag (V:=.int .i64 a.k) (ae (aF.of_own s 1 rfl) 0 (ZR _ _)) h bu rfl rfl λf h=>aw ⟨_,aV 14 h rfl rfl,rfl,s⟩
 ·intro f9 w2 vl1 E9 hs9 hd9 hl hF s
  have e12:f9.tmps.getD 12 undef=(vl1 0):=dO hl 12 0 (by kernel_rfl) (by kernel_rfl)
  have e14:f9.tmps.getD 14 undef=.int .i64 a.k:=(dO hl 14 2 (by kernel_rfl) (by kernel_rfl)).trans (hF 2 (by decide))
  have h:=dy [(12,(vl1 0)),(14,.int .i64 a.k)] (hs9.trans h.size) (hd9.trans h.defers) (holds_lk ⟨e12,e14,trivial⟩)
  have hm9:vl1 0=.map (some (ZQ (vl1 0))):=hF 0 (by decide)
  refine zm (V:=.func (.func fn) #[] #[]) (ok:=true) 0 h s aF0 aB7 (by exact rfl) Sb ((rfl:_=some (vl1 0)).trans (ar8 some hm9)) rfl rfl (.inl ⟨_,hkv.choose_spec,rfl⟩) rfl ?_;intro f h
  exact aw ⟨_,aV 15 h rfl rfl,rfl,(s.pick _ (ar3 _ (ar2 _ (ar2 _ (ar2 _ (List.Sublist.refl _))))))⟩
 intro f w1 vl1 hs9 hd9 hv hr hF s
 replace hv:=λi d h9=>hv i d (show Nat.blt i 8=true from h9)
 replace h:=eI 8 (ops:=_) [(12,(vl1 0)),(13,_),(14,_),(15,_),(11,_),(16,_),(17,_),(7,_)] h hs9 hd9 hr ⟨hv 0 12 rfl rfl,(hv 1 13 rfl rfl).trans (hF 1 rfl),(hv 2 14 rfl rfl).trans (hF 2 rfl),(hv 3 15 rfl rfl).trans (hF 3 rfl),(hv 4 11 rfl rfl).trans (hF 4 rfl),(hv 5 16 rfl rfl).trans (hF 5 rfl),(hv 6 17 rfl rfl).trans (hF 6 rfl),(hv 7 7 rfl rfl).trans (hF 7 rfl),trivial⟩ (by kernel_rfl)
 refine e9 ac 1 h rfl λf h=>ah (cw ac 3 h rfl λf h=>bF h rfl (ak 2 h s fj rfl rfl (bX _ _ _ _ _ _) rfl λf h=>bF h rfl (jc true h s YZ (pv X vo vs vh vl _ (hX.keep s.ext) hb) (hrt) rfl rfl λf w1 h s=>e9 ac 2 h rfl λf h=>mQ h rfl (qr (ak 2 h s fj rfl rfl (bX _ _ _ _ _ _) rfl λf h=>bB h s WD (yG X vo vs vh vl _ (hX.keep s.ext) hb) rfl rfl ?_)))));rintro f w1 v27 ⟨uo,us,uh,ul,Y,ks,hv9,hY,hS⟩ hE h sq;replace s:=s.add hS;clear hS
 have hM:Y.M=X.M:=ar8 Wd.ml hY
 rw [← hM] at hv9
 subst hv9
 refine am h (zX WW (h.ev rfl)) rfl λf h=>aO (dZ au au au au 0 0 au) h s UZ rfl rfl λf w1 b9 h s=>aj 0 h s Ym rfl rfl rfl (gH _ _ _ _ _ _ _) (gH _ _ _ _ _ _ _) (HU _ _ (bR (s.getG 3 rfl).ov.1) (aT (s.getSl 1 rfl)) (aT (s.getSl 2 rfl)) (bR (s.getG 3 rfl).ml) (rfl)) λw1 s=>nt (ah (cw ac 1 h rfl λf h=>ak 5 h s Yn rfl rfl (Ce _ _) rfl λf h=>?_))
 replace s:=s.nilSl 59 74
 replace s:=s.bring 4 rfl
 replace s:=s.bring 1 rfl
 replace s:=s.bring 4 rfl
 replace s:=s.bring 4 rfl
 replace s:=s.bring 4 rfl
 replace s:St w [.blk b9 (.cells (dZ uo us uh ul Y.M.last Y.M.now au) 83),.sl us 46 3 Y.S.length (aR Y.S),.sl uh 66 5 Y.H.length (aM Y.H),.sl au 59 74 ([]:List Nt).length (aW []),(.grp ks (λw9=>RdC w9 uo ul Y)),.blk b4 (.cells (dV au au au au 0 0) 31),.blk b3 (.cells (bM a va) 36),.blk b2 (.cells (dV vo vs vh vl X.M.last X.M.now) 31)] _:=s
 refine IU [.pointer (some ⟨b9,0,none⟩),.agg (bM a va)] h hFn rfl (hC uo us uh ul au Y ks b9 _ w _ hY (λw9 s9=>hA.keep s9.ext) s) rfl rfl ?_;rintro f w1 v31 ⟨rfl,po,ps,ph,pl,pn,Z,N,kk,hR,s⟩ h
 refine e9 ac 1 h rfl λf h=>bJ ac 2 h rfl λf h=>cr h rfl (λhc=>?_) (λhc=>?_)
 ·have e0:¬ (Bo (aH X) a a.k.toNat).e=0:=ar4 hc
  refine qr (am h (nK RI) rfl λf h=>al ac 1 h rfl λf h=>aj 5 h s fj rfl rfl rfl (bX _ _ _ _ _ _) (bX _ _ _ _ _ _) (iL _ _ (rfl) (rfl) (rfl) (rfl)) λw1 s=>e9 ac 2 h rfl λf h=>rt ?_)
  exact eU 5 rfl h s fj rfl rfl (bX _ _ _ _ _ _) rfl rfl (by rw [hst];exact WU ((EQ _ _ _).resolve_left e0).1 ((EQ _ _ _).resolve_left e0).2 rfl s)
 ·have e0:(Bo (aH X) a a.k.toNat).e=0:=Decidable.of_not_not (ar5 hc)
  refine kt (ah ?_)
  replace s:=s.bring 5 rfl
  replace s:St w [.blk b4 (.cells (dV au au au au 0 0) 31),.blk b9 (.cells (dZ po ps ph pl Z.M.last Z.M.now pn) 83),.sl ps 46 3 Z.S.length (aR Z.S),.sl ph 66 5 Z.H.length (aM Z.H),.sl pn 59 74 N.length (aW N),(.grp kk (λw9=>RdC w9 po pl Z)),.blk b3 (.cells (bM a va) 36),.blk b2 (.cells (dV vo vs vh vl X.M.last X.M.now) 31)] _:=s
  refine fH 1 5 [[],[0],[],[2],[0,1],[0,1,2,3,4],[0,1,2,3,4,5]] [[],[],[],[],[7],[],[]] [[_]] [.v _,.v (.agg (dV po ps ph pl Z.M.last Z.M.now)),.v _,.v pn,.m (λv=>[.blk b4 (.cells (dV po ps ph pl Z.M.last Z.M.now) 31)]),.n,.n] _ h s rfl (by kernel_rfl) (by kernel_rfl) (by kernel_rfl) (fJ ac h rfl rfl rfl (bW ?_ (fJ ac h rfl rfl rfl (bW ?_ (bW ?_ (trivial)))))) [0,1,2,3,4] (by kernel_rfl) ?_
  ·intro f9 w2 vl8 E9 hs9 hd9 hl hF s
   have h:=cb [(36,_)] h hs9 hd9 ⟨aS hl 36 0 (by kernel_rfl) (hF 0 (by decide)),trivial⟩
   refine az (aF.subL (aF.of_own s 0 rfl) 0 6 (D:=dV po ps ph pl Z.M.last Z.M.now) (ae7 _ _ _ _ _ _ _)) h fj rfl (bX _ _ _ _ _ _) rfl λf h=>aw ⟨_,aV 37 h rfl rfl,rfl,s⟩
  ·intro f9 w2 vl8 E9 hs9 hd9 hl hF s
   have h:=cb [(38,_)] h hs9 hd9 ⟨aS hl 38 2 (by kernel_rfl) (hF 2 (by decide)),trivial⟩
   refine ag (V:=pn) (ae (aF.of_own s 0 rfl) 6 (X2 _ _ _ _ _ _ _)) h Kz rfl rfl λf h=>aw ⟨_,aV 39 h rfl rfl,rfl,s⟩
  ·intro f9 w2 vl8 E9 hs9 hd9 hl hF s
   have h:=cb [(4,_),(37,_)] h hs9 hd9 ⟨d5 hl 4 (by kernel_rfl) (h.holds 4 _ rfl),aS hl 37 1 (by kernel_rfl) (hF 1 (by decide)),trivial⟩
   refine aj 0 h s fj rfl rfl rfl (bX _ _ _ _ _ _) (bX _ _ _ _ _ _) (iL _ _ (bR (s.getG 5 rfl).ov.1) (aT (s.getSl 2 rfl)) (aT (s.getSl 3 rfl)) (bR (s.getG 5 rfl).ml)) λw1 s=>aw ⟨undef,gd rfl,trivial,s⟩
  intro f w1 vl8 hs9 hd9 hv hr hF s
  replace hv:=λi d h9=>hv i d (show Nat.blt i 5=true from h9)
  replace h:=eI 5 (ops:=_) [(36,_),(37,_),(38,_),(39,_)] h hs9 hd9 hr ⟨(hv 0 36 rfl rfl).trans (hF 0 rfl),(hv 1 37 rfl rfl).trans (hF 1 rfl),(hv 2 38 rfl rfl).trans (hF 2 rfl),(hv 3 39 rfl rfl).trans (hF 3 rfl),trivial⟩ (by kernel_rfl)
  refine e9 ac 2 h rfl λf h=>av8 ?_
  exact eU 0 rfl h s fj rfl rfl (bX _ _ _ _ _ _) rfl rfl ((hst▸WG hR e0 (s.sel [1,2,3,4,5] rfl (by decide))))
theorem zf (X:Wx) (vo vs vh vl:Value) (a:Ac) (va:Value) (w:World) (hX:RdW w vo vs vh vl X) (hb:BdW (aH X)) (hr:cg (aH X)=true) (hA:gf w va a.l) (hal:a.l.length<=1000) (hk:a.k=1) (h9L:(aH X).ov=[]) (h9S:(aH X).sv=[]):Calls Tryz.prog 10 [.agg (dV vo vs vh vl X.M.last X.M.now),.agg (bM a va)].toArray w (cd w (GT w vo vs vh vl X va a.l (dD (aH X) a))):=by
 refine fC X vo vs vh vl a va 34 w hX hb hr hA (by omega) (by omega) ⟨_,by rw [hk];rfl⟩ VX ?_
 intro po ps ph pl pn Y kk c B9 w0 w1 hY hU s
 have hb9:BdW (aH Y):=by rw [hY];exact hb
 have hr9:cg (aH Y)=true:=by rw [hY];exact hr
 have hL0:Y.L=[]:=by have h8:=ar8 Wd.ov hY;rw [h9L] at h8;exact List.map_eq_nil_iff.1 h8
 have hS0:Y.S=[]:=by have h8:=ar8 Wd.sv hY;rw [h9S] at h8;exact List.map_eq_nil_iff.1 h8
 have h:=BD po ps ph pl pn Y kk c B9 a va w0 w1 s hb9 hL0 hS0 hU
 rw [hY] at h
 rw [hk]
 exact h
theorem yS (X:Wx) (vo vs vh vl:Value) (a:Ac) (va:Value) (w:World) (hX:RdW w vo vs vh vl X) (hb:BdW (aH X)) (hr:cg (aH X)=true) (hA:gf w va a.l) (hal:a.l.length<=1000) (hk:a.k=6) (h9H:(aH X).ho=[]):Calls Tryz.prog 10 [.agg (dV vo vs vh vl X.M.last X.M.now),.agg (bM a va)].toArray w (cd w (GT w vo vs vh vl X va a.l (dD (aH X) a))):=by
 refine fC X vo vs vh vl a va 39 w hX hb hr hA (by omega) (by omega) ⟨_,by rw [hk];rfl⟩ XF ?_
 intro po ps ph pl pn Y kk c B9 w0 w1 hY hU s
 have hb9:BdW (aH Y):=by rw [hY];exact hb
 have hr9:cg (aH Y)=true:=by rw [hY];exact hr
 have hH0:Y.H=[]:=by have h8:=ar8 Wd.ho hY;rw [h9H] at h8;exact List.map_eq_nil_iff.1 h8
 have h:=BS po ps ph pl pn Y kk c B9 a va w0 w1 s hb9 hH0 hU
 rw [hY] at h
 rw [hk]
 exact h
theorem ye (X:Wx) (vo vs vh vl:Value) (a:Ac) (va:Value) (w:World) (hX:RdW w vo vs vh vl X) (hb:BdW (aH X)) (hr:cg (aH X)=true) (hA:gf w va a.l) (hal:a.l.length<=1000) (hk:a.k=10):Calls Tryz.prog 10 [.agg (dV vo vs vh vl X.M.last X.M.now),.agg (bM a va)].toArray w (cd w (GT w vo vs vh vl X va a.l (dD (aH X) a))):=by
 refine fC X vo vs vh vl a va 43 w hX hb hr hA (by omega) (by omega) ⟨_,by rw [hk];rfl⟩ XR ?_
 intro po ps ph pl pn Y kk c B9 w0 w1 hY hU s
 have hb9:BdW (aH Y):=by rw [hY];exact hb
 have hr9:cg (aH Y)=true:=by rw [hY];exact hr
 have h:=CD po ps ph pl pn Y kk c B9 a va w0 w1 s hb9 hr9 hal hU
 rw [hY] at h
 rw [hk]
 exact h
set_option maxHeartbeats 2000000 in
theorem gW  (w:World):Calls Tryz.prog 8 [].toArray w (cd w (is (.bool true))):=by
 refine bN Tryz.func8 rfl Tryz.ntmps8 rfl λf h s=>bJ ac 1 h rfl λf h=>qr (aO (aI 0#256) h s xG rfl rfl λf w1 b1 h s=>nt (ah (bJ ac 1 h rfl λf h=>av9 (aw1 (λnn aa ww=>∃ k:Nat,Sl 69 aa [(1,.pointer (some ⟨b1,0,none⟩)),(2,.int .i64 ((k:Int)+16))]/\St w [.blk b1 (.cells (aI (Gc k)) 33)] ww/\nn=16 - k/\k<=16) (16 - (0)) ⟨0,h.only ⟨rfl,aD rfl (by omega),trivial⟩,s.as ⟨gF (by rw [ei];rfl),trivial⟩,rfl,at8 _⟩ ?_))))
 rintro _ f w1 ⟨k,h,s,hnn,hp0⟩
 refine ah (bJ ac 2 h rfl λf h=>dA h rfl (λhc=>?_) (λhc=>?_))
 ·refine kt (ah (av9 (rs ac 1 h rfl λf h=>am h (mu (k+16) az3 i4 (h.ev rfl) (h.ev rfl) (by omega) (by omega)) rfl λf h=>aJ 0 h s qV rfl rfl rfl (by simp;omega) (rfl) λw1 s=>aw (bo (aK (rs ac 1 h rfl λf h=>am h (bY (h.ev rfl) (h.ev rfl) (by omega)) rfl λf h=>e9 ac 1 h rfl λf h=>?_))))))
  exact ⟨_,by omega,⟨k+1,h.only ⟨rfl,aD rfl (by omega),trivial⟩,St.as s ⟨gF (L0 k),trivial⟩,rfl,by omega⟩⟩
 ·refine aw0 (ba (ba (cj (aK (qr ?_)))))
  obtain rfl:k=16:=by omega
  rw [Hz] at s
  refine am h (nK RI) rfl λf h=>ak 0 h s ca rfl rfl (by first|exact aC _|exact aB _ _) rfl λf h=>am h (w8 Ey rfl rfl (h.ev rfl)) rfl λf h=>bB h s Dz (zf Zo au au au au QM au _ (dR _) ae2 Ig (bO _) (by decide) rfl rfl rfl) rfl rfl ?_;rintro f w1 v20 ⟨oa,sa,ha,la,na,Ya,ka,rfl,qa,hG⟩ hE h sq;replace s:=s.add hG;clear hG
  have ea:aH Ya=UK:=by rw [qa];show (dD I3 QM).w=UK;rw [Qm];rfl
  have fa:(dD (aH Zo) QM).e=0:=by show (dD I3 QM).e=0;rw [Qm];rfl
  refine al ac 4 h rfl λf h=>aO (dV au au au au 0 0) h s wE rfl rfl λf w1 b3 h s=>aj 0 h s fj rfl rfl rfl (bX _ _ _ _ _ _) (bX _ _ _ _ _ _) (iL _ _ (bR (((s.getG 1 rfl) (dR _) (bO _)).1.ov.1)) (bR (((s.getG 1 rfl) (dR _) (bO _)).1.sv)) (bR (((s.getG 1 rfl) (dR _) (bO _)).1.ho)) (bR (((s.getG 1 rfl) (dR _) (bO _)).1.ml))) λw1 s=>e9 ac 2 h rfl λf h=>qr (ak 0 h s fj rfl rfl (bX _ _ _ _ _ _) rfl λf h=>am h (xi Ey rfl rfl rfl) rfl λf h=>bB h s Dz (yS Ya oa sa ha la hsA au _ ((s.getG 1 rfl) (dR _) (bO _)).1 (He ea af1) (by rw [ea];exact Rz) (bO _) (by decide) rfl (by rw [ea];rfl)) rfl rfl ?_);rintro f w1 v27 ⟨ob,sb,hb,lb,nb,Yb,kb,rfl,qb,hG⟩ hE h sq;replace s:=s.add hG;clear hG
  have eb:aH Yb=ug:=by rw [qb,ea,QG];rfl
  have fb:(dD (aH Ya) hsA).e=0:=by rw [ea,QG];rfl
  refine al ac 4 h rfl λf h=>aj 1 h s fj rfl rfl rfl (bX _ _ _ _ _ _) (bX _ _ _ _ _ _) (iL _ _ (bR (((s.getG 0 rfl) ((s.getG 2 rfl) (dR _) (bO _)).1 (bO _)).1.ov.1)) (bR (((s.getG 0 rfl) ((s.getG 2 rfl) (dR _) (bO _)).1 (bO _)).1.sv)) (bR (((s.getG 0 rfl) ((s.getG 2 rfl) (dR _) (bO _)).1 (bO _)).1.ho)) (bR (((s.getG 0 rfl) ((s.getG 2 rfl) (dR _) (bO _)).1 (bO _)).1.ml))) λw1 s=>e9 ac 2 h rfl λf h=>qr (ak 1 h s fj rfl rfl (bX _ _ _ _ _ _) rfl λf h=>am h (yV Cy rfl rfl) rfl λf h=>cU (vs:=[.agg (df (2,0#256,3))]) [.tmp 33] h s aC4 Ee rfl rfl (Wq _) rfl rfl rfl λf w1 v34 h s=>?_)
  replace s:=s.resl (m:=1) (ys:=eo [(2,0#256,3)]) 0 rfl rfl ((Xi _).trans (q7 _).symm)
  refine am h (zA [(2,0#256,3)] Ey (lM (br.of_own (s.getSl 0 rfl):gf _ v34 [(2,0#256,3)])) (jE (br.of_own (s.getSl 0 rfl):gf _ v34 [(2,0#256,3)])) rfl rfl (h.ev rfl) rfl) rfl λf h=>bB h s Dz (ye Yb ob sb hb lb qx v34 _ ((s.getG 1 rfl) ((s.getG 3 rfl) (dR _) (bO _)).1 (bO _)).1 (He eb ZK) (by rw [eb];exact Q9) (br.of_own (s.getSl 0 rfl):gf _ v34 [(2,0#256,3)]) (by decide) rfl) rfl rfl ?_;rintro f w1 v36 ⟨oc,sc,hc,lc,nc,Yc,kc,rfl,qc,hG⟩ hE h sq;replace s:=s.add hG;clear hG
  obtain ⟨p1,p2,p3,p4⟩:=W0
  rw [← eb] at p1 p2 p3 p4
  have mc:Yc.M.l.length=1:=by have h9:(aH Yc).ml.l.length=1:=by {rw [qc];exact p4};exact h9
  refine al ac 4 h rfl λf h=>aj 3 h s fj rfl rfl rfl (bX _ _ _ _ _ _) (bX _ _ _ _ _ _) (iL _ _ (bR (((s.getG 0 rfl) ((s.getG 2 rfl) ((s.getG 4 rfl) (dR _) (bO _)).1 (bO _)).1 (br.of_own (s.getSl 1 rfl):gf _ v34 [(2,0#256,3)])).1.ov.1)) (bR (((s.getG 0 rfl) ((s.getG 2 rfl) ((s.getG 4 rfl) (dR _) (bO _)).1 (bO _)).1 (br.of_own (s.getSl 1 rfl):gf _ v34 [(2,0#256,3)])).1.sv)) (bR (((s.getG 0 rfl) ((s.getG 2 rfl) ((s.getG 4 rfl) (dR _) (bO _)).1 (bO _)).1 (br.of_own (s.getSl 1 rfl):gf _ v34 [(2,0#256,3)])).1.ho)) (bR (((s.getG 0 rfl) ((s.getG 2 rfl) ((s.getG 4 rfl) (dR _) (bO _)).1 (bO _)).1 (br.of_own (s.getSl 1 rfl):gf _ v34 [(2,0#256,3)])).1.ml))) λw1 s=>e9 ac 2 h rfl λf h=>cw ac 1 h rfl λf h=>fy ac h rfl (by rw [fa];rfl) λf h=>al ac 2 h rfl λf h=>bF h rfl (fy ac h rfl (by rw [fb];rfl) λf h=>al ac 3 h rfl λf h=>bF h rfl (fy ac h rfl (by rw [p1];rfl) λf h=>al ac 3 h rfl λf h=>bF h rfl (bT h (((s.getG 0 rfl) ((s.getG 2 rfl) ((s.getG 4 rfl) (dR _) (bO _)).1 (bO _)).1 (br.of_own (s.getSl 1 rfl):gf _ v34 [(2,0#256,3)])).2) aC5 rfl rfl λf h=>bF h rfl (fy ac h rfl (by rw [p2];rfl) λf h=>al ac 3 h rfl λf h=>bF h rfl (am h (bg (((s.getG 0 rfl) ((s.getG 2 rfl) ((s.getG 4 rfl) (dR _) (bO _)).1 (bO _)).1 (br.of_own (s.getSl 1 rfl):gf _ v34 [(2,0#256,3)])).2) (0) aC5 Xc (h.ev rfl) (h.ev rfl) (rfl) (by omega)) rfl λf h=>bF h rfl (am h (bf C6 (h.ev rfl) ((((s.getG 0 rfl) ((s.getG 2 rfl) ((s.getG 4 rfl) (dR _) (bO _)).1 (bO _)).1 (br.of_own (s.getSl 1 rfl):gf _ v34 [(2,0#256,3)])).2).some (by omega))) rfl λf h=>bF h rfl (ag (V:=.int .i64 ((dD (aH Yb) qx).n.getD 0 Bu).k) (dq (((s.getG 0 rfl) ((s.getG 2 rfl) ((s.getG 4 rfl) (dR _) (bO _)).1 (bO _)).1 (br.of_own (s.getSl 1 rfl):gf _ v34 [(2,0#256,3)])).2) (0*74+0) (X8 (by omega))) h bu rfl rfl λf h=>bF h rfl (fy ac h rfl (by rw [p3];rfl) λf h=>al ac 4 h rfl λf h=>bF h rfl (ag (V:=lc) (ae (aF.of_own s 3 rfl) 3 (qk _ _ _ _ _ _)) h fh rfl rfl λf h=>bF h rfl (bT h (((s.getG 0 rfl) ((s.getG 2 rfl) ((s.getG 4 rfl) (dR _) (bO _)).1 (bO _)).1 (br.of_own (s.getSl 1 rfl):gf _ v34 [(2,0#256,3)])).1.ml) aC3 rfl rfl λf h=>bF h rfl (fy ac h rfl (by rw [mc];rfl) λf h=>e9 ac 2 h rfl λf h=>av8 (aA rfl h s rfl (rfl)))))))))))))
set_option maxHeartbeats 1000000 in
theorem Cl (vo vs vh vl vn:Value) (X:Wx) (kk:List Nat) (bc:Nat) (B9:List Own) (a:Ac) (va:Value)  (w0 w:World) (s:St w0 (.blk bc (.cells (dZ vo vs vh vl X.M.last X.M.now vn) 83)::.sl vs 46 3 X.S.length (aR X.S)::.sl vh 66 5 X.H.length (aM X.H)::.sl vn 59 74 ([]:List Nt).length (aW ([]:List Nt))::.grp kk (λw9=>RdC w9 vo vl X)::B9) w) (hbd:BdW (aH X)) (hrt:cg (aH X)=true) (hU:∀ w9,St w0 B9 w9->gf w9 va a.l):Calls Tryz.prog 37 [.pointer (some ⟨bc,0,none⟩),.agg (bM a va)].toArray w (λe w9=>∃ v,e=.returned v/\Cf w0 bc 83 46 66 59 (Ga (aH X)) B9 v w9):=by
 refine cO Tryz.func37 rfl Tryz.ntmps37 rfl [(0,.pointer (some ⟨bc,0,none⟩)),(1,.agg (bM a va))] (by simp) λf h=>?_
 refine qr (aZ (bM a va) h s rfl rfl rfl λf w1 b3 h s=>e9 ac 1 h rfl λf h=>cw ac 4 h rfl λf h=>az (aF.subL (aF.of_own s 1 rfl) 0 1 (D:=#[vo]) (Vl _ _ _ _ _ _ _)) h cc rfl (rfl) rfl λf h=>bB h s WJ (BE X.L vo _ (s.getG 5 rfl).ov hbd.ox hbd.oe) rfl rfl ?_);rintro f w1 v13 ⟨o9,rfl,vp,L1,k1,rfl,hL1,hG⟩ hE h sq;replace s:=s.add hG;clear hG
 refine al ac 3 h rfl λf h=>aO (#[au]) h s qF rfl rfl λf w1 b5 h s=>aj 0 h s cc rfl rfl rfl (rfl) (rfl) (ey (bR ((s.getG 1 rfl) (s.getG 7 rfl).ov).1)) λw1 s=>e9 ac 1 h rfl λf h=>cw ac 1 h rfl λf h=>ak 0 h s cc rfl rfl (rfl) rfl λf h=>al ac 3 h rfl λf h=>eg 3 h s cc rfl rfl rfl (rfl) (by rw [gH];omega) (ey (bR ((s.getG 1 rfl) (s.getG 7 rfl).ov).1)) λw1 s=>?_
 replace s:=s.recell (D:=dZ vp vs vh vl X.M.last X.M.now vn) 3 rfl rfl
 refine nt (bJ ac 2 h rfl λf h=>av8 (dG rfl h rfl (by replace s:=s.bring 6 rfl;replace s:=s.bring 6 rfl;replace s:=s.bring 6 rfl;replace s:=s.bring 6 rfl;replace s:=s.bring 7 rfl;replace s:=s.bring 6 rfl;exact ⟨_,rfl,by have z9:=SB (X:=X) hrt hL1 (s.pick _ (ar2 _ (ar2 _ (ar2 _ (ar2 _ (ar2 _ (ar2 _ (ar3 _ (ar3 _ (List.Sublist.refl _))))))))));rw [z9.1];exact z9.2⟩)))
theorem yl (X:Wx) (vo vs vh vl:Value) (a:Ac) (va:Value) (w:World) (hX:RdW w vo vs vh vl X) (hb:BdW (aH X)) (hr:cg (aH X)=true) (hA:gf w va a.l) (hal:a.l.length<=1000) (hk:a.k=4):Calls Tryz.prog 10 [.agg (dV vo vs vh vl X.M.last X.M.now),.agg (bM a va)].toArray w (cd w (GT w vo vs vh vl X va a.l (dD (aH X) a))):=by
 refine fC X vo vs vh vl a va 37 w hX hb hr hA (by omega) (by omega) ⟨_,by rw [hk];rfl⟩ Xm ?_
 intro po ps ph pl pn Y kk c B9 w0 w1 hY hU s
 have hb9:BdW (aH Y):=by rw [hY];exact hb
 have hr9:cg (aH Y)=true:=by rw [hY];exact hr
 have h:=Cl po ps ph pl pn Y kk c B9 a va w0 w1 s hb9 hr9 hU
 rw [hY] at h
 rw [hk]
 exact h
theorem zw (X:Wx) (vo vs vh vl:Value) (a:Ac) (va:Value) (w:World) (hX:RdW w vo vs vh vl X) (hb:BdW (aH X)) (hr:cg (aH X)=true) (hA:gf w va a.l) (hal:a.l.length<=1000) (hk:a.k=5):Calls Tryz.prog 10 [.agg (dV vo vs vh vl X.M.last X.M.now),.agg (bM a va)].toArray w (cd w (GT w vo vs vh vl X va a.l (dD (aH X) a))):=by
 refine fC X vo vs vh vl a va 38 w hX hb hr hA (by omega) (by omega) ⟨_,by rw [hk];rfl⟩ WO ?_
 intro po ps ph pl pn Y kk c B9 w0 w1 hY hU s
 have hb9:BdW (aH Y):=by rw [hY];exact hb
 have hr9:cg (aH Y)=true:=by rw [hY];exact hr
 have h:=Ch po ps ph pl pn Y kk c B9 a va w0 w1 s hb9 hU
 rw [hY] at h
 rw [hk]
 exact h
theorem vW (X:Wx) (vo vs vh vl:Value) (a:Ac) (va:Value) (w:World) (hX:RdW w vo vs vh vl X) (hb:BdW (aH X)) (hr:cg (aH X)=true) (hA:gf w va a.l) (hal:a.l.length<=1000) (hk:a.k=12):Calls Tryz.prog 10 [.agg (dV vo vs vh vl X.M.last X.M.now),.agg (bM a va)].toArray w (cd w (GT w vo vs vh vl X va a.l (dD (aH X) a))):=by
 refine fC X vo vs vh vl a va 45 w hX hb hr hA (by omega) (by omega) ⟨_,by rw [hk];rfl⟩ Xo ?_
 intro po ps ph pl pn Y kk c B9 w0 w1 hY hU s
 have hb9:BdW (aH Y):=by rw [hY];exact hb
 have hr9:cg (aH Y)=true:=by rw [hY];exact hr
 have h:=AH po ps ph pl pn Y kk c B9 a va w0 w1 s hb9 hU
 rw [hY] at h
 rw [hk]
 exact h
theorem vg (X:Wx) (vo vs vh vl:Value) (a:Ac) (va:Value) (w:World) (hX:RdW w vo vs vh vl X) (hb:BdW (aH X)) (hr:cg (aH X)=true) (hA:gf w va a.l) (hal:a.l.length<=1000) (hk:a.k=13):Calls Tryz.prog 10 [.agg (dV vo vs vh vl X.M.last X.M.now),.agg (bM a va)].toArray w (cd w (GT w vo vs vh vl X va a.l (dD (aH X) a))):=by
 refine fC X vo vs vh vl a va 46 w hX hb hr hA (by omega) (by omega) ⟨_,by rw [hk];rfl⟩ XB ?_
 intro po ps ph pl pn Y kk c B9 w0 w1 hY hU s
 have hb9:BdW (aH Y):=by rw [hY];exact hb
 have hr9:cg (aH Y)=true:=by rw [hY];exact hr
 have h:=Cc po ps ph pl pn Y kk c B9 a va w0 w1 s hb9 hU
 rw [hY] at h
 rw [hk]
 exact h
theorem w5 (X:Wx) (vo vs vh vl:Value) (a:Ac) (va:Value) (w:World) (hX:RdW w vo vs vh vl X) (hb:BdW (aH X)) (hr:cg (aH X)=true) (hA:gf w va a.l) (hal:a.l.length<=1000) (hk:a.k=14):Calls Tryz.prog 10 [.agg (dV vo vs vh vl X.M.last X.M.now),.agg (bM a va)].toArray w (cd w (GT w vo vs vh vl X va a.l (dD (aH X) a))):=by
 refine fC X vo vs vh vl a va 47 w hX hb hr hA (by omega) (by omega) ⟨_,by rw [hk];rfl⟩ YE ?_
 intro po ps ph pl pn Y kk c B9 w0 w1 hY hU s
 have hb9:BdW (aH Y):=by rw [hY];exact hb
 have hr9:cg (aH Y)=true:=by rw [hY];exact hr
 have h:=BW po ps ph pl pn Y kk c B9 a va w0 w1 s hb9 hU
 rw [hY] at h
 rw [hk]
 exact h
theorem xz (X:Wx) (vo vs vh vl:Value) (kd n:Int) (w:World) (hX:RdW w vo vs vh vl X) (hb:BdW (aH X)) (hr:cg (aH X)=true):Calls Tryz.prog 10 [.agg (dV vo vs vh vl X.M.last X.M.now),.agg (bM (jU (gy (pq kd 5)) n) au)].toArray w (cd w (GT w vo vs vh vl X au [] (dD (aH X) (jU (gy (pq kd 5)) n)))):=by
 obtain ⟨i,hi⟩:∃ i,i=pq kd 5:=⟨_,rfl⟩
 have h5:i<5:=by rw [hi];exact(Yg kd).2
 rw [← hi]
 match i,h5 with
 |0,_=>exact yl X vo vs vh vl _ au w hX hb hr (bO _) (at8 _) rfl
 |1,_=>exact zw X vo vs vh vl _ au w hX hb hr (bO _) (at8 _) rfl
 |2,_=>exact vW X vo vs vh vl _ au w hX hb hr (bO _) (at8 _) rfl
 |3,_=>exact vg X vo vs vh vl _ au w hX hb hr (bO _) (at8 _) rfl
 |4,_=>exact w5 X vo vs vh vl _ au w hX hb hr (bO _) (at8 _) rfl
set_option maxHeartbeats 4000000 in
theorem zk (X:Wx) (vo vs vh vl:Value) (kd n:Int) (w:World) (hX:RdW w vo vs vh vl X) (hbL:X.L.length<=maxLen) (hbS:X.S.length<=maxLen) (hbH:X.H.length<=maxLen):Calls Tryz.prog 4 [.agg (dV vo vs vh vl X.M.last X.M.now),.int .i64 kd,.int .i64 n].toArray w (cd w (is (.bool true))):=by
 obtain ⟨hr1,hi9⟩:=Yg kd
 have htm:=ac2 kd (show (1:Int)<=5 by decide)
 refine bN Tryz.func4 rfl Tryz.ntmps4 rfl λf h s=>qr (aZ (dV vo vs vh vl X.M.last X.M.now) h s rfl rfl rfl λf w1 b3 h s=>e9 ac 1 h rfl λf h=>ah (ah ?_))
 refine aG (ak 0 h s fj rfl rfl (bX _ _ _ _ _ _) rfl λf h=>eC h s Z3 (IK X vo vs vh vl _ (hX.keep s.ext) hbL hbS hbH) rfl rfl (λb0 f w1 h s=>?_) (λb0 f w1 h s=>?_))
 ·skip
  refine al ac 1 h rfl λf h=>bF h rfl (ak 0 h s fj rfl rfl (bX _ _ _ _ _ _) rfl λf h=>bF h rfl (eC h s YZ (pv X vo vs vh vl _ (hX.keep s.ext) (H5 b0)) rfl rfl (λr0 f w1 h s=>?_) (λr0 f w1 h s=>?_)))
  ·refine e9 ac 2 h rfl λf h=>dw h rfl (qr (dM h s Fb (gW _) rfl rfl λf w1 h s=>e9 ac 1 h rfl λf h=>rt (aA rfl h s rfl (rfl))))
  ·refine e9 ac 2 h rfl λf h=>mQ h rfl (qr ?_)
   have hb:=H5 b0
   refine cU (vs:=[.int .i64 4,.int .i64 5,.int .i64 12,.int .i64 13,.int .i64 14]) [.const (.int .i64 (4)),.const (.int .i64 (5)),.const (.int .i64 (12)),.const (.int .i64 (13)),.const (.int .i64 (14))] h s aC7 SS rfl rfl (SD) rfl rfl rfl λf w1 v19 h s=>?_
   replace s:=s.resl (m:=5) (ys:=Zw) 0 rfl rfl rfl
   refine e9 ac 1 h rfl λf h=>cw ac 2 h rfl λf h=>am h (M3 (h.ev rfl) (h.ev rfl) (by omega)) rfl λf h=>am h (bY (h.ev rfl) (h.ev rfl) (by omega)) rfl λf h=>am h (a8 (.int .i64 (((pq kd 5):Nat):Int)) (Uh (h.ev rfl) (h.ev rfl) (by omega)) (ar8 (Value.int .i64) hr1)) rfl λf h=>am h (bg (br.of_own (s.getSl 0 rfl)) ((pq kd 5)) aC7 Xt (h.ev rfl) (h.ev rfl) (rfl) (hi9)) rfl λf h=>ag ((br.of_own (s.getSl 0 rfl)).el1 ((pq kd 5)) (V:=.int .i64 (gy (pq kd 5))) (Th hi9)) h bu rfl rfl λf h=>e9 ac 1 h rfl λf h=>qr (ak 1 h s fj rfl rfl (bX _ _ _ _ _ _) rfl λf h=>al ac 2 h rfl λf h=>am h (xv Ey (h.ev rfl) (h.ev rfl)) rfl λf h=>bB h s Dz (xz X vo vs vh vl kd n _ (hX.keep s.ext) hb r0) rfl rfl ?_);rintro f w1 v32 ⟨oa,sa,ha,la,na,Ya,ka,rfl,qa,hG⟩ hE h sq;replace s:=s.add hG;clear hG
   refine al ac 4 h rfl λf h=>aO (dV au au au au 0 0) h s wE rfl rfl λf w1 b8 h s=>aj 0 h s fj rfl rfl rfl (bX _ _ _ _ _ _) (bX _ _ _ _ _ _) (iL _ _ (bR (((s.getG 1 rfl) (hX.keep s.ext) (bO _)).1.ov.1)) (bR (((s.getG 1 rfl) (hX.keep s.ext) (bO _)).1.sv)) (bR (((s.getG 1 rfl) (hX.keep s.ext) (bO _)).1.ho)) (bR (((s.getG 1 rfl) (hX.keep s.ext) (bO _)).1.ml))) λw1 s=>e9 ac 2 h rfl λf h=>ah (ah ?_)
   cases e0:(decide ((dD (aH X) (jU (gy (pq kd 5)) n)).e=0):Bool)
   ·refine rs ac 1 h rfl λf h=>fy ac h rfl (by simpa using e0) λf h=>gh h rfl (qr (jc true h s Fb (gW _) (rfl) rfl rfl λf w1 h s=>al ac 2 h rfl λf h=>bF h rfl (bT h (((s.getG 1 rfl) (hX.keep s.ext) (bO _)).2) aC5 rfl rfl λf h=>bF h rfl (fy ac h rfl (by rw [xZ r0 hi9];rfl) λf h=>e9 ac 2 h rfl λf h=>rt (aA rfl h s rfl (rfl))))))
   ·refine rs ac 1 h rfl λf h=>eF ac h rfl (by simpa using e0) λf h=>fL h rfl (ah (ah ?_))
    refine rs ac 1 h rfl λf h=>iV ac h rfl (λkk0 f h=>?_) (λkk0 f h=>?_)
    ·refine fL h rfl (ah (ah ?_))
     refine rs ac 1 h rfl λf h=>iV ac h rfl (λkk1 f h=>?_) (λkk1 f h=>?_)
     ·refine fL h rfl (ah (cw ac 1 h rfl λf h=>?_))
      have hi2:=Ss hi9 (ar5 kk0) (ar5 kk1)
      refine fy ac h rfl (ar7 hi2.2) λf h=>gh h rfl (rs ac 1 h rfl λf h=>az (aF.subL (aF.of_own s 3 rfl) 3 3 (D:=#[vl,.int .i64 X.M.last,.int .i64 X.M.now]) (We _ _ _ _ _ _)) h bV rfl (rfl) rfl λf h=>al ac 1 h rfl λf h=>eg 0 h s bV rfl rfl rfl (rfl) (by rw [bX];omega) (nF _ _ (bR (hX.ml.keep s.ext))) λw1 s=>?_)
      replace s:=s.recell (D:=dV oa sa ha vl X.M.last X.M.now) 0 rfl rfl
      refine nt (qr (jc true h s Fb (gW _) (rfl) rfl rfl λf w1 h s=>al ac 2 h rfl λf h=>bF h rfl (bT h (((s.getG 1 rfl) (hX.keep s.ext) (bO _)).2) aC5 rfl rfl λf h=>bF h rfl (fy ac h rfl (by rw [xZ r0 hi9];rfl) λf h=>al ac 2 h rfl λf h=>bF h rfl (ak 0 h s fj rfl rfl (bX _ _ _ _ _ _) rfl λf h=>bF h rfl (ak 3 h s fj rfl rfl (bX _ _ _ _ _ _) rfl λf h=>bF h rfl (jc true h s LW (mG ⟨Ya.L,Ya.S,Ya.H,X.M⟩ oa sa ha vl X vo vs vh vl _ ⟨((s.getG 1 rfl) (hX.keep s.ext) (bO _)).1.ov,((s.getG 1 rfl) (hX.keep s.ext) (bO _)).1.sv,((s.getG 1 rfl) (hX.keep s.ext) (bO _)).1.sw,((s.getG 1 rfl) (hX.keep s.ext) (bO _)).1.ho,((s.getG 1 rfl) (hX.keep s.ext) (bO _)).1.hw,(hX.keep s.ext).ml⟩ (hX.keep s.ext) (He (Ir r0 qa hi9 hi2.1 (ar4 e0)) hb) hb) (rA (Ir r0 qa hi9 hi2.1 (ar4 e0))) rfl rfl λf w1 h s=>e9 ac 2 h rfl λf h=>av8 (aA rfl h s rfl (rfl)))))))))
     ·refine gh h rfl (rs ac 2 h rfl λf h=>ag (V:=.int .i64 X.M.now) (ae (aF.of_own s 3 rfl) 5 (Tw _ _ _ _ _ _)) h bu rfl rfl λf h=>al ac 2 h rfl λf h=>aJ 0 h s bu rfl rfl rfl (by rw [bX];omega) (rfl) λw1 s=>?_)
      replace s:=s.recell (D:=dV oa sa ha la Ya.M.last (X.M.now)) 0 rfl (rfl)
      refine nt (ah (cw ac 1 h rfl λf h=>eF ac h rfl (by rw [ar4 kk1];rfl) λf h=>fL h rfl (qr (jc true h s Fb (gW _) (rfl) rfl rfl λf w1 h s=>al ac 2 h rfl λf h=>bF h rfl (bT h (((s.getG 1 rfl) (hX.keep s.ext) (bO _)).2) aC5 rfl rfl λf h=>bF h rfl (fy ac h rfl (by rw [xZ r0 hi9];rfl) λf h=>al ac 2 h rfl λf h=>bF h rfl (ak 0 h s fj rfl rfl (bX _ _ _ _ _ _) rfl λf h=>bF h rfl (ak 3 h s fj rfl rfl (bX _ _ _ _ _ _) rfl λf h=>bF h rfl (jc true h s LW (mG ⟨Ya.L,Ya.S,Ya.H,⟨Ya.M.l,Ya.M.last,X.M.now⟩⟩ oa sa ha la X vo vs vh vl _ ⟨((s.getG 1 rfl) (hX.keep s.ext) (bO _)).1.ov,((s.getG 1 rfl) (hX.keep s.ext) (bO _)).1.sv,((s.getG 1 rfl) (hX.keep s.ext) (bO _)).1.sw,((s.getG 1 rfl) (hX.keep s.ext) (bO _)).1.ho,((s.getG 1 rfl) (hX.keep s.ext) (bO _)).1.hw,((s.getG 1 rfl) (hX.keep s.ext) (bO _)).1.ml⟩ (hX.keep s.ext) (He (I2 r0 qa (Im hi9 (ar4 kk1)) (ar4 e0)) hb) hb) (rA (I2 r0 qa (Im hi9 (ar4 kk1)) (ar4 e0))) rfl rfl λf w1 h s=>e9 ac 2 h rfl λf h=>av8 (aA rfl h s rfl (rfl)))))))))))
    ·refine gh h rfl (rs ac 1 h rfl λf h=>az (aF.subL (aF.of_own s 3 rfl) 0 1 (D:=#[vo]) (LB _ _ _ _ _ _)) h cc rfl (rfl) rfl λf h=>al ac 1 h rfl λf h=>eg 0 h s cc rfl rfl rfl (rfl) (by rw [bX];omega) (ey (bR (hX.ov.1.keep s.ext))) λw1 s=>?_)
     replace s:=s.recell (D:=dV vo sa ha la Ya.M.last Ya.M.now) 0 rfl rfl
     refine nt (ah (cw ac 1 h rfl λf h=>eF ac h rfl (by rw [ar4 kk0];rfl) λf h=>fL h rfl (ah (cw ac 1 h rfl λf h=>eF ac h rfl (by rw [ar4 kk0];rfl) λf h=>fL h rfl (qr (jc true h s Fb (gW _) (rfl) rfl rfl λf w1 h s=>al ac 2 h rfl λf h=>bF h rfl (bT h (((s.getG 1 rfl) (hX.keep s.ext) (bO _)).2) aC5 rfl rfl λf h=>bF h rfl (fy ac h rfl (by rw [xZ r0 hi9];rfl) λf h=>al ac 2 h rfl λf h=>bF h rfl (ak 0 h s fj rfl rfl (bX _ _ _ _ _ _) rfl λf h=>bF h rfl (ak 3 h s fj rfl rfl (bX _ _ _ _ _ _) rfl λf h=>bF h rfl (jc true h s LW (mG ⟨X.L,Ya.S,Ya.H,Ya.M⟩ vo sa ha la X vo vs vh vl _ ⟨(hX.keep s.ext).ov,((s.getG 1 rfl) (hX.keep s.ext) (bO _)).1.sv,((s.getG 1 rfl) (hX.keep s.ext) (bO _)).1.sw,((s.getG 1 rfl) (hX.keep s.ext) (bO _)).1.ho,((s.getG 1 rfl) (hX.keep s.ext) (bO _)).1.hw,((s.getG 1 rfl) (hX.keep s.ext) (bO _)).1.ml⟩ (hX.keep s.ext) (He (If r0 qa (JZ hi9 (ar4 kk0))) hb) hb) (rA (If r0 qa (JZ hi9 (ar4 kk0)))) rfl rfl λf w1 h s=>e9 ac 2 h rfl λf h=>av8 (aA rfl h s rfl (rfl)))))))))))))
 ·refine e9 ac 5 h rfl λf h=>dw h rfl (qr (dM h s Fb (gW _) rfl rfl λf w1 h s=>e9 ac 1 h rfl λf h=>rt (aA rfl h s rfl (rfl))))
end Go.Proofs.YtkhepdpfdhdlaaaGreatDoor
