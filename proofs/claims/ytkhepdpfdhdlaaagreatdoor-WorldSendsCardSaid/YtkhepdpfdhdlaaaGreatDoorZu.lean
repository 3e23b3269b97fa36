/- Package world and what it stands on, so far as it is wanted: what each function answers. -/
import Derived.Test.YtkhepdpfdhdlaaaGreatDoorZs
import Derived.Test.YtkhepdpfdhdlaaaGreatDoorZt
import Derived.Test.YtkhepdpfdhdlaaaGreatDoorZo
import Derived.Test.YtkhepdpfdhdlaaaGreatDoorZc
import Derived.Test.YtkhepdpfdhdlaaaGreatDoorZi
import Derived.Test.YtkhepdpfdhdlaaaGreatDoorZr
set_option linter.unusedVariables false
set_option linter.unusedSimpArgs false
set_option linter.unusedSectionVars false
namespace Go.Proofs.YtkhepdpfdhdlaaaGreatDoor
open Go.RowKit
theorem FZ (Sx:List V2) (L:List N3) (vs vo:Value)  (w:World) (hS:bp w vs 3 Sx.length (aQ Sx)) (hT:∀ x∈Sx,MX w x.2 x.1.tb) (hO:kC w vo L) (hSb:∀ x∈Sx,x.1.tb.length<=1000) (hSl:Sx.length<=1000) (hL:L.length<=40):Calls Tryz.prog 15 [vs,.agg #[vo]].toArray w (bW w (is (.bool (lQ Sx L)))):=by
 refine bG Tryz.func15 rfl Tryz.ntmps15 rfl λf h s=>qr (bh (#[vo]) h s rfl rfl rfl λf w1 b3 h s=>e9 ac 1 h rfl λf h=>ah (ah ?_))
 cases l0:(decide (Sx.length=L.length):Bool)
 ·refine rs ac 1 h rfl λf h=>ce h (hS.keep s.ext) Z9 rfl rfl λf h=>ap ac 1 h rfl λf h=>ag (V:=vo) (ae (aJ.of_own s 0 rfl) 0 rfl) h eG rfl rfl λf h=>ce h (hO.1.keep s.ext) Z8 rfl rfl λf h=>gO ac h rfl (by have h9:=Yr l0;simp;omega) λf h=>ie h rfl (bF ac 1 h rfl λf h=>rt (au rfl h s rfl (by show _=_;rw [QN (Yr l0)])))
 ·refine rs ac 1 h rfl λf h=>ce h (hS.keep s.ext) Z9 rfl rfl λf h=>ap ac 1 h rfl λf h=>ag (V:=vo) (ae (aJ.of_own s 0 rfl) 0 rfl) h eG rfl rfl λf h=>ce h (hO.1.keep s.ext) Z8 rfl rfl λf h=>kw ac h rfl (by have h9:=Yq l0;simp;omega) λf h=>f7 h rfl (ah (cu ac 1 h rfl λf h=>ce h (hS.keep s.ext) Z9 rfl rfl λf h=>e9 ac 1 h rfl λf h=>Y9 (Zb (λnn aa ww=>∃ k:Nat,Sl 36 aa [(0,vs),(1,.agg #[vo]),(3,.pointer (some ⟨b3,0,none⟩)),(13,vs),(14,.int .i64 (Sx.length:Int)),(15,.int .i64 (k:Int))]/\St w [.blk b3 (.cells (#[vo]) 24)] ww/\nn=Sx.length - k/\k<=Sx.length/\∀ j,j<k->(eL (Sx.getD j er).1 && decide ((Sx.getD j er).1.no=(L.getD j z3).1.me.1))=true) (Sx.length - (0)) ⟨0,h.only ⟨rfl,rfl,rfl,rfl,rfl,av rfl (by omega),trivial⟩,s.as ⟨rfl,trivial⟩,rfl,YO _,λj hj=>ZF hj (Zl _)⟩ ?_)))
  rintro _ f w1 ⟨k,h,s,hnn,hp0,hp1⟩
  refine bF ac 1 h rfl λf h=>ah (dq h rfl (λhc=>?_) (λhc=>?_))
  ·refine kt (ah (Y9 (cu ac 1 h rfl λf h=>?_)))
   have hkl:k<Sx.length:=by omega
   have hko:k<L.length:=by have:=Yq l0;omega
   refine ai h (bz (hS.keep s.ext) (k) Z9 A5 (h.ev rfl) (h.ev rfl) (by omega) (by omega)) rfl λf h=>aB ((hS.keep s.ext).el (k) (by omega) (by decide) (D:=de (Sx.getD k er).1.no (Sx.getD k er).1.sec (Sx.getD k er).2) (MK _ k hkl)) h i8 rfl (cB _ _ _) rfl λf h=>aS (de 0 ByteArray.empty aj) h s zD rfl rfl λf w1 b6 h s=>ap ac 1 h rfl λf h=>ak 0 h s i8 rfl rfl rfl (cB _ _ _) (cB _ _ _) (kR _ _ (bf ((hT _ (ga hkl)).keep s.ext))) λw1 s=>nt (ah ?_)
   cases s0:(eL (Sx.getD k er).1:Bool)
   ·refine dF 15 h (by kernel_rfl) (ba 0 h s i8 rfl rfl (cB _ _ _) rfl λf h=>bj h Fw (λw9 hE9=>aX (.bool false) (lB (Sx.getD k er).1 (Sx.getD k er).2 w9 ((hT _ (ga hkl)).keep (s.ext.trans hE9)) (hSb _ (ga hkl))) (Yu Value.bool s0)) rfl rfl λf h=>aq ac 13 h rfl λf h=>bQ s λw1 s=>ie h rfl (bF ac 1 h rfl λf h=>Y8 (bo (aV (aV (bo (aV (au rfl h s rfl (by show _=_;rw [xn hkl (by rw [s0];rfl)])))))))))
   ·skip
    cases s1:(decide ((Sx.getD k er).1.no=(L.getD k z3).1.me.1):Bool)
    ·refine dF 15 h (by kernel_rfl) (ba 0 h s i8 rfl rfl (cB _ _ _) rfl λf h=>bj h Fw (λw9 hE9=>aX (.bool true) (lB (Sx.getD k er).1 (Sx.getD k er).2 w9 ((hT _ (ga hkl)).keep (s.ext.trans hE9)) (hSb _ (ga hkl))) (Yu Value.bool s0)) rfl rfl λf h=>aq ac 3 h rfl λf h=>a6 h rfl (ao (V:=.int .i64 (Sx.getD k er).1.no) (ae (aJ.of_own s 0 rfl) 0 (ED _ _ _)) h bs rfl rfl λf h=>aq ac 1 h rfl λf h=>a6 h rfl (ao (V:=vo) (ae (aJ.of_own s 1 rfl) 0 rfl) h eG rfl rfl λf h=>aq ac 1 h rfl λf h=>a6 h rfl (ar h (bz (hO.1.keep s.ext) (k) Z8 r4 (h.ev rfl) (h.ev rfl) (by omega) (by omega)) rfl λf h=>a6 h rfl (ar h (aW fu (h.ev rfl) ((hO.1.keep s.ext).some (by omega))) rfl λf h=>a6 h rfl (ar h (aW lR (h.ev rfl) ((hO.1.keep s.ext).some (by omega))) rfl λf h=>a6 h rfl (ao (V:=.int .i64 (L.getD k z3).1.me.1) (cX (hO.1.keep s.ext) (k*68+0) (A6 _ k hko)) h bs rfl rfl λf h=>a6 h rfl (je ac h rfl (by simpa using s1) λf h=>aq ac 1 h rfl λf h=>bQ s λw1 s=>ie h rfl (bF ac 1 h rfl λf h=>Y8 (bo (aV (aV (bo (aV (au rfl h s rfl (by show _=_;rw [xn hkl (by rw [s0,s1];rfl)]))))))))))))))))
    ·refine dF 15 h (by kernel_rfl) (ba 0 h s i8 rfl rfl (cB _ _ _) rfl λf h=>bj h Fw (λw9 hE9=>aX (.bool true) (lB (Sx.getD k er).1 (Sx.getD k er).2 w9 ((hT _ (ga hkl)).keep (s.ext.trans hE9)) (hSb _ (ga hkl))) (Yu Value.bool s0)) rfl rfl λf h=>aq ac 3 h rfl λf h=>a6 h rfl (ao (V:=.int .i64 (Sx.getD k er).1.no) (ae (aJ.of_own s 0 rfl) 0 (ED _ _ _)) h bs rfl rfl λf h=>aq ac 1 h rfl λf h=>a6 h rfl (ao (V:=vo) (ae (aJ.of_own s 1 rfl) 0 rfl) h eG rfl rfl λf h=>aq ac 1 h rfl λf h=>a6 h rfl (ar h (bz (hO.1.keep s.ext) (k) Z8 r4 (h.ev rfl) (h.ev rfl) (by omega) (by omega)) rfl λf h=>a6 h rfl (ar h (aW fu (h.ev rfl) ((hO.1.keep s.ext).some (by omega))) rfl λf h=>a6 h rfl (ar h (aW lR (h.ev rfl) ((hO.1.keep s.ext).some (by omega))) rfl λf h=>a6 h rfl (ao (V:=.int .i64 (L.getD k z3).1.me.1) (cX (hO.1.keep s.ext) (k*68+0) (A6 _ k hko)) h bs rfl rfl λf h=>a6 h rfl (jf ac h rfl (by simpa using s1) λf h=>aq ac 1 h rfl λf h=>bQ s λw1 s=>yV h rfl (wpIn_skip (bw (aO (aG (ai h (bS (h.ev rfl) (h.ev rfl) (by omega)) rfl λf h=>e9 ac 1 h rfl λf h=>?_)))))))))))))
     exact ⟨_,by omega,⟨k+1,h.only ⟨rfl,rfl,rfl,rfl,rfl,av rfl (by omega),trivial⟩,St.as (s.pick _ (YJ [_] _)) ⟨rfl,trivial⟩,rfl,by omega,fm hp1 (by rw [s0,s1];rfl)⟩⟩
  ·refine Za (a7 (a7 (cd (aO (bF ac 1 h rfl λf h=>Y8 (au rfl h s rfl (by show _=_;rw [DB (Yq l0) (λj hj=>hp1 j (by omega))])))))))
set_option maxHeartbeats 1000000 in
theorem nH (X:Wx) (vo vs vh vl:Value)  (w:World) (hX:RdW w vo vs vh vl X) (hb:BdW (ax X)):Calls Tryz.prog 7 [.agg (dM vo vs vh vl X.M.last X.M.now)].toArray w (bW w (is (.bool (cj (ax X))))):=by
 have hbM:X.M.l.length<=100:=hb.ml
 refine bG Tryz.func7 rfl Tryz.ntmps7 rfl λf h s=>qr (bh (dM vo vs vh vl X.M.last X.M.now) h s rfl rfl rfl λf w1 b1 h s=>e9 ac 1 h rfl λf h=>ah ?_)
 refine rs ac 1 h rfl λf h=>aB (aJ.subL (aJ.of_own s 0 rfl) 0 1 (D:=#[vo]) (Ur _ _ _ _ _ _)) h cv rfl (rfl) rfl λf h=>eK h s S6 (Dh X.L vo _ (hX.keep s.ext).ov hb.ox hb.oe) rfl rfl (λo0 f w1 h s=>?_) (λo0 f w1 h s=>?_)
 ·refine e9 ac 18 h rfl λf h=>Y8 (au rfl h s rfl (by show _=_;rw [yJ,o0];rfl))
 ·skip
  refine ap ac 2 h rfl λf h=>bX h rfl (ag (V:=vs) (ae (aJ.of_own s 0 rfl) 1 (zL _ _ _ _ _ _)) h kL rfl rfl λf h=>ap ac 1 h rfl λf h=>bX h rfl (aB (aJ.subL (aJ.of_own s 0 rfl) 0 1 (D:=#[vo]) (Ur _ _ _ _ _ _)) h cv rfl (rfl) rfl λf h=>bX h rfl (eK h s TI (FZ X.S X.L vs vo _ (hX.keep s.ext).sv (hX.keep s.ext).sw (hX.keep s.ext).ov hb.s9 hb.s8 hb.ox) rfl rfl (λs0 f w1 h s=>?_) (λs0 f w1 h s=>?_))))
  ·refine e9 ac 12 h rfl λf h=>Y8 (au rfl h s rfl (by show _=_;rw [yJ,o0,s0];rfl))
  ·skip
   refine ap ac 3 h rfl λf h=>bX h rfl (ag (V:=vh) (ae (aJ.of_own s 0 rfl) 2 (yA _ _ _ _ _ _)) h jl rfl rfl λf h=>bX h rfl (eK h s TH (Hm X.H vh _ (hX.keep s.ext).ho (hX.keep s.ext).hw hb.h9 hb.h8) rfl rfl (λh0 f w1 h s=>?_) (λh0 f w1 h s=>?_)))
   ·refine e9 ac 7 h rfl λf h=>Y8 (au rfl h s rfl (by show _=_;rw [yJ,o0,s0,h0];rfl))
   ·skip
    refine ap ac 3 h rfl λf h=>bX h rfl (aB (aJ.subL (aJ.of_own s 0 rfl) 3 3 (D:=#[vl,.int .i64 X.M.last,.int .i64 X.M.now]) (VG _ _ _ _ _ _)) h dP rfl (rfl) rfl λf h=>bX h rfl (eK h s Mv (qx X.M vl _ (hX.keep s.ext).ml (by omega)) rfl rfl (λm0 f w1 h s=>?_) (λm0 f w1 h s=>?_)))
    ·refine e9 ac 2 h rfl λf h=>Y8 (au rfl h s rfl (by show _=_;rw [yJ,o0,s0,h0,m0];rfl))
    ·refine e9 ac 2 h rfl λf h=>Y8 (au rfl h s rfl (by show _=_;rw [yJ,o0,s0,h0,m0];rfl))
set_option maxHeartbeats 2000000 in
theorem iR (X:Wx) (vo vs vh vl:Value) (a:Ac) (va:Value) (fn:Nat)  (w:World) (hX:RdW w vo vs vh vl X) (hb:BdW (ax X)) (hrt:cj (ax X)=true) (hA:ez w va a.l) (hk1:1<=a.k) (hk2:a.k<=15) (hkv:∃ j,Instr.findNow (.int .i64) (.int .i64 a.k) (Xi F0).toList 0=some (some (j,.func (.func fn) #[] #[]))) (hFn:Fnc Tryz.prog fn) (hC:Vg Tryz.prog fn 83 46 66 59 X a va):Calls Tryz.prog 10 [.agg (dM vo vs vh vl X.M.last X.M.now),.agg (bO a va)].toArray w (bW w (QM w vo vs vh vl X va a.l (bP (ax X) a))):=by
 have hst:=mS hrt hk1 hk2
 refine bG Tryz.func10 rfl Tryz.ntmps10 rfl λf h s=>qr (bh (dM vo vs vh vl X.M.last X.M.now) h s rfl rfl rfl λf w1 b2 h s=>bh (bO a va) h s rfl rfl rfl λf w1 b3 h s=>aS (dM aj aj aj aj 0 0) h s oM rfl rfl λf w1 b4 h s=>e9 ac 2 h rfl λf h=>ah (eu 0 8 [[],[],[1],[0,1,2],[0,1,2,3],[0,1,2,3,4],[0,1,2,3,4],[0,1,2,3,4,5],[0,1,2,3,4,5,6,7]] [[],[],[],[0],[],[],[],[],[]] [] [.r (λv=>[.blk (Ws (v 0)) (WT F0)]) (λv=>v 0=.map (some (Ws (v 0)))),.v _,.v (.int .i64 a.k),.v (.tuple #[.func (.func fn) #[] #[],.bool true]),.v _,.v _,.v _,.v _,.n] _ h s rfl (by kernel_rfl) (by kernel_rfl) (by kernel_rfl) (cp ?_ (fB ac h rfl rfl rfl (cp ?_ (cp ?_ (fB ac h rfl rfl rfl (fB ac h rfl rfl rfl (fB ac h rfl rfl rfl (fB ac h rfl rfl rfl (trivial))))))))) [1,2,3,4,5,6,7] (by kernel_rfl) ?_))
 ·intro f9 w2 vl1 E9 hs9 hd9 hl hF s
  have h:=cU [] (hs9.trans h.size) (hd9.trans h.defers) (holds_lk trivial)
  refine bB h s TS (Cr _) rfl rfl ?_;rintro f w1 v12 ⟨bm,rfl,hS⟩ hE h sq;replace s:=s.add hS;clear hS
  exact ay ⟨_,bk 12 h rfl rfl,rfl,s⟩
 ·intro f9 w2 vl1 E9 hs9 hd9 hl hF s
  have h:=cG [(13,_)] h hs9 hd9 ⟨bg hl 13 1 (by kernel_rfl) (hF 1 (by decide)),trivial⟩
  refine ag (V:=.int .i64 a.k) (ae (aJ.of_own s 1 rfl) 0 (VI _ _)) h bs rfl rfl λf h=>ay ⟨_,bk 14 h rfl rfl,rfl,s⟩
 ·intro f9 w2 vl1 E9 hs9 hd9 hl hF s
  have e12:f9.tmps.getD 12 undef=(vl1 0):=du hl 12 0 (by kernel_rfl) (by kernel_rfl)
  have e14:f9.tmps.getD 14 undef=.int .i64 a.k:=(du hl 14 2 (by kernel_rfl) (by kernel_rfl)).trans (hF 2 (by decide))
  have h:=cU [(12,(vl1 0)),(14,.int .i64 a.k)] (hs9.trans h.size) (hd9.trans h.defers) (holds_lk ⟨e12,e14,trivial⟩)
  have hm9:vl1 0=.map (some (Ws (vl1 0))):=hF 0 (by decide)
  refine wQ (V:=.func (.func fn) #[] #[]) (ok:=true) 0 h s ac7 Z5 (by exact rfl) OJ ((rfl:_=some (vl1 0)).trans (Yu some hm9)) rfl rfl (.inl ⟨_,hkv.choose_spec,rfl⟩) rfl ?_;intro f h
  exact ay ⟨_,bk 15 h rfl rfl,rfl,(s.pick _ (Yp _ (Yo _ (Yo _ (Yo _ (List.Sublist.refl _))))))⟩
 intro f w1 vl1 hs9 hd9 hv hr hF s
 replace hv:=λi d h9=>hv i d (show Nat.blt i 8=true from h9)
 replace h:=dN 8 (ops:=_) [(12,(vl1 0)),(13,_),(14,_),(15,_),(11,_),(16,_),(17,_),(7,_)] h hs9 hd9 hr ⟨hv 0 12 rfl rfl,(hv 1 13 rfl rfl).trans (hF 1 rfl),(hv 2 14 rfl rfl).trans (hF 2 rfl),(hv 3 15 rfl rfl).trans (hF 3 rfl),(hv 4 11 rfl rfl).trans (hF 4 rfl),(hv 5 16 rfl rfl).trans (hF 5 rfl),(hv 6 17 rfl rfl).trans (hF 6 rfl),(hv 7 7 rfl rfl).trans (hF 7 rfl),trivial⟩ (by kernel_rfl)
 refine e9 ac 1 h rfl λf h=>ah (cu ac 3 h rfl λf h=>bX h rfl (al 2 h s eP rfl rfl (bL _ _ _ _ _ _) rfl λf h=>bX h rfl (m9 true h s RA (nH X vo vs vh vl _ (hX.keep s.ext) hb) (hrt) rfl rfl λf w1 h s=>e9 ac 2 h rfl λf h=>qC h rfl (qr (al 2 h s eP rfl rfl (bL _ _ _ _ _ _) rfl λf h=>bB h s Tt (vP X vo vs vh vl _ (hX.keep s.ext) hb) rfl rfl ?_)))));rintro f w1 v27 ⟨uo,us,uh,ul,Y,ks,hv9,hY,hS⟩ hE h sq;replace s:=s.add hS;clear hS
 have hM:Y.M=X.M:=Yu Wd.ml hY
 rw [← hM] at hv9
 subst hv9
 refine ai h (xc TX (h.ev rfl)) rfl λf h=>aS (ef aj aj aj aj 0 0 aj) h s Qd rfl rfl λf w1 b9 h s=>ak 0 h s Ut rfl rfl rfl (gx _ _ _ _ _ _ _) (gx _ _ _ _ _ _ _) (Er _ _ (bf (s.getG 3 rfl).ov.1) (bA (s.getSl 1 rfl)) (bA (s.getSl 2 rfl)) (bf (s.getG 3 rfl).ml) (rfl)) λw1 s=>nt (ah (cu ac 1 h rfl λf h=>al 5 h s TM rfl rfl (yT _ _) rfl λf h=>?_))
 replace s:=s.nilSl 59 74
 replace s:=s.bring 4 rfl
 replace s:=s.bring 1 rfl
 replace s:=s.bring 4 rfl
 replace s:=s.bring 4 rfl
 replace s:=s.bring 4 rfl
 replace s:St w [.blk b9 (.cells (ef uo us uh ul Y.M.last Y.M.now aj) 83),.sl us 46 3 Y.S.length (aQ Y.S),.sl uh 66 5 Y.H.length (aC Y.H),.sl aj 59 74 ([]:List Nt).length (aH []),(.grp ks (λw9=>RdC w9 uo ul Y)),.blk b4 (.cells (dM aj aj aj aj 0 0) 31),.blk b3 (.cells (bO a va) 36),.blk b2 (.cells (dM vo vs vh vl X.M.last X.M.now) 31)] _:=s
 refine Ej [.pointer (some ⟨b9,0,none⟩),.agg (bO a va)] h hFn rfl (hC uo us uh ul aj Y ks b9 _ w _ hY (λw9 s9=>hA.keep s9.ext) s) rfl rfl ?_;rintro f w1 v31 ⟨rfl,po,ps,ph,pl,pn,Z,N,kk,hR,s⟩ h
 refine e9 ac 1 h rfl λf h=>bF ac 2 h rfl λf h=>cA h rfl (λhc=>?_) (λhc=>?_)
 ·have e0:¬ (zI (ax X) a a.k.toNat).e=0:=Yq hc
  refine qr (ai h (lO M2) rfl λf h=>ap ac 1 h rfl λf h=>ak 5 h s eP rfl rfl rfl (bL _ _ _ _ _ _) (bL _ _ _ _ _ _) (fX _ _ (rfl) (rfl) (rfl) (rfl)) λw1 s=>e9 ac 2 h rfl λf h=>rt ?_)
  exact d5 5 rfl h s eP rfl rfl (bL _ _ _ _ _ _) rfl rfl (by rw [hst];exact Rr ((BF _ _ _).resolve_left e0).1 ((BF _ _ _).resolve_left e0).2 rfl s)
 ·have e0:(zI (ax X) a a.k.toNat).e=0:=Decidable.of_not_not (Yr hc)
  refine kt (ah ?_)
  replace s:=s.bring 5 rfl
  replace s:St w [.blk b4 (.cells (dM aj aj aj aj 0 0) 31),.blk b9 (.cells (ef po ps ph pl Z.M.last Z.M.now pn) 83),.sl ps 46 3 Z.S.length (aQ Z.S),.sl ph 66 5 Z.H.length (aC Z.H),.sl pn 59 74 N.length (aH N),(.grp kk (λw9=>RdC w9 po pl Z)),.blk b3 (.cells (bO a va) 36),.blk b2 (.cells (dM vo vs vh vl X.M.last X.M.now) 31)] _:=s
  refine eu 1 5 [[],[0],[],[2],[0,1],[0,1,2,3,4],[0,1,2,3,4,5]] [[],[],[],[],[7],[],[]] [[_]] [.v _,.v (.agg (dM po ps ph pl Z.M.last Z.M.now)),.v _,.v pn,.m (λv=>[.blk b4 (.cells (dM po ps ph pl Z.M.last Z.M.now) 31)]),.n,.n] _ h s rfl (by kernel_rfl) (by kernel_rfl) (by kernel_rfl) (fB ac h rfl rfl rfl (cp ?_ (fB ac h rfl rfl rfl (cp ?_ (cp ?_ (trivial)))))) [0,1,2,3,4] (by kernel_rfl) ?_
  ·intro f9 w2 vl8 E9 hs9 hd9 hl hF s
   have h:=cG [(36,_)] h hs9 hd9 ⟨bg hl 36 0 (by kernel_rfl) (hF 0 (by decide)),trivial⟩
   refine aB (aJ.subL (aJ.of_own s 0 rfl) 0 6 (D:=dM po ps ph pl Z.M.last Z.M.now) (WB _ _ _ _ _ _ _)) h eP rfl (bL _ _ _ _ _ _) rfl λf h=>ay ⟨_,bk 37 h rfl rfl,rfl,s⟩
  ·intro f9 w2 vl8 E9 hs9 hd9 hl hF s
   have h:=cG [(38,_)] h hs9 hd9 ⟨bg hl 38 2 (by kernel_rfl) (hF 2 (by decide)),trivial⟩
   refine ag (V:=pn) (ae (aJ.of_own s 0 rfl) 6 (Rh _ _ _ _ _ _ _)) h EX rfl rfl λf h=>ay ⟨_,bk 39 h rfl rfl,rfl,s⟩
  ·intro f9 w2 vl8 E9 hs9 hd9 hl hF s
   have h:=cG [(4,_),(37,_)] h hs9 hd9 ⟨fh hl 4 (by kernel_rfl) (h.holds 4 _ rfl),bg hl 37 1 (by kernel_rfl) (hF 1 (by decide)),trivial⟩
   refine ak 0 h s eP rfl rfl rfl (bL _ _ _ _ _ _) (bL _ _ _ _ _ _) (fX _ _ (bf (s.getG 5 rfl).ov.1) (bA (s.getSl 2 rfl)) (bA (s.getSl 3 rfl)) (bf (s.getG 5 rfl).ml)) λw1 s=>ay ⟨undef,l8 rfl,trivial,s⟩
  intro f w1 vl8 hs9 hd9 hv hr hF s
  replace hv:=λi d h9=>hv i d (show Nat.blt i 5=true from h9)
  replace h:=dN 5 (ops:=_) [(36,_),(37,_),(38,_),(39,_)] h hs9 hd9 hr ⟨(hv 0 36 rfl rfl).trans (hF 0 rfl),(hv 1 37 rfl rfl).trans (hF 1 rfl),(hv 2 38 rfl rfl).trans (hF 2 rfl),(hv 3 39 rfl rfl).trans (hF 3 rfl),trivial⟩ (by kernel_rfl)
  refine e9 ac 2 h rfl λf h=>Y8 ?_
  exact d5 0 rfl h s eP rfl rfl (bL _ _ _ _ _ _) rfl rfl ((hst▸T2 hR e0 (s.sel [1,2,3,4,5] rfl (by decide))))
theorem wi (X:Wx) (vo vs vh vl:Value) (a:Ac) (va:Value) (w:World) (hX:RdW w vo vs vh vl X) (hb:BdW (ax X)) (hr:cj (ax X)=true) (hA:ez w va a.l) (hal:a.l.length<=1000) (hk:a.k=1) (h9L:(ax X).ov=[]) (h9S:(ax X).sv=[]):Calls Tryz.prog 10 [.agg (dM vo vs vh vl X.M.last X.M.now),.agg (bO a va)].toArray w (bW w (QM w vo vs vh vl X va a.l (bP (ax X) a))):=by
 refine iR X vo vs vh vl a va 34 w hX hb hr hA (by omega) (by omega) ⟨_,by rw [hk];rfl⟩ RU ?_
 intro po ps ph pl pn Y kk c B9 w0 w1 hY hU s
 have hb9:BdW (ax Y):=by rw [hY];exact hb
 have hr9:cj (ax Y)=true:=by rw [hY];exact hr
 have hL0:Y.L=[]:=by have h8:=Yu Wd.ov hY;rw [h9L] at h8;exact List.map_eq_nil_iff.1 h8
 have hS0:Y.S=[]:=by have h8:=Yu Wd.sv hY;rw [h9S] at h8;exact List.map_eq_nil_iff.1 h8
 have h:=zu po ps ph pl pn Y kk c B9 a va w0 w1 s hb9 hL0 hS0 hU
 rw [hY] at h
 rw [hk]
 exact h
theorem xG (X:Wx) (vo vs vh vl:Value) (a:Ac) (va:Value) (w:World) (hX:RdW w vo vs vh vl X) (hb:BdW (ax X)) (hr:cj (ax X)=true) (hA:ez w va a.l) (hal:a.l.length<=1000) (hk:a.k=6) (h9H:(ax X).ho=[]):Calls Tryz.prog 10 [.agg (dM vo vs vh vl X.M.last X.M.now),.agg (bO a va)].toArray w (bW w (QM w vo vs vh vl X va a.l (bP (ax X) a))):=by
 refine iR X vo vs vh vl a va 39 w hX hb hr hA (by omega) (by omega) ⟨_,by rw [hk];rfl⟩ S4 ?_
 intro po ps ph pl pn Y kk c B9 w0 w1 hY hU s
 have hb9:BdW (ax Y):=by rw [hY];exact hb
 have hr9:cj (ax Y)=true:=by rw [hY];exact hr
 have hH0:Y.H=[]:=by have h8:=Yu Wd.ho hY;rw [h9H] at h8;exact List.map_eq_nil_iff.1 h8
 have h:=Aa po ps ph pl pn Y kk c B9 a va w0 w1 s hb9 hH0 hU
 rw [hY] at h
 rw [hk]
 exact h
theorem nJ (X:Wx) (vo vs vh vl:Value) (a:Ac) (va:Value) (w:World) (hX:RdW w vo vs vh vl X) (hb:BdW (ax X)) (hr:cj (ax X)=true) (hA:ez w va a.l) (hal:a.l.length<=1000) (hk:a.k=10):Calls Tryz.prog 10 [.agg (dM vo vs vh vl X.M.last X.M.now),.agg (bO a va)].toArray w (bW w (QM w vo vs vh vl X va a.l (bP (ax X) a))):=by
 refine iR X vo vs vh vl a va 43 w hX hb hr hA (by omega) (by omega) ⟨_,by rw [hk];rfl⟩ S3 ?_
 intro po ps ph pl pn Y kk c B9 w0 w1 hY hU s
 have hb9:BdW (ax Y):=by rw [hY];exact hb
 have hr9:cj (ax Y)=true:=by rw [hY];exact hr
 have h:=zC po ps ph pl pn Y kk c B9 a va w0 w1 s hb9 hr9 hal hU
 rw [hY] at h
 rw [hk]
 exact h
set_option maxHeartbeats 2000000 in
theorem iI  (w:World):Calls Tryz.prog 8 [].toArray w (bW w (is (.bool true))):=by
 refine bG Tryz.func8 rfl Tryz.ntmps8 rfl λf h s=>bF ac 1 h rfl λf h=>qr (aS (aA 0#256) h s sm rfl rfl λf w1 b1 h s=>nt (ah (bF ac 1 h rfl λf h=>Y9 (Zb (λnn aa ww=>∃ k:Nat,Sl 69 aa [(1,.pointer (some ⟨b1,0,none⟩)),(2,.int .i64 ((k:Int)+16))]/\St w [.blk b1 (.cells (aA (B5 k)) 33)] ww/\nn=16 - k/\k<=16) (16 - (0)) ⟨0,h.only ⟨rfl,av rfl (by omega),trivial⟩,s.as ⟨ff (by rw [dC];rfl),trivial⟩,rfl,YO _⟩ ?_))))
 rintro _ f w1 ⟨k,h,s,hnn,hp0⟩
 refine ah (bF ac 2 h rfl λf h=>dq h rfl (λhc=>?_) (λhc=>?_))
 ·refine kt (ah (Y9 (rs ac 1 h rfl λf h=>ai h (kG (k+16) ZG gW (h.ev rfl) (h.ev rfl) (by omega) (by omega)) rfl λf h=>aR 0 h s oJ rfl rfl rfl (by simp;omega) (rfl) λw1 s=>ay (bw (aO (rs ac 1 h rfl λf h=>ai h (bS (h.ev rfl) (h.ev rfl) (by omega)) rfl λf h=>e9 ac 1 h rfl λf h=>?_))))))
  exact ⟨_,by omega,⟨k+1,h.only ⟨rfl,av rfl (by omega),trivial⟩,St.as s ⟨ff (G2 k),trivial⟩,rfl,by omega⟩⟩
 ·refine Za (a7 (a7 (cd (aO (qr ?_)))))
  obtain rfl:k=16:=by omega
  rw [GW] at s
  refine ai h (lO M2) rfl λf h=>al 0 h s cJ rfl rfl (by first|exact aF _|exact aE _ _) rfl λf h=>ai h (uE xL rfl rfl (h.ev rfl)) rfl λf h=>bB h s wW (wi UV aj aj aj aj Nr aj _ (df _) VS DZ (bU _) (by decide) rfl rfl rfl) rfl rfl ?_;rintro f w1 v20 ⟨oa,sa,ha,la,na,Ya,ka,rfl,qa,hG⟩ hE h sq;replace s:=s.add hG;clear hG
  have ea:ax Ya=PX:=by rw [qa];show (bP D5 Nr).w=PX;rw [Mp];rfl
  have fa:(bP (ax UV) Nr).e=0:=by show (bP D5 Nr).e=0;rw [Mp];rfl
  refine ap ac 4 h rfl λf h=>aS (dM aj aj aj aj 0 0) h s oM rfl rfl λf w1 b3 h s=>ak 0 h s eP rfl rfl rfl (bL _ _ _ _ _ _) (bL _ _ _ _ _ _) (fX _ _ (bf (((s.getG 1 rfl) (df _) (bU _)).1.ov.1)) (bf (((s.getG 1 rfl) (df _) (bU _)).1.sv)) (bf (((s.getG 1 rfl) (df _) (bU _)).1.ho)) (bf (((s.getG 1 rfl) (df _) (bU _)).1.ml))) λw1 s=>e9 ac 2 h rfl λf h=>qr (al 0 h s eP rfl rfl (bL _ _ _ _ _ _) rfl λf h=>ai h (uk xL rfl rfl rfl) rfl λf h=>bB h s wW (xG Ya oa sa ha la Vr aj _ ((s.getG 1 rfl) (df _) (bU _)).1 (Rm ea WP) (by rw [ea];exact MU) (bU _) (by decide) rfl (by rw [ea];rfl)) rfl rfl ?_);rintro f w1 v27 ⟨ob,sb,hb,lb,nb,Yb,kb,rfl,qb,hG⟩ hE h sq;replace s:=s.add hG;clear hG
  have eb:ax Yb=rL:=by rw [qb,ea,Nf];rfl
  have fb:(bP (ax Ya) Vr).e=0:=by rw [ea,Nf];rfl
  refine ap ac 4 h rfl λf h=>ak 1 h s eP rfl rfl rfl (bL _ _ _ _ _ _) (bL _ _ _ _ _ _) (fX _ _ (bf (((s.getG 0 rfl) ((s.getG 2 rfl) (df _) (bU _)).1 (bU _)).1.ov.1)) (bf (((s.getG 0 rfl) ((s.getG 2 rfl) (df _) (bU _)).1 (bU _)).1.sv)) (bf (((s.getG 0 rfl) ((s.getG 2 rfl) (df _) (bU _)).1 (bU _)).1.ho)) (bf (((s.getG 0 rfl) ((s.getG 2 rfl) (df _) (bU _)).1 (bU _)).1.ml))) λw1 s=>e9 ac 2 h rfl λf h=>qr (al 1 h s eP rfl rfl (bL _ _ _ _ _ _) rfl λf h=>ai h (nj xX rfl rfl) rfl λf h=>cT (vs:=[.agg (co (2,0#256,3))]) [.tmp 33] h s aa2 Bt rfl rfl (Ro _) rfl rfl rfl λf w1 v34 h s=>?_)
  replace s:=s.resl (m:=1) (ys:=db [(2,0#256,3)]) 0 rfl rfl ((Ue _).trans (oO _).symm)
  refine ai h (nL [(2,0#256,3)] xL (iD (bp.of_own (s.getSl 0 rfl):ez _ v34 [(2,0#256,3)])) (gK (bp.of_own (s.getSl 0 rfl):ez _ v34 [(2,0#256,3)])) rfl rfl (h.ev rfl) rfl) rfl λf h=>bB h s wW (nJ Yb ob sb hb lb og v34 _ ((s.getG 1 rfl) ((s.getG 3 rfl) (df _) (bU _)).1 (bU _)).1 (Rm eb WN) (by rw [eb];exact Mr) (bp.of_own (s.getSl 0 rfl):ez _ v34 [(2,0#256,3)]) (by decide) rfl) rfl rfl ?_;rintro f w1 v36 ⟨oc,sc,hc,lc,nc,Yc,kc,rfl,qc,hG⟩ hE h sq;replace s:=s.add hG;clear hG
  obtain ⟨p1,p2,p3,p4⟩:=Rn
  rw [← eb] at p1 p2 p3 p4
  have mc:Yc.M.l.length=1:=by have h9:(ax Yc).ml.l.length=1:=by {rw [qc];exact p4};exact h9
  refine ap ac 4 h rfl λf h=>ak 3 h s eP rfl rfl rfl (bL _ _ _ _ _ _) (bL _ _ _ _ _ _) (fX _ _ (bf (((s.getG 0 rfl) ((s.getG 2 rfl) ((s.getG 4 rfl) (df _) (bU _)).1 (bU _)).1 (bp.of_own (s.getSl 1 rfl):ez _ v34 [(2,0#256,3)])).1.ov.1)) (bf (((s.getG 0 rfl) ((s.getG 2 rfl) ((s.getG 4 rfl) (df _) (bU _)).1 (bU _)).1 (bp.of_own (s.getSl 1 rfl):ez _ v34 [(2,0#256,3)])).1.sv)) (bf (((s.getG 0 rfl) ((s.getG 2 rfl) ((s.getG 4 rfl) (df _) (bU _)).1 (bU _)).1 (bp.of_own (s.getSl 1 rfl):ez _ v34 [(2,0#256,3)])).1.ho)) (bf (((s.getG 0 rfl) ((s.getG 2 rfl) ((s.getG 4 rfl) (df _) (bU _)).1 (bU _)).1 (bp.of_own (s.getSl 1 rfl):ez _ v34 [(2,0#256,3)])).1.ml))) λw1 s=>e9 ac 2 h rfl λf h=>cu ac 1 h rfl λf h=>gO ac h rfl (by rw [fa];rfl) λf h=>ap ac 2 h rfl λf h=>bX h rfl (gO ac h rfl (by rw [fb];rfl) λf h=>ap ac 3 h rfl λf h=>bX h rfl (gO ac h rfl (by rw [p1];rfl) λf h=>ap ac 3 h rfl λf h=>bX h rfl (ce h (((s.getG 0 rfl) ((s.getG 2 rfl) ((s.getG 4 rfl) (df _) (bU _)).1 (bU _)).1 (bp.of_own (s.getSl 1 rfl):ez _ v34 [(2,0#256,3)])).2) aa3 rfl rfl λf h=>bX h rfl (gO ac h rfl (by rw [p2];rfl) λf h=>ap ac 3 h rfl λf h=>bX h rfl (ai h (bz (((s.getG 0 rfl) ((s.getG 2 rfl) ((s.getG 4 rfl) (df _) (bU _)).1 (bU _)).1 (bp.of_own (s.getSl 1 rfl):ez _ v34 [(2,0#256,3)])).2) (0) aa3 pZ (h.ev rfl) (h.ev rfl) (rfl) (by omega)) rfl λf h=>bX h rfl (ai h (aW l5 (h.ev rfl) ((((s.getG 0 rfl) ((s.getG 2 rfl) ((s.getG 4 rfl) (df _) (bU _)).1 (bU _)).1 (bp.of_own (s.getSl 1 rfl):ez _ v34 [(2,0#256,3)])).2).some (by omega))) rfl λf h=>bX h rfl (ag (V:=.int .i64 ((bP (ax Yb) og).n.getD 0 mh).k) (cX (((s.getG 0 rfl) ((s.getG 2 rfl) ((s.getG 4 rfl) (df _) (bU _)).1 (bU _)).1 (bp.of_own (s.getSl 1 rfl):ez _ v34 [(2,0#256,3)])).2) (0*74+0) (Aq (by omega))) h bs rfl rfl λf h=>bX h rfl (gO ac h rfl (by rw [p3];rfl) λf h=>ap ac 4 h rfl λf h=>bX h rfl (ag (V:=lc) (ae (aJ.of_own s 3 rfl) 3 (uq _ _ _ _ _ _)) h gf rfl rfl λf h=>bX h rfl (ce h (((s.getG 0 rfl) ((s.getG 2 rfl) ((s.getG 4 rfl) (df _) (bU _)).1 (bU _)).1 (bp.of_own (s.getSl 1 rfl):ez _ v34 [(2,0#256,3)])).1.ml) aa1 rfl rfl λf h=>bX h rfl (gO ac h rfl (by rw [mc];rfl) λf h=>e9 ac 2 h rfl λf h=>Y8 (au rfl h s rfl (rfl)))))))))))))
theorem vF (X:Wx) (vo vs vh vl:Value) (a:Ac) (va:Value) (w:World) (hX:RdW w vo vs vh vl X) (hb:BdW (ax X)) (hr:cj (ax X)=true) (hA:ez w va a.l) (hal:a.l.length<=1000) (hk:a.k=9):Calls Tryz.prog 10 [.agg (dM vo vs vh vl X.M.last X.M.now),.agg (bO a va)].toArray w (bW w (QM w vo vs vh vl X va a.l (bP (ax X) a))):=by
 refine iR X vo vs vh vl a va 42 w hX hb hr hA (by omega) (by omega) ⟨_,by rw [hk];rfl⟩ TQ ?_
 intro po ps ph pl pn Y kk c B9 w0 w1 hY hU s
 have hb9:BdW (ax Y):=by rw [hY];exact hb
 have hr9:cj (ax Y)=true:=by rw [hY];exact hr
 have h:=Cg po ps ph pl pn Y kk c B9 a va w0 w1 s hb9 hr9 hU
 rw [hY] at h
 rw [hk]
 exact h
set_option maxHeartbeats 6000000 in
theorem xW (X:Wx) (vo vs vh vl:Value) (no:Int) (l:List cO) (vl9:Value) (sx:ByteArray) (w:World) (hX:RdW w vo vs vh vl X) (hbL:X.L.length<=maxLen) (hbS:X.S.length<=maxLen) (hbH:X.H.length<=maxLen) (hL0:ez w vl9 l):Calls Tryz.prog 5 [.agg (dM vo vs vh vl X.M.last X.M.now),.int .i64 no,vl9,.string sx].toArray w (bW w (is (.bool true))):=by
 have hL:ez w (fI vl9 (min l.length 6)) (l.take (min l.length 6)):=NT hL0 _ (Nat.min_le_left _ _)
 have hll:(l.take (min l.length 6)).length<=6:=by rw [Y5];omega
 refine bG Tryz.func5 rfl Tryz.ntmps5 rfl λf h s=>qr (bh (dM vo vs vh vl X.M.last X.M.now) h s rfl rfl rfl λf w1 b4 h s=>e9 ac 1 h rfl λf h=>ah (eu 0 11 [[],[],[1],[1,2],[0,1,2,3],[],[],[6],[6,7],[5,6,7,8],[0,1,2,3,4],[0,1,2,3,4,5,6,7,8,9,10]] [[],[],[],[],[],[],[],[],[],[],[],[]] [] [.v vl9,.v vl9,.v (.int .i64 (l.length:Int)),.v (.int .i64 (if (6:Int)<(l.length:Int) then 6 else (l.length:Int))),.v (fI vl9 (min l.length 6)),.v _,.v _,.v (.int .i64 (sx.size:Int)),.v (.int .i64 (if (70:Int)<(sx.size:Int) then 70 else (sx.size:Int))),.v (.string (sx.extract 0 (min sx.size 70))),.v _,.n] _ h s rfl (by kernel_rfl) (by kernel_rfl) (by kernel_rfl) (cp ?_ (cp ?_ (cp ?_ (cp ?_ (cp ?_ (fB ac h rfl rfl rfl (fB ac h rfl rfl rfl (cp ?_ (cp ?_ (cp ?_ (fB ac h rfl rfl rfl (trivial)))))))))))) [0,1,2,3,4,5,6,7,8,9,10] (by kernel_rfl) ?_))
 ·intro f9 w2 vl1 E9 hs9 hd9 hl hF s
  have h:=cG [(2,_)] h hs9 hd9 ⟨fh hl 2 (by kernel_rfl) (h.holds 2 _ rfl),trivial⟩
  refine ap ac 1 h rfl λf h=>ay ⟨_,bk 18 h rfl rfl,rfl,s⟩
 ·intro f9 w2 vl1 E9 hs9 hd9 hl hF s
  have h:=cG [(2,_)] h hs9 hd9 ⟨fh hl 2 (by kernel_rfl) (h.holds 2 _ rfl),trivial⟩
  refine ap ac 1 h rfl λf h=>ay ⟨_,bk 19 h rfl rfl,rfl,s⟩
 ·intro f9 w2 vl1 E9 hs9 hd9 hl hF s
  have h:=cG [(19,_)] h hs9 hd9 ⟨bg hl 19 1 (by kernel_rfl) (hF 1 (by decide)),trivial⟩
  refine ce h (hL0.keep s.ext) aa2 rfl rfl λf h=>ay ⟨_,bk 20 h rfl rfl,rfl,s⟩
 ·intro f9 w2 vl1 E9 hs9 hd9 hl hF s
  have h:=cG [(20,_)] h hs9 hd9 ⟨bg hl 20 2 (by kernel_rfl) (hF 2 (by decide)),trivial⟩
  refine ai h (F9 (h.ev rfl) (h.ev rfl)) rfl λf h=>ay ⟨_,bk 21 h rfl rfl,rfl,s⟩
 ·intro f9 w2 vl1 E9 hs9 hd9 hl hF s
  have h:=cG [(18,_),(21,_)] h hs9 hd9 ⟨bg hl 18 0 (by kernel_rfl) (hF 0 (by decide)),bg hl 21 3 (by kernel_rfl) (hF 3 (by decide)),trivial⟩
  refine ai h (dL (hL0.keep s.ext) (min l.length 6) aa2 wC (h.ev rfl) (h.ev rfl) (by split<;>omega) (by omega)) rfl λf h=>ay ⟨_,bk 22 h rfl rfl,rfl,s⟩
 ·intro f9 w2 vl1 E9 hs9 hd9 hl hF s
  have h:=cG [(24,_)] h hs9 hd9 ⟨bg hl 24 6 (by kernel_rfl) (hF 6 (by decide)),trivial⟩
  refine ai h (dd Z7 (h.ev rfl)) rfl λf h=>ay ⟨_,bk 25 h rfl rfl,rfl,s⟩
 ·intro f9 w2 vl1 E9 hs9 hd9 hl hF s
  have h:=cG [(25,_)] h hs9 hd9 ⟨bg hl 25 7 (by kernel_rfl) (hF 7 (by decide)),trivial⟩
  refine ai h (F9 (h.ev rfl) (h.ev rfl)) rfl λf h=>ay ⟨_,bk 26 h rfl rfl,rfl,s⟩
 ·intro f9 w2 vl1 E9 hs9 hd9 hl hF s
  have h:=cG [(23,_),(26,_)] h hs9 hd9 ⟨bg hl 23 5 (by kernel_rfl) (hF 5 (by decide)),bg hl 26 8 (by kernel_rfl) (hF 8 (by decide)),trivial⟩
  refine ai h (sB (min sx.size 70) Z7 (h.ev rfl) (h.ev rfl) (by split<;>omega) (by omega)) rfl λf h=>ay ⟨_,bk 27 h rfl rfl,rfl,s⟩
 intro f w1 vl1 hs9 hd9 hv hr hF s
 replace hv:=λi d h9=>hv i d (show Nat.blt i 11=true from h9)
 replace h:=dN 11 (ops:=_) [(18,_),(19,_),(20,_),(21,_),(22,_),(23,_),(24,_),(25,_),(26,_),(27,_),(2,_)] h hs9 hd9 hr ⟨(hv 0 18 rfl rfl).trans (hF 0 rfl),(hv 1 19 rfl rfl).trans (hF 1 rfl),(hv 2 20 rfl rfl).trans (hF 2 rfl),(hv 3 21 rfl rfl).trans (hF 3 rfl),(hv 4 22 rfl rfl).trans (hF 4 rfl),(hv 5 23 rfl rfl).trans (hF 5 rfl),(hv 6 24 rfl rfl).trans (hF 6 rfl),(hv 7 25 rfl rfl).trans (hF 7 rfl),(hv 8 26 rfl rfl).trans (hF 8 rfl),(hv 9 27 rfl rfl).trans (hF 9 rfl),(hv 10 2 rfl rfl).trans (hF 10 rfl),trivial⟩ (by kernel_rfl)
 refine e9 ac 1 h rfl λf h=>ah (ah ?_)
 refine aG (al 0 h s eP rfl rfl (bL _ _ _ _ _ _) rfl λf h=>eK h s U0 (FL X vo vs vh vl _ (hX.keep s.ext) hbL hbS hbH) rfl rfl (λb0 f w1 h s=>?_) (λb0 f w1 h s=>?_))
 ·skip
  refine ap ac 1 h rfl λf h=>bX h rfl (al 0 h s eP rfl rfl (bL _ _ _ _ _ _) rfl λf h=>bX h rfl (eK h s RA (nH X vo vs vh vl _ (hX.keep s.ext) (GP b0)) rfl rfl (λr0 f w1 h s=>?_) (λr0 f w1 h s=>?_)))
  ·refine e9 ac 2 h rfl λf h=>dQ h rfl (qr (da h s It (iI _) rfl rfl λf w1 h s=>e9 ac 1 h rfl λf h=>rt (au rfl h s rfl (rfl))))
  ·refine e9 ac 2 h rfl λf h=>qC h rfl (qr ?_)
   have hbd:=GP b0
   have hbM:X.M.l.length<=100:=hbd.ml
   have hbH9:=hbd.hx
   refine al 0 h s eP rfl rfl (bL _ _ _ _ _ _) rfl λf h=>ap ac 3 h rfl λf h=>ai h (nL (l.take (min l.length 6)) xL (iD (hL.keep s.ext)) (gK (hL.keep s.ext)) rfl (h.ev rfl) (h.ev rfl) (h.ev rfl)) rfl λf h=>bB h s wW (nJ X vo vs vh vl (dw no (l.take (min l.length 6)) (sx.extract 0 (min sx.size 70))) (fI vl9 (min l.length 6)) _ (hX.keep s.ext) hbd r0 (hL.keep s.ext) (by show (l.take (min l.length 6)).length<=1000;omega) rfl) rfl rfl ?_;rintro f w1 v42 ⟨oa,sa,ha,la,na,Ya,ka,rfl,qa,hG⟩ hE h sq;replace s:=s.add hG;clear hG
   refine ap ac 4 h rfl λf h=>aS (dM aj aj aj aj 0 0) h s oM rfl rfl λf w1 b9 h s=>ak 0 h s eP rfl rfl rfl (bL _ _ _ _ _ _) (bL _ _ _ _ _ _) (fX _ _ (bf (((s.getG 1 rfl) (hX.keep s.ext) (hL.keep s.ext)).1.ov.1)) (bf (((s.getG 1 rfl) (hX.keep s.ext) (hL.keep s.ext)).1.sv)) (bf (((s.getG 1 rfl) (hX.keep s.ext) (hL.keep s.ext)).1.ho)) (bf (((s.getG 1 rfl) (hX.keep s.ext) (hL.keep s.ext)).1.ml))) λw1 s=>e9 ac 2 h rfl λf h=>qr (al 2 h s eP rfl rfl (bL _ _ _ _ _ _) rfl λf h=>ap ac 1 h rfl λf h=>ai h (sQ xL rfl (h.ev rfl)) rfl λf h=>bB h s wW (vF X vo vs vh vl (lC no) aj _ (hX.keep s.ext) hbd r0 (bU _) (YO _) rfl) rfl rfl ?_);rintro f w1 v50 ⟨ob,sb,hb,lb,nb,Yb,kb,rfl,qb,hG⟩ hE h sq;replace s:=s.add hG;clear hG
   refine ap ac 4 h rfl λf h=>aS (dM aj aj aj aj 0 0) h s oM rfl rfl λf w1 b12 h s=>ak 0 h s eP rfl rfl rfl (bL _ _ _ _ _ _) (bL _ _ _ _ _ _) (fX _ _ (bf (((s.getG 1 rfl) (hX.keep s.ext) (bU _)).1.ov.1)) (bf (((s.getG 1 rfl) (hX.keep s.ext) (bU _)).1.sv)) (bf (((s.getG 1 rfl) (hX.keep s.ext) (bU _)).1.ho)) (bf (((s.getG 1 rfl) (hX.keep s.ext) (bU _)).1.ml))) λw1 s=>e9 ac 2 h rfl λf h=>ah (bF ac 2 h rfl λf h=>o7 (λaa ww=>Sl 175 aa [(0,.agg (dM vo vs vh vl X.M.last X.M.now)),(1,.int .i64 no),(4,.pointer (some ⟨b4,0,none⟩)),(9,.pointer (some ⟨b9,0,none⟩)),(12,.pointer (some ⟨b12,0,none⟩)),(2,(fI vl9 (min l.length 6))),(3,.string (sx.extract 0 (min sx.size 70))),(11,.int .i64 (bP (ax X) (dw no (l.take (min l.length 6)) (sx.extract 0 (min sx.size 70)))).e),(13,nb),(14,.int .i64 (bP (ax X) (lC no)).e)]/\St w [.blk b12 (.cells (dM ob sb hb lb Yb.M.last Yb.M.now) 31),(.grp kb (λw9=>RdW w9 vo vs vh vl X->ez w9 aj ((lC no)).l->RdW w9 ob sb hb lb Yb/\bp w9 nb 74 (bP (ax X) (lC no)).n.length (aH (bP (ax X) (lC no)).n))),.blk b9 (.cells (dM oa sa ha la Ya.M.last Ya.M.now) 31),(.grp ka (λw9=>RdW w9 vo vs vh vl X->ez w9 (fI vl9 (min l.length 6)) ((dw no (l.take (min l.length 6)) (sx.extract 0 (min sx.size 70)))).l->RdW w9 oa sa ha la Ya/\bp w9 na 74 (bP (ax X) (dw no (l.take (min l.length 6)) (sx.extract 0 (min sx.size 70)))).n.length (aH (bP (ax X) (dw no (l.take (min l.length 6)) (sx.extract 0 (min sx.size 70)))).n))),.blk b4 (.cells (dM vo vs vh vl X.M.last X.M.now) 31)] ww) ?_ ?_)
   ·skip
    refine cA h rfl (λhc=>?_) (λhc=>?_)
    ·have e0:=Yq hc
     refine qr ?_
     have hga:Ya.M.l.length=X.M.l.length+1∨Ya.M.l.length=X.M.l.length:=by rw [sd qa];exact Pm r0 e0
     refine ap ac 2 h rfl λf h=>ag (V:=la) (ae (aJ.of_own s 2 rfl) 3 (uq _ _ _ _ _ _)) h gf rfl rfl λf h=>ce h (((s.getG 3 rfl) (hX.keep s.ext) (hL.keep s.ext)).1.ml) aa1 rfl rfl λf h=>ap ac 2 h rfl λf h=>ag (V:=vl) (ae (aJ.of_own s 4 rfl) 3 (uq _ _ _ _ _ _)) h gf rfl rfl λf h=>ce h (hX.ml.keep s.ext) aa1 rfl rfl λf h=>ai h (eI (h.ev rfl) (h.ev rfl) (by omega)) rfl λf h=>e9 ac 1 h rfl λf h=>ah ?_
     cases g1:(decide (Ya.M.l.length=X.M.l.length+1):Bool)
     ·refine dF 68 h (by kernel_rfl) ?_
      have g9:=Yr g1
      obtain ⟨p1,p2,p3⟩:=M7 (l:=(l.take (min l.length 6))) (d:=(sx.extract 0 (min sx.size 70))) r0 e0 (by rw [← sd qa];exact g9)
      rw [← sd qa] at p3
      have p4:Ya.M.l.length=X.M.l.length:=p3
      refine aq ac 1 h rfl λf h=>ar h (eS (((s.getG 3 rfl) (hX.keep s.ext) (hL.keep s.ext)).2) aa3 (h.ev rfl)) rfl λf h=>jf ac h rfl (by rw [p1];rfl) λf h=>aq ac 2 h rfl λf h=>a6 h rfl (ar h (bz (((s.getG 3 rfl) (hX.keep s.ext) (hL.keep s.ext)).2) (0) aa3 pZ (h.ev rfl) (h.ev rfl) (rfl) (by omega)) rfl λf h=>a6 h rfl (ar h (aW l5 (h.ev rfl) ((((s.getG 3 rfl) (hX.keep s.ext) (hL.keep s.ext)).2).some (by omega))) rfl λf h=>a6 h rfl (ao (V:=.int .i64 ((bP (ax X) (dw no (l.take (min l.length 6)) (sx.extract 0 (min sx.size 70)))).n.getD 0 mh).k) (cX (((s.getG 3 rfl) (hX.keep s.ext) (hL.keep s.ext)).2) (0*74+0) (Aq (by omega))) h bs rfl rfl λf h=>a6 h rfl (jf ac h rfl (by rw [p2];rfl) λf h=>aq ac 1 h rfl λf h=>a6 h rfl (jf ac h rfl (Ys (by omega)) λf h=>a6 h rfl (ar h (bq (.bool false) (nx Z6 (h.ev rfl) (h.ev rfl)) (Yu Value.bool (rfl))) rfl λf h=>aq ac 3 h rfl λf h=>a6 h rfl (je ac h rfl (Yt (by omega)) λf h=>aq ac 2 h rfl λf h=>a6 h rfl (ar h (bz (((s.getG 3 rfl) (hX.keep s.ext) (hL.keep s.ext)).2) (0) aa3 pZ (h.ev rfl) (h.ev rfl) (rfl) (by omega)) rfl λf h=>a6 h rfl (ar h (aW l5 (h.ev rfl) ((((s.getG 3 rfl) (hX.keep s.ext) (hL.keep s.ext)).2).some (by omega))) rfl λf h=>a6 h rfl (ao (V:=.int .i64 ((bP (ax X) (dw no (l.take (min l.length 6)) (sx.extract 0 (min sx.size 70)))).n.getD 0 mh).k) (cX (((s.getG 3 rfl) (hX.keep s.ext) (hL.keep s.ext)).2) (0*74+0) (Aq (by omega))) h bs rfl rfl λf h=>a6 h rfl (jf ac h rfl (by rw [p2];rfl) λf h=>aq ac 4 h rfl λf h=>a6 h rfl (jf ac h rfl (Ys (by omega)) λf h=>aq ac 41 h rfl λf h=>bQ s λw1 s=>f7 h rfl ?_))))))))))))
      exact ⟨h.only ⟨rfl,rfl,rfl,rfl,rfl,rfl,rfl,rfl,rfl,rfl,trivial⟩,St.as s ⟨rfl,rfl,rfl,rfl,rfl,trivial⟩⟩
     ·refine dF 68 h (by kernel_rfl) ?_
      have g9:=Yq g1
      obtain ⟨p1,p2,p3,p4,p5,p6⟩:=Ry (l:=(l.take (min l.length 6))) (d:=(sx.extract 0 (min sx.size 70))) r0 e0 (by rw [← sd qa];exact g9)
      rw [← sd qa] at p4 p6
      have p7:(Ya.M.l.getD X.M.l.length qO).2.2.1<=15:=p6
      refine aq ac 1 h rfl λf h=>ar h (eS (((s.getG 3 rfl) (hX.keep s.ext) (hL.keep s.ext)).2) aa3 (h.ev rfl)) rfl λf h=>jf ac h rfl (by rw [p1];rfl) λf h=>aq ac 2 h rfl λf h=>a6 h rfl (ar h (bz (((s.getG 3 rfl) (hX.keep s.ext) (hL.keep s.ext)).2) (0) aa3 pZ (h.ev rfl) (h.ev rfl) (rfl) (by omega)) rfl λf h=>a6 h rfl (ar h (aW l5 (h.ev rfl) ((((s.getG 3 rfl) (hX.keep s.ext) (hL.keep s.ext)).2).some (by omega))) rfl λf h=>a6 h rfl (ao (V:=.int .i64 ((bP (ax X) (dw no (l.take (min l.length 6)) (sx.extract 0 (min sx.size 70)))).n.getD 0 mh).k) (cX (((s.getG 3 rfl) (hX.keep s.ext) (hL.keep s.ext)).2) (0*74+0) (Aq (by omega))) h bs rfl rfl λf h=>a6 h rfl (je ac h rfl (by rw [p2];rfl) λf h=>aq ac 1 h rfl λf h=>a6 h rfl (je ac h rfl (Yt (by omega)) λf h=>a6 h rfl (ar h (bq (.bool false) (nx Z6 (h.ev rfl) (h.ev rfl)) (Yu Value.bool (rfl))) rfl λf h=>aq ac 3 h rfl λf h=>a6 h rfl (jf ac h rfl (Ys (by omega)) λf h=>aq ac 10 h rfl λf h=>a6 h rfl (je ac h rfl (Yt (by omega)) λf h=>aq ac 2 h rfl λf h=>a6 h rfl (ar h (bz (((s.getG 3 rfl) (hX.keep s.ext) (hL.keep s.ext)).2) (0) aa3 pZ (h.ev rfl) (h.ev rfl) (rfl) (by omega)) rfl λf h=>a6 h rfl (ar h (aW A1 (h.ev rfl) ((((s.getG 3 rfl) (hX.keep s.ext) (hL.keep s.ext)).2).some (by omega))) rfl λf h=>a6 h rfl (ao (V:=.string ((bP (ax X) (dw no (l.take (min l.length 6)) (sx.extract 0 (min sx.size 70)))).n.getD 0 mh).d) (cX (((s.getG 3 rfl) (hX.keep s.ext) (hL.keep s.ext)).2) (0*74+72) (Uc (by omega))) h hI rfl rfl λf h=>aq ac 1 h rfl λf h=>a6 h rfl (ar h (bq (.bool false) (z7 (h.ev rfl) (h.ev rfl)) (Yu Value.bool (by rw [p3];simp))) rfl λf h=>aq ac 2 h rfl λf h=>a6 h rfl (ar h (bz (((s.getG 3 rfl) (hX.keep s.ext) (hL.keep s.ext)).2) (0) aa3 pZ (h.ev rfl) (h.ev rfl) (rfl) (by omega)) rfl λf h=>a6 h rfl (ar h (aW AF (h.ev rfl) ((((s.getG 3 rfl) (hX.keep s.ext) (hL.keep s.ext)).2).some (by omega))) rfl λf h=>a6 h rfl (ao (V:=.int .i64 ((bP (ax X) (dw no (l.take (min l.length 6)) (sx.extract 0 (min sx.size 70)))).n.getD 0 mh).le) (cX (((s.getG 3 rfl) (hX.keep s.ext) (hL.keep s.ext)).2) (0*74+4) (SI (by omega))) h bs rfl rfl λf h=>aq ac 2 h rfl λf h=>a6 h rfl (ao (V:=.int .i64 Ya.M.last) (ae (aJ.of_own s 2 rfl) 4 (Vx _ _ _ _ _ _)) h bs rfl rfl λf h=>a6 h rfl (jf ac h rfl (by rw [p4];simp) λf h=>aq ac 3 h rfl λf h=>a6 h rfl (ar h (bz (((s.getG 3 rfl) (hX.keep s.ext) (hL.keep s.ext)).2) (0) aa3 pZ (h.ev rfl) (h.ev rfl) (rfl) (by omega)) rfl λf h=>a6 h rfl (ar h (aW Be (h.ev rfl) ((((s.getG 3 rfl) (hX.keep s.ext) (hL.keep s.ext)).2).some (by omega))) rfl λf h=>a6 h rfl (ao (V:=.int .i64 ((bP (ax X) (dw no (l.take (min l.length 6)) (sx.extract 0 (min sx.size 70)))).n.getD 0 mh).no) (cX (((s.getG 3 rfl) (hX.keep s.ext) (hL.keep s.ext)).2) (0*74+2) (R1 (by omega))) h bs rfl rfl λf h=>aq ac 1 h rfl λf h=>a6 h rfl (jf ac h rfl (by rw [p5];simp) λf h=>aq ac 4 h rfl λf h=>a6 h rfl (ao (V:=la) (ae (aJ.of_own s 2 rfl) 3 (uq _ _ _ _ _ _)) h gf rfl rfl λf h=>aq ac 2 h rfl λf h=>a6 h rfl (ao (V:=la) (ae (aJ.of_own s 2 rfl) 3 (uq _ _ _ _ _ _)) h gf rfl rfl λf h=>a6 h rfl (ar h (eS (((s.getG 3 rfl) (hX.keep s.ext) (hL.keep s.ext)).1.ml) aa1 (h.ev rfl)) rfl λf h=>a6 h rfl (ar h (eI (h.ev rfl) (h.ev rfl) (by omega)) rfl λf h=>a6 h rfl (ar h (bz (((s.getG 3 rfl) (hX.keep s.ext) (hL.keep s.ext)).1.ml) (X.M.l.length) aa1 Nl (h.ev rfl) (h.ev rfl) (by omega) (by omega)) rfl λf h=>a6 h rfl (ar h (aW Bp (h.ev rfl) ((((s.getG 3 rfl) (hX.keep s.ext) (hL.keep s.ext)).1.ml).some (by omega))) rfl λf h=>a6 h rfl (ao (V:=.int .i64 (Ya.M.l.getD X.M.l.length qO).2.2.1) (cX (((s.getG 3 rfl) (hX.keep s.ext) (hL.keep s.ext)).1.ml) (X.M.l.length*4+2) (NJ (by omega))) h bs rfl rfl λf h=>a6 h rfl (jf ac h rfl (Ys (by omega)) λf h=>aq ac 3 h rfl λf h=>bQ s λw1 s=>f7 h rfl ?_)))))))))))))))))))))))))))))
      exact ⟨h.only ⟨rfl,rfl,rfl,rfl,rfl,rfl,rfl,rfl,rfl,rfl,trivial⟩,St.as s ⟨rfl,rfl,rfl,rfl,rfl,trivial⟩⟩
    ·refine kt ?_
     exact ⟨h.only ⟨rfl,rfl,rfl,rfl,rfl,rfl,rfl,rfl,rfl,rfl,trivial⟩,St.as s ⟨rfl,rfl,rfl,rfl,rfl,trivial⟩⟩
   rintro f w1 ⟨h,s⟩
   refine aO (ah (ah ?_))
   cases e2:(decide ((bP (ax X) (lC no)).e=0):Bool)
   ·refine rs ac 1 h rfl λf h=>gO ac h rfl (by simpa using e2) λf h=>ie h rfl (qr ?_)
    obtain ⟨p8,p9⟩:=NV (l:=(l.take (min l.length 6))) (d:=(sx.extract 0 (min sx.size 70))) r0 (Yr e2)
    refine m9 true h s It (iI _) (rfl) rfl rfl λf w1 h s=>ap ac 2 h rfl λf h=>bX h rfl (gO ac h rfl (by rw [p8];rfl) λf h=>ap ac 3 h rfl λf h=>bX h rfl (gO ac h rfl (by rw [p9];rfl) λf h=>e9 ac 2 h rfl λf h=>rt (au rfl h s rfl (rfl))))
   ·refine rs ac 1 h rfl λf h=>kw ac h rfl (by simpa using e2) λf h=>f7 h rfl (ah (cu ac 1 h rfl λf h=>ag (V:=vh) (ae (aJ.of_own s 4 rfl) 2 (yA _ _ _ _ _ _)) h jl rfl rfl λf h=>ce h (hX.ho.keep s.ext) aa0 rfl rfl λf h=>e9 ac 1 h rfl λf h=>Y9 (Zb (λnn aa ww=>∃ k:Nat,Sl 175 aa [(0,.agg (dM vo vs vh vl X.M.last X.M.now)),(1,.int .i64 no),(2,(fI vl9 (min l.length 6))),(3,.string (sx.extract 0 (min sx.size 70))),(4,.pointer (some ⟨b4,0,none⟩)),(9,.pointer (some ⟨b9,0,none⟩)),(12,.pointer (some ⟨b12,0,none⟩)),(13,nb),(145,vh),(146,.int .i64 (X.H.length:Int)),(147,.int .i64 (k:Int))]/\St w [.blk b12 (.cells (dM ob sb hb lb Yb.M.last Yb.M.now) 31),(.grp kb (λw9=>RdW w9 vo vs vh vl X->ez w9 aj ((lC no)).l->RdW w9 ob sb hb lb Yb/\bp w9 nb 74 (bP (ax X) (lC no)).n.length (aH (bP (ax X) (lC no)).n))),.blk b9 (.cells (dM oa sa ha la Ya.M.last Ya.M.now) 31),(.grp ka (λw9=>RdW w9 vo vs vh vl X->ez w9 (fI vl9 (min l.length 6)) ((dw no (l.take (min l.length 6)) (sx.extract 0 (min sx.size 70)))).l->RdW w9 oa sa ha la Ya/\bp w9 na 74 (bP (ax X) (dw no (l.take (min l.length 6)) (sx.extract 0 (min sx.size 70)))).n.length (aH (bP (ax X) (dw no (l.take (min l.length 6)) (sx.extract 0 (min sx.size 70)))).n))),.blk b4 (.cells (dM vo vs vh vl X.M.last X.M.now) 31)] ww/\nn=X.H.length - k/\k<=X.H.length) (X.H.length - (0)) ⟨0,h.only ⟨rfl,rfl,rfl,rfl,rfl,rfl,rfl,rfl,rfl,rfl,av rfl (by omega),trivial⟩,s.as ⟨rfl,rfl,rfl,rfl,rfl,trivial⟩,rfl,YO _⟩ ?_)))
    rintro _ f w1 ⟨k,h,s,hnn,hp0⟩
    refine bF ac 1 h rfl λf h=>ah (dq h rfl (λhc=>?_) (λhc=>?_))
    ·refine kt (ah (Y9 (qr ?_)))
     have hkl:k<X.H.length:=by omega
     refine ai h (bz (hX.ho.keep s.ext) (k) aa0 oR (h.ev rfl) (h.ev rfl) (by omega) (by omega)) rfl λf h=>aB ((hX.ho.keep s.ext).el (k) (by omega) (by decide) (D:=a8 (X.H.getD k aD).1.no (X.H.getD k aD).1.gt (X.H.getD k aD).2.1 (X.H.getD k aD).2.2.1 (X.H.getD k aD).2.2.2) (pE _ k hkl)) h dY rfl (aN _ _ _ _ _) rfl λf h=>aS (a8 0 0 aj aj aj) h s m8 rfl rfl λf w1 b17 h s=>ak 0 h s dY rfl rfl rfl (aN _ _ _ _ _) (aN _ _ _ _ _) (dE _ _ (bf ((hX.hw _ (cr hkl)).1.keep s.ext)) (bf ((hX.hw _ (cr hkl)).2.1.keep s.ext)) (bf ((hX.hw _ (cr hkl)).2.2.keep s.ext))) λw1 s=>nt (ah ?_)
     refine rs ac 1 h rfl λf h=>ag (V:=.int .i64 (X.H.getD k aD).1.no) (ae (aJ.of_own s 0 rfl) 0 (CH _ _ _ _ _)) h bs rfl rfl λf h=>ap ac 1 h rfl λf h=>kB ac h rfl (λf0 f h=>?_) (λf0 f h=>?_)
     ·refine e9 ac 18 h rfl λf h=>m4 h rfl (wpIn_skip (bw (aO (aG (ai h (bS (h.ev rfl) (h.ev rfl) (by omega)) rfl λf h=>e9 ac 1 h rfl λf h=>?_)))))
      exact ⟨_,by omega,⟨k+1,h.only ⟨rfl,rfl,rfl,rfl,rfl,rfl,rfl,rfl,rfl,rfl,av rfl (by omega),trivial⟩,St.as (s.pick _ (YJ [_] _)) ⟨rfl,rfl,rfl,rfl,rfl,trivial⟩,rfl,by omega⟩⟩
     ·refine ap ac 1 h rfl λf h=>bX h rfl ?_
      have p11:=(hbd.he hkl).1
      have p10:Yb.M.l.length+(bP (ax X) (lC no)).n.length=X.M.l.length+(X.H.getD k aD).1.ws.length:=by rw [sd qb];exact JS r0 hkl (Yq f0)
      refine ap ac 2 h rfl λf h=>bX h rfl (ag (V:=lb) (ae (aJ.of_own s 1 rfl) 3 (uq _ _ _ _ _ _)) h gf rfl rfl λf h=>bX h rfl (ce h (((s.getG 2 rfl) (hX.keep s.ext) (bU _)).1.ml) aa1 rfl rfl λf h=>ap ac 2 h rfl λf h=>bX h rfl (ag (V:=vl) (ae (aJ.of_own s 5 rfl) 3 (uq _ _ _ _ _ _)) h gf rfl rfl λf h=>bX h rfl (ce h (hX.ml.keep s.ext) aa1 rfl rfl λf h=>bX h rfl (ai h (eI (h.ev rfl) (h.ev rfl) (by omega)) rfl λf h=>ap ac 1 h rfl λf h=>bX h rfl (ce h (((s.getG 2 rfl) (hX.keep s.ext) (bU _)).2) aa3 rfl rfl λf h=>bX h rfl (ai h (bS (h.ev rfl) (h.ev rfl) (by omega)) rfl λf h=>ap ac 1 h rfl λf h=>bX h rfl (ag (V:=(X.H.getD k aD).2.1) (ae (aJ.of_own s 0 rfl) 2 (CW _ _ _ _ _)) h x5 rfl rfl λf h=>bX h rfl (ce h ((hX.hw _ (cr hkl)).1.keep s.ext) aa5 rfl rfl λf h=>bX h rfl (kw ac h rfl (Ys (by omega)) λf h=>e9 ac 1 h rfl λf h=>m4 h rfl (wpIn_skip (bw (aO (aG (ai h (bS (h.ev rfl) (h.ev rfl) (by omega)) rfl λf h=>e9 ac 1 h rfl λf h=>?_)))))))))))))))
      exact ⟨_,by omega,⟨k+1,h.only ⟨rfl,rfl,rfl,rfl,rfl,rfl,rfl,rfl,rfl,rfl,av rfl (by omega),trivial⟩,St.as (s.pick _ (YJ [_] _)) ⟨rfl,rfl,rfl,rfl,rfl,trivial⟩,rfl,by omega⟩⟩
    ·refine Za (a7 (a7 (cd (aO (qr (da h s It (iI _) rfl rfl λf w1 h s=>e9 ac 1 h rfl λf h=>Y8 (au rfl h s rfl (rfl))))))))
 ·refine e9 ac 5 h rfl λf h=>dQ h rfl (qr (da h s It (iI _) rfl rfl λf w1 h s=>e9 ac 1 h rfl λf h=>rt (au rfl h s rfl (rfl))))
end Go.Proofs.YtkhepdpfdhdlaaaGreatDoor
