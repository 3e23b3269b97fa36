/- Package world: what its functions answer. -/
import Derived.Test.YthmlflaiidhoiaaGreatDoorZt
import Derived.Test.YthmlflaiidhoiaaGreatDoorZu
import Derived.Test.YthmlflaiidhoiaaGreatDoorZo
import Derived.Test.YthmlflaiidhoiaaGreatDoorZs
import Derived.Test.YthmlflaiidhoiaaGreatDoorZr
set_option linter.unusedVariables false
namespace Go.Proofs.YthmlflaiidhoiaaGreatDoor
open Go.RowKit
theorem Na (Sx:List V2) (L:List N3) (vs vo:Value)  (w:World) (hS:bs w vs 3 Sx.length (a8 Sx)) (hT:∀ x∈Sx,eP w x.2 x.1.tb) (hO:kr w vo L) (hSb:∀ x∈Sx,x.1.tb.length<=1000) (hSl:Sx.length<=1000) (hL:L.length<=40):Calls Tryz.prog 27 [vs,.agg #[vo]].toArray w (cb w (is (.bool (pM Sx L)))):=by
 refine bK Tryz.func27 rfl Tryz.ntmps27 rfl λf h s=>qr (aV (#[vo]) h s rfl rfl rfl λf w1 b3 h s=>e9 ac 1 h rfl λf h=>ah (ah ?_))
 cases l0:(decide (Sx.length=L.length):Bool)
 ·refine rs ac 1 h rfl λf h=>ck h (hS.keep s.ext) aR6 rfl rfl λf h=>am ac 1 h rfl λf h=>ag (V:=vo) (ae (aJ.of_own s 0 rfl) 0 rfl) h fE rfl rfl λf h=>ck h (hO.1.keep s.ext) aR5 rfl rfl λf h=>jK ac h rfl (by have h9:=aH0 l0;simp;omega) λf h=>iY h rfl (bE ac 1 h rfl λf h=>rt (av rfl h s rfl (by show _=_;rw [U6 (aH0 l0)])))
 ·refine rs ac 1 h rfl λf h=>ck h (hS.keep s.ext) aR6 rfl rfl λf h=>am ac 1 h rfl λf h=>ag (V:=vo) (ae (aJ.of_own s 0 rfl) 0 rfl) h fE rfl rfl λf h=>ck h (hO.1.keep s.ext) aR5 rfl rfl λf h=>lj ac h rfl (by have h9:=aG9 l0;simp;omega) λf h=>gS h rfl (ah (bU ac 1 h rfl λf h=>ck h (hS.keep s.ext) aR6 rfl rfl λf h=>e9 ac 1 h rfl λf h=>aL4 (aL6 (λnn aa ww=>∃ k:Nat,Sl 36 aa [(0,vs),(1,.agg #[vo]),(3,.pointer (some ⟨b3,0,none⟩)),(13,vs),(14,.int .i64 (Sx.length:Int)),(15,.int .i64 (k:Int))]/\St w [.blk b3 (.cells (#[vo]) 24)] ww/\nn=Sx.length - k/\k<=Sx.length/\∀ j,j<k->(cW (Sx.getD j cd).1 && decide ((Sx.getD j cd).1.no=(L.getD j z3).1.me.1))=true) (Sx.length - (0)) ⟨0,h.only ⟨rfl,rfl,rfl,rfl,rfl,ao rfl (by omega),trivial⟩,s.as ⟨rfl,trivial⟩,rfl,aJ3 _,λj hj=>aO7 hj (aM6 _)⟩ ?_)))
  rintro _ f w1 ⟨k,h,s,hnn,hp0,hp1⟩
  refine bE ac 1 h rfl λf h=>ah (cB h rfl (λhc=>?_) (λhc=>?_))
  ·refine kt (ah (aL4 (bU ac 1 h rfl λf h=>?_)))
   have hkl:k<Sx.length:=by omega
   have hko:k<L.length:=by have:=aG9 l0;omega
   refine ai h (bj (hS.keep s.ext) (k) aR6 kB (h.ev rfl) (h.ev rfl) (by omega) (by omega)) rfl λf h=>ap ((hS.keep s.ext).el (k) (by omega) (by decide) (D:=bC (Sx.getD k cd).1.no (Sx.getD k cd).1.sec (Sx.getD k cd).2) (nJ _ k hkl)) h cC rfl (aG _ _ _) rfl λf h=>aK (bC 0 ByteArray.empty ax) h s i4 rfl rfl λf w1 b6 h s=>am ac 1 h rfl λf h=>al 0 h s cC rfl rfl rfl (aG _ _ _) (aG _ _ _) (cA _ _ (bI ((hT _ (cK hkl)).keep s.ext))) λw1 s=>nt (ah ?_)
   cases s0:(cW (Sx.getD k cd).1:Bool)
   ·refine dJ 15 h (by kernel_rfl) (aT 0 h s cC rfl rfl (aG _ _ _) rfl λf h=>bF h Aj (λw9 hE9=>aR (.bool false) (jB (Sx.getD k cd).1 (Sx.getD k cd).2 w9 ((hT _ (cK hkl)).keep (s.ext.trans hE9)) (hSb _ (cK hkl))) (aH3 Value.bool s0)) rfl rfl λf h=>ay ac 13 h rfl λf h=>bY s λw1 s=>iY h rfl (bE ac 1 h rfl λf h=>aL3 (bA (aS (aS (bA (aS (av rfl h s rfl (by show _=_;rw [AD hkl (by rw [s0];rfl)])))))))))
   ·skip
    cases s1:(decide ((Sx.getD k cd).1.no=(L.getD k z3).1.me.1):Bool)
    ·refine dJ 15 h (by kernel_rfl) (aT 0 h s cC rfl rfl (aG _ _ _) rfl λf h=>bF h Aj (λw9 hE9=>aR (.bool true) (jB (Sx.getD k cd).1 (Sx.getD k cd).2 w9 ((hT _ (cK hkl)).keep (s.ext.trans hE9)) (hSb _ (cK hkl))) (aH3 Value.bool s0)) rfl rfl λf h=>ay ac 3 h rfl λf h=>bL h rfl (aB (V:=.int .i64 (Sx.getD k cd).1.no) (ae (aJ.of_own s 0 rfl) 0 (CY _ _ _)) h bJ rfl rfl λf h=>ay ac 1 h rfl λf h=>bL h rfl (aB (V:=vo) (ae (aJ.of_own s 1 rfl) 0 rfl) h fE rfl rfl λf h=>ay ac 1 h rfl λf h=>bL h rfl (aF h (bj (hO.1.keep s.ext) (k) aR5 ms (h.ev rfl) (h.ev rfl) (by omega) (by omega)) rfl λf h=>bL h rfl (aF h (bq f5 (h.ev rfl) ((hO.1.keep s.ext).some (by omega))) rfl λf h=>bL h rfl (aF h (bq jh (h.ev rfl) ((hO.1.keep s.ext).some (by omega))) rfl λf h=>bL h rfl (aB (V:=.int .i64 (L.getD k z3).1.me.1) (er (hO.1.keep s.ext) (k*68+0) (wg _ k hko)) h bJ rfl rfl λf h=>bL h rfl (nD ac h rfl (by simpa using s1) λf h=>ay ac 1 h rfl λf h=>bY s λw1 s=>iY h rfl (bE ac 1 h rfl λf h=>aL3 (bA (aS (aS (bA (aS (av rfl h s rfl (by show _=_;rw [AD hkl (by rw [s0,s1];rfl)]))))))))))))))))
    ·refine dJ 15 h (by kernel_rfl) (aT 0 h s cC rfl rfl (aG _ _ _) rfl λf h=>bF h Aj (λw9 hE9=>aR (.bool true) (jB (Sx.getD k cd).1 (Sx.getD k cd).2 w9 ((hT _ (cK hkl)).keep (s.ext.trans hE9)) (hSb _ (cK hkl))) (aH3 Value.bool s0)) rfl rfl λf h=>ay ac 3 h rfl λf h=>bL h rfl (aB (V:=.int .i64 (Sx.getD k cd).1.no) (ae (aJ.of_own s 0 rfl) 0 (CY _ _ _)) h bJ rfl rfl λf h=>ay ac 1 h rfl λf h=>bL h rfl (aB (V:=vo) (ae (aJ.of_own s 1 rfl) 0 rfl) h fE rfl rfl λf h=>ay ac 1 h rfl λf h=>bL h rfl (aF h (bj (hO.1.keep s.ext) (k) aR5 ms (h.ev rfl) (h.ev rfl) (by omega) (by omega)) rfl λf h=>bL h rfl (aF h (bq f5 (h.ev rfl) ((hO.1.keep s.ext).some (by omega))) rfl λf h=>bL h rfl (aF h (bq jh (h.ev rfl) ((hO.1.keep s.ext).some (by omega))) rfl λf h=>bL h rfl (aB (V:=.int .i64 (L.getD k z3).1.me.1) (er (hO.1.keep s.ext) (k*68+0) (wg _ k hko)) h bJ rfl rfl λf h=>bL h rfl (vB ac h rfl (by simpa using s1) λf h=>ay ac 1 h rfl λf h=>bY s λw1 s=>wV h rfl (wpIn_skip (aW (aD (aw (ai h (bo (h.ev rfl) (h.ev rfl) (by omega)) rfl λf h=>e9 ac 1 h rfl λf h=>?_)))))))))))))
     exact ⟨_,by omega,⟨k+1,h.only ⟨rfl,rfl,rfl,rfl,rfl,ao rfl (by omega),trivial⟩,St.as (s.pick _ (aI8 [_] _)) ⟨rfl,trivial⟩,rfl,by omega,gv hp1 (by rw [s0,s1];rfl)⟩⟩
  ·refine aL5 (aO (aO (bS (aD (bE ac 1 h rfl λf h=>aL3 (av rfl h s rfl (by show _=_;rw [Ji (aG9 l0) (λj hj=>hp1 j (by omega))])))))))
set_option maxHeartbeats 1000000 in
theorem rp (X:Wx) (vo vs vh vl:Value)  (w:World) (hX:RdW w vo vs vh vl X) (hb:BdW (aC X)):Calls Tryz.prog 12 [.agg (fA vo vs vh vl X.M.last X.M.now)].toArray w (cb w (is (.bool (bZ (aC X))))):=by
 have hbM:X.M.l.length<=100:=hb.ml
 refine bK Tryz.func12 rfl Tryz.ntmps12 rfl λf h s=>qr (aV (fA vo vs vh vl X.M.last X.M.now) h s rfl rfl rfl λf w1 b1 h s=>e9 ac 1 h rfl λf h=>ah ?_)
 refine rs ac 1 h rfl λf h=>ap (aJ.subL (aJ.of_own s 0 rfl) 0 1 (D:=#[vo]) (al4 _ _ _ _ _ _)) h bN rfl (rfl) rfl λf h=>fh h s YN (Hu X.L vo _ (hX.keep s.ext).ov hb.ox hb.oe) rfl rfl (λo0 f w1 h s=>?_) (λo0 f w1 h s=>?_)
 ·refine e9 ac 18 h rfl λf h=>aL3 (av rfl h s rfl (by show _=_;rw [DO,o0];rfl))
 ·skip
  refine am ac 2 h rfl λf h=>cy h rfl (ag (V:=vs) (ae (aJ.of_own s 0 rfl) 1 (vA _ _ _ _ _ _)) h ij rfl rfl λf h=>am ac 1 h rfl λf h=>cy h rfl (ap (aJ.subL (aJ.of_own s 0 rfl) 0 1 (D:=#[vo]) (al4 _ _ _ _ _ _)) h bN rfl (rfl) rfl λf h=>cy h rfl (fh h s ZJ (Na X.S X.L vs vo _ (hX.keep s.ext).sv (hX.keep s.ext).sw (hX.keep s.ext).ov hb.s9 hb.s8 hb.ox) rfl rfl (λs0 f w1 h s=>?_) (λs0 f w1 h s=>?_))))
  ·refine e9 ac 12 h rfl λf h=>aL3 (av rfl h s rfl (by show _=_;rw [DO,o0,s0];rfl))
  ·skip
   refine am ac 3 h rfl λf h=>cy h rfl (ag (V:=vh) (ae (aJ.of_own s 0 rfl) 2 (Hl _ _ _ _ _ _)) h nV rfl rfl λf h=>cy h rfl (fh h s aj9 (Lg X.H vh _ (hX.keep s.ext).ho (hX.keep s.ext).hw hb.h9 hb.h8) rfl rfl (λh0 f w1 h s=>?_) (λh0 f w1 h s=>?_)))
   ·refine e9 ac 7 h rfl λf h=>aL3 (av rfl h s rfl (by show _=_;rw [DO,o0,s0,h0];rfl))
   ·skip
    refine am ac 3 h rfl λf h=>cy h rfl (ap (aJ.subL (aJ.of_own s 0 rfl) 3 3 (D:=#[vl,.int .i64 X.M.last,.int .i64 X.M.now]) (at4 _ _ _ _ _ _)) h eS rfl (rfl) rfl λf h=>cy h rfl (fh h s Uj (tK X.M vl _ (hX.keep s.ext).ml (by omega)) rfl rfl (λm0 f w1 h s=>?_) (λm0 f w1 h s=>?_)))
    ·refine e9 ac 2 h rfl λf h=>aL3 (av rfl h s rfl (by show _=_;rw [DO,o0,s0,h0,m0];rfl))
    ·refine e9 ac 2 h rfl λf h=>aL3 (av rfl h s rfl (by show _=_;rw [DO,o0,s0,h0,m0];rfl))
set_option maxHeartbeats 2000000 in
theorem kZ (X:Wx) (vo vs vh vl:Value) (a:Ac) (va:Value) (fn:Nat)  (w:World) (hX:RdW w vo vs vh vl X) (hb:BdW (aC X)) (hrt:bZ (aC X)=true) (hA:iJ w va a.l) (hk1:1<=a.k) (hk2:a.k<=15) (hkv:∃ j,Instr.findNow (.int .i64) (.int .i64 a.k) (kvE JU).toList 0=some (some (j,.func (.func fn) #[] #[]))) (hFn:Fnc Tryz.prog fn) (hC:az1 Tryz.prog fn 84 54 68 91 X a va):Calls Tryz.prog 9 [.agg (fA vo vs vh vl X.M.last X.M.now),.agg (bQ a va)].toArray w (cb w (S7 w vo vs vh vl X va a.l (dW (aC X) a))):=by
 have hst:=qe hrt hk1 hk2
 refine bK Tryz.func9 rfl Tryz.ntmps9 rfl λf h s=>qr (aV (fA vo vs vh vl X.M.last X.M.now) h s rfl rfl rfl λf w1 b2 h s=>aV (bQ a va) h s rfl rfl rfl λf w1 b3 h s=>aK (fA ax ax ax ax 0 0) h s yb rfl rfl λf w1 b4 h s=>e9 ac 2 h rfl λf h=>ah (fC 0 8 [[],[],[1],[0,1,2],[0,1,2,3],[0,1,2,3,4],[0,1,2,3,4],[0,1,2,3,4,5],[0,1,2,3,4,5,6,7]] [[],[],[],[0],[],[],[],[],[]] [] [.r (λv=>[.blk (mbk (v 0)) (KvO JU)]) (λv=>v 0=.map (some (mbk (v 0)))),.v _,.v (.int .i64 a.k),.v (.tuple #[.func (.func fn) #[] #[],.bool true]),.v _,.v _,.v _,.v _,.n] _ h s rfl (by kernel_rfl) (by kernel_rfl) (by kernel_rfl) (cm ?_ (gL ac h rfl rfl rfl (cm ?_ (cm ?_ (gL ac h rfl rfl rfl (gL ac h rfl rfl rfl (gL ac h rfl rfl rfl (gL ac h rfl rfl rfl (trivial))))))))) [1,2,3,4,5,6,7] (by kernel_rfl) ?_))
 ·intro f9 w2 vl1 E9 hs9 hd9 hl hF s
  have h:=ia [] (hs9.trans h.size) (hd9.trans h.defers) (holds_lk trivial)
  refine aY h s al0 (HY _) rfl rfl ?_;rintro f w1 v12 ⟨bm,rfl,hS⟩ hE h sq;replace s:=s.add hS;clear hS
  exact az ⟨_,br 12 h rfl rfl,rfl,s⟩
 ·intro f9 w2 vl1 E9 hs9 hd9 hl hF s
  have h:=cq [(13,_)] h hs9 hd9 ⟨a7 hl 13 1 (by kernel_rfl) (hF 1 (by decide)),trivial⟩
  refine ag (V:=.int .i64 a.k) (ae (aJ.of_own s 1 rfl) 0 (ZL _ _)) h bJ rfl rfl λf h=>az ⟨_,br 14 h rfl rfl,rfl,s⟩
 ·intro f9 w2 vl1 E9 hs9 hd9 hl hF s
  have h:=cq [(12,_),(14,_)] h hs9 hd9 ⟨ff hl 12 0 (by kernel_rfl) (by kernel_rfl),a7 hl 14 2 (by kernel_rfl) (hF 2 (by decide)),trivial⟩
  have hm9:vl1 0=.map (some (mbk (vl1 0))):=hF 0 (by decide)
  refine AH (V:=.func (.func fn) #[] #[]) (ok:=true) 0 h s aU6 aR2 (by exact rfl) UE ((rfl:_=some (vl1 0)).trans (aH3 some hm9)) rfl rfl (.inl ⟨_,hkv.choose_spec,rfl⟩) rfl ?_;intro f h
  exact az ⟨_,br 15 h rfl rfl,rfl,(s.pick _ (aG8 _ (aG7 _ (aG7 _ (aG7 _ (List.Sublist.refl _))))))⟩
 intro f w1 vl1 hs9 hd9 hv hr hF s
 replace hv:=λi d h9=>hv i d (show Nat.blt i 8=true from h9)
 replace h:=ew 8 (ops:=_) [(12,(vl1 0)),(13,_),(14,_),(15,_),(11,_),(16,_),(17,_),(7,_)] h hs9 hd9 hr ⟨hv 0 12 rfl rfl,(hv 1 13 rfl rfl).trans (hF 1 rfl),(hv 2 14 rfl rfl).trans (hF 2 rfl),(hv 3 15 rfl rfl).trans (hF 3 rfl),(hv 4 11 rfl rfl).trans (hF 4 rfl),(hv 5 16 rfl rfl).trans (hF 5 rfl),(hv 6 17 rfl rfl).trans (hF 6 rfl),(hv 7 7 rfl rfl).trans (hF 7 rfl),trivial⟩ (by kernel_rfl)
 refine e9 ac 1 h rfl λf h=>ah (bU ac 3 h rfl λf h=>cy h rfl (ak 2 h s g4 rfl rfl (cx _ _ _ _ _ _) rfl λf h=>cy h rfl (jD true h s S6 (rp X vo vs vh vl _ (hX.keep s.ext) hb) (hrt) rfl rfl λf w1 h s=>e9 ac 2 h rfl λf h=>nH h rfl (qr (ak 2 h s g4 rfl rfl (cx _ _ _ _ _ _) rfl λf h=>aY h s ad5 (AW X vo vs vh vl _ (hX.keep s.ext) hb) rfl rfl ?_)))));rintro f w1 v27 ⟨uo,us,uh,ul,Y,ks,hv9,hY,hS⟩ hE h sq;replace s:=s.add hS;clear hS
 have hM:Y.M=X.M:=aH3 Wd.ml hY
 rw [← hM] at hv9
 subst hv9
 refine ai h (Ba ai5 (h.ev rfl)) rfl λf h=>aK (gJ ax ax ax ax 0 0 ax) h s Wi rfl rfl λf w1 b9 h s=>al 0 h s ZV rfl rfl rfl (fR _ _ _ _ _ _ _) (fR _ _ _ _ _ _ _) (Ov _ _ (bI (s.getG 3 rfl).ov.1) (bk (s.getSl 1 rfl)) (bk (s.getSl 2 rfl)) (bI (s.getG 3 rfl).ml) (rfl)) λw1 s=>nt (ah (bU ac 1 h rfl λf h=>ak 5 h s tJ rfl rfl (eo _ _) rfl λf h=>?_))
 replace s:=s.nilSl 91 74
 replace s:=s.bring 4 rfl
 replace s:=s.bring 1 rfl
 replace s:=s.bring 4 rfl
 replace s:=s.bring 4 rfl
 replace s:=s.bring 4 rfl
 refine Ni [.pointer (some ⟨b9,0,none⟩),.agg (bQ a va)] h hFn rfl (hC uo us uh ul ax Y ks b9 _ w _ hY (λw9 s9=>hA.keep s9.ext) s) rfl rfl ?_;rintro f w1 v31 ⟨rfl,po,ps,ph,pl,pn,Z,N,kk,hR,s⟩ h
 refine e9 ac 1 h rfl λf h=>bE ac 2 h rfl λf h=>bV h rfl (λhc=>?_) (λhc=>?_)
 ·have e0:¬ (D8 (aC X) a a.k.toNat).e=0:=aG9 hc
  refine qr (ai h (pv TO) rfl λf h=>am ac 1 h rfl λf h=>al 5 h s g4 rfl rfl rfl (cx _ _ _ _ _ _) (cx _ _ _ _ _ _) (js _ _ (rfl) (rfl) (rfl) (rfl)) λw1 s=>e9 ac 2 h rfl λf h=>rt ?_)
  exact cY 5 rfl h s g4 rfl rfl (cx _ _ _ _ _ _) rfl rfl (by rw [hst];exact ab7 ((EL _ _ _).resolve_left e0).1 ((EL _ _ _).resolve_left e0).2 rfl s)
 ·have e0:(D8 (aC X) a a.k.toNat).e=0:=Decidable.of_not_not (aH0 hc)
  refine kt (ah ?_)
  replace s:=s.bring 5 rfl
  refine fC 1 5 [[],[0],[],[2],[0,1],[0,1,2,3,4],[0,1,2,3,4,5]] [[],[],[],[],[7],[],[]] [[_]] [.v _,.v (.agg (fA po ps ph pl Z.M.last Z.M.now)),.v _,.v pn,.m (λv=>[.blk b4 (.cells (fA po ps ph pl Z.M.last Z.M.now) 31)]),.n,.n] _ h s rfl (by kernel_rfl) (by kernel_rfl) (by kernel_rfl) (gL ac h rfl rfl rfl (cm ?_ (gL ac h rfl rfl rfl (cm ?_ (cm ?_ (trivial)))))) [0,1,2,3,4] (by kernel_rfl) ?_
  ·intro f9 w2 vl8 E9 hs9 hd9 hl hF s
   have h:=cq [(36,_)] h hs9 hd9 ⟨a7 hl 36 0 (by kernel_rfl) (hF 0 (by decide)),trivial⟩
   refine ap (aJ.subL (aJ.of_own s 0 rfl) 0 6 (D:=fA po ps ph pl Z.M.last Z.M.now) (ax2 _ _ _ _ _ _ _)) h g4 rfl (cx _ _ _ _ _ _) rfl λf h=>az ⟨_,br 37 h rfl rfl,rfl,s⟩
  ·intro f9 w2 vl8 E9 hs9 hd9 hl hF s
   have h:=cq [(38,_)] h hs9 hd9 ⟨a7 hl 38 2 (by kernel_rfl) (hF 2 (by decide)),trivial⟩
   refine ag (V:=pn) (ae (aJ.of_own s 0 rfl) 6 (ah0 _ _ _ _ _ _ _)) h NR rfl rfl λf h=>az ⟨_,br 39 h rfl rfl,rfl,s⟩
  ·intro f9 w2 vl8 E9 hs9 hd9 hl hF s
   have h:=cq [(4,_),(37,_)] h hs9 hd9 ⟨fu hl 4 (by kernel_rfl) (h.holds 4 _ rfl),a7 hl 37 1 (by kernel_rfl) (hF 1 (by decide)),trivial⟩
   refine al 0 h s g4 rfl rfl rfl (cx _ _ _ _ _ _) (cx _ _ _ _ _ _) (js _ _ (bI (s.getG 5 rfl).ov.1) (bk (s.getSl 2 rfl)) (bk (s.getSl 3 rfl)) (bI (s.getG 5 rfl).ml)) λw1 s=>az ⟨undef,gV rfl,trivial,s⟩
  intro f w1 vl8 hs9 hd9 hv hr hF s
  replace hv:=λi d h9=>hv i d (show Nat.blt i 5=true from h9)
  replace h:=ew 5 (ops:=_) [(36,_),(37,_),(38,_),(39,_)] h hs9 hd9 hr ⟨(hv 0 36 rfl rfl).trans (hF 0 rfl),(hv 1 37 rfl rfl).trans (hF 1 rfl),(hv 2 38 rfl rfl).trans (hF 2 rfl),(hv 3 39 rfl rfl).trans (hF 3 rfl),trivial⟩ (by kernel_rfl)
  refine e9 ac 2 h rfl λf h=>aL3 ?_
  exact cY 0 rfl h s g4 rfl rfl (cx _ _ _ _ _ _) rfl rfl ((hst▸ZP hR e0 (s.sel [1,2,3,4,5] rfl (by decide))))
set_option maxHeartbeats 2000000 in
theorem DH (S:List V2) (i:Nat) (gd:V2) (be:Mb) (no:Int) (sec:ByteArray) (x:Id) (ml:List Mb) (vs vm:Value) (S0:World->Prop) (kk:List Nat) (B9:List Own) (w0 w:World) (s:St w0 (.sl vs 54 3 S.length (a8 S)::.grp kk S0::B9) w) (hi:i<S.length) (hgd:gd=S.getD i cd) (hbe:be=rX ml no) (hSl:S.length<=1000) (hml:ml.length<=1000) (hg1:gd.2.oneCell'=true) (htl:gd.1.tb.length<=1000) (hS0:∀ w9,S0 w9->eP w9 gd.2 gd.1.tb) (hM:∀ w9,St w0 B9 w9->bs w9 vm 33 ml.length (aq ml)) (hgl:(mw gd.1 be.2 x).length<=1000):Calls Tryz.prog 96 [.agg (bC no sec ax),iy x,.pointer (some (bO vs (i*3))),vm].toArray w (λe w9=>∃ v,e=.returned v/\∃ (p q:Value) (k1:List Nat),v=.agg (bC (gP ⟨no,sec,[]⟩ (mw gd.1 be.2 x)).no (gP ⟨no,sec,[]⟩ (mw gd.1 be.2 x)).sec p)/\St w0 (.sl vs 54 3 S.length (a8 (S.set i (((jR gd.1 be.2 x),q):V2)))::.grp k1 (λw9=>S0 w9->eP w9 q (jR gd.1 be.2 x).tb/\eP w9 p (gP ⟨no,sec,[]⟩ (mw gd.1 be.2 x)).tb)::.grp kk S0::B9) w9):=by
 refine c7 Tryz.func96 rfl Tryz.ntmps96 rfl [(0,.agg (bC no sec ax)),(1,iy x),(2,.pointer (some (bO vs (i*3)))),(3,vm)] (by simp) λf h=>?_
 refine qr (aV (bC no sec ax) h s rfl rfl rfl λf w1 b4 h s=>aV (aH x) h s rfl rfl rfl λf w1 b5 h s=>aK (bC 0 ByteArray.empty ax) h s i4 rfl rfl λf w1 b8 h s=>nt (bU ac 2 h rfl λf h=>ag (V:=.int .i64 no) (ae (aJ.of_own s 2 rfl) 0 (CY _ _ _)) h bJ rfl rfl λf h=>dF h s YG (aR (.tuple #[.agg (ar be),.int .i64 (i9 ml no)]) (Di ml vm no _ (hM _ (s.dropN 5)) hml) (by rw [hbe])) rfl rfl λf w1 h s=>am ac 3 h rfl λf h=>aK (ar bH) h s em rfl rfl λf w1 b9 h s=>al 0 h s aQ rfl rfl rfl (aj _) (aj _) (bD _) λw1 s=>e9 ac 1 h rfl λf h=>ah (m7 (γ:=List Nat × (Value × Value)) 0 14 [[],[0],[0,1],[],[3],[],[0,1,2,3,4,5],[0,1,2,3,4,5,6],[0,1,2,3,4,5,6,7],[0,1,2,3,4,5,6,7],[0,1,2,3,4,5,6,7],[],[0,1,2,3,4,5,6,7,8,11],[0,1,2,3,4,5,6,7,8,9,11,12],[0,1,2,3,4,5,6,7,8,9,10,11,12,13]] [[],[],[],[],[],[],[],[],[],[],[],[],[11],[],[]] [] [.v _,.v _,.v (.agg (bC gd.1.no gd.1.sec gd.2)),.v _,.v (.agg (aH be.2)),.v (.agg (aH x)),.r (λv=>[.grp (v 6).2.1 (λw9=>eP w9 gd.2 gd.1.tb->eP w9 (g7 (v 6).2.2.1) (jR gd.1 be.2 x).tb/\eP w9 (g7 (v 6).2.2.2) (mw gd.1 be.2 x))]) (λv=>(v 6).1=.tuple #[.agg (bC (jR gd.1 be.2 x).no (jR gd.1 be.2 x).sec (g7 (v 6).2.2.1)),(g7 (v 6).2.2.2),.int .i64 (OX gd.1)]),.f (λv=>(v 7).1=.tuple #[.agg (bC (jR gd.1 be.2 x).no (jR gd.1 be.2 x).sec (g7 (v 6).2.2.1)),(g7 (v 6).2.2.2),.int .i64 (OX gd.1)]),.f (λv=>(v 8).1=.agg (bC (jR gd.1 be.2 x).no (jR gd.1 be.2 x).sec (g7 (v 6).2.2.1))),.f (λv=>(v 9).1=(g7 (v 6).2.2.2)),.v (.int .i64 (OX gd.1)),.q (λv=>[.blk (vV (v 11).1) (.cells (bC 0 ByteArray.empty ax) 54)]),.m (λv=>[.blk (vV (v 11).1) (.cells (bC (jR gd.1 be.2 x).no (jR gd.1 be.2 x).sec (g7 (v 6).2.2.1)) 54)]),.f (λv=>(v 13).1=(g7 (v 6).2.2.2)),.n] _ h s rfl (by kernel_rfl) (by kernel_rfl) (by kernel_rfl) (jo ac h rfl rfl rfl (jo ac h rfl rfl rfl (cm ?_ (jo ac h rfl rfl rfl (cm ?_ (cm ?_ (cm ?_ (cm ?_ (cm ?_ (cm ?_ (cm ?_ (cm ?_ (cm ?_ (cm ?_ (trivial))))))))))))))) [0,1,2,3,4,5,6,7,8,9,10,12,13] (by kernel_rfl) ?_)))
 ·intro f9 w2 vl2 E9 hs9 hd9 hl hF s
  have h:=cq [(23,_)] h hs9 hd9 ⟨a7 hl 23 1 (by kernel_rfl) (hF 1 (by decide)),trivial⟩
  refine ap ((bs.of_own (s.getSl 4 rfl)).el (i) (by omega) (by decide) (D:=bC gd.1.no gd.1.sec gd.2) ((nJ _ _ hi).trans (by rw [hgd]))) h cC rfl (aG _ _ _) rfl λf h=>az ⟨(_,default),br 24 h rfl rfl,rfl,s⟩
 ·intro f9 w2 vl2 E9 hs9 hd9 hl hF s
  have h:=cq [(25,_)] h hs9 hd9 ⟨a7 hl 25 3 (by kernel_rfl) (hF 3 (by decide)),trivial⟩
  refine ap (aJ.subL (aJ.of_own s 0 rfl) 1 32 (D:=aH be.2) (fv _)) h bW rfl (by first|exact aA _|exact au _ _) rfl λf h=>az ⟨(_,default),br 26 h rfl rfl,rfl,s⟩
 ·intro f9 w2 vl2 E9 hs9 hd9 hl hF s
  have h:=cq [(5,_)] h hs9 hd9 ⟨fu hl 5 (by kernel_rfl) (h.holds 5 _ rfl),trivial⟩
  refine ak 2 h s bW rfl rfl (by first|exact aA _|exact au _ _) rfl λf h=>az ⟨(_,default),br 27 h rfl rfl,rfl,s⟩
 ·intro f9 w2 vl2 E9 hs9 hd9 hl hF s
  have h:=cq [(24,_),(26,_),(27,_)] h hs9 hd9 ⟨a7 hl 24 2 (by kernel_rfl) (hF 2 (by decide)),a7 hl 26 4 (by kernel_rfl) (hF 4 (by decide)),a7 hl 27 5 (by kernel_rfl) (hF 5 (by decide)),trivial⟩
  have hvg:=hS0 _ (s.getG 5 rfl)
  refine aY h s WT (HJ gd.1 gd.2 be.2 x _ hvg htl) rfl rfl ?_;rintro f w1 v28 ⟨p9,q9,ks,hv28,hG⟩ hE h sq;replace s:=s.add hG;clear hG
  have p1:=ot ((s.getG 0 rfl) (hvg.keep hE)).1
  have p2:=ot ((s.getG 0 rfl) (hvg.keep hE)).2
  replace s:=s.weak (S':=λw9=>eP w9 gd.2 gd.1.tb->eP w9 (g7 p9) (jR gd.1 be.2 x).tb/\eP w9 (g7 q9) (mw gd.1 be.2 x)) (λw9 b=>by rw [p1,p2];exact b)
  rw [← p1,← p2] at hv28
  exact az ⟨(_,(ks,(p9,q9))),br 28 h rfl rfl,hv28,s⟩
 ·intro f9 w2 vl2 E9 hs9 hd9 hl hF s
  have h:=cq [(28,_)] h hs9 hd9 ⟨a7 hl 28 6 (by kernel_rfl) (hF 6 (by decide)),trivial⟩
  refine am ac 1 h rfl λf h=>az ⟨(_,default),br 21 h rfl rfl,rfl,s⟩
 ·intro f9 w2 vl2 E9 hs9 hd9 hl hF s
  have h:=cq [(21,_)] h hs9 hd9 ⟨a7 hl 21 7 (by kernel_rfl) (hF 7 (by decide)),trivial⟩
  refine am ac 1 h rfl λf h=>az ⟨(_,default),br 29 h rfl rfl,rfl,s⟩
 ·intro f9 w2 vl2 E9 hs9 hd9 hl hF s
  have h:=cq [(21,_)] h hs9 hd9 ⟨a7 hl 21 7 (by kernel_rfl) (hF 7 (by decide)),trivial⟩
  refine am ac 1 h rfl λf h=>az ⟨(_,default),br 30 h rfl rfl,rfl,s⟩
 ·intro f9 w2 vl2 E9 hs9 hd9 hl hF s
  have h:=cq [(21,_)] h hs9 hd9 ⟨a7 hl 21 7 (by kernel_rfl) (hF 7 (by decide)),trivial⟩
  refine am ac 1 h rfl λf h=>az ⟨(_,default),br 31 h rfl rfl,rfl,s⟩
 ·intro f9 w2 vl2 E9 hs9 hd9 hl hF s
  have h:=ia [] (hs9.trans h.size) (hd9.trans h.defers) (holds_lk trivial)
  refine aK (bC 0 ByteArray.empty ax) h s i4 rfl rfl λf w1 b11 h s=>az ⟨(_,default),br 11 h rfl rfl,⟨_,rfl⟩,s⟩
 ·intro f9 w2 vl2 E9 hs9 hd9 hl hF s
  obtain ⟨b11,hb11⟩:∃ b,(vl2 11).1=.pointer (some ⟨b,0,none⟩):=hF 11 (by decide)
  have h:=cq [(11,_),(29,_)] h hs9 hd9 ⟨(ff hl 11 11 (by kernel_rfl) (by kernel_rfl)).trans hb11,a7 hl 29 8 (by kernel_rfl) (hF 8 (by decide)),trivial⟩
  replace s:=s.pbi 0 hb11 rfl
  refine al 0 h s cC rfl rfl rfl (aG _ _ _) (aG _ _ _) (cA _ _ (jW _)) λw1 s=>az ⟨(undef,default),gV rfl,trivial,s.pbj 0 hb11 rfl⟩
 ·intro f9 w2 vl2 E9 hs9 hd9 hl hF s
  have h:=cq [(30,_)] h hs9 hd9 ⟨a7 hl 30 9 (by kernel_rfl) (hF 9 (by decide)),trivial⟩
  refine am ac 1 h rfl λf h=>az ⟨(_,default),br 12 h rfl rfl,rfl,s⟩
 intro f w1 vl2 hs9 hd9 hv hr hF s
 replace hv:=λi d h9=>hv i d (show Nat.blt i 14=true from h9)
 obtain ⟨b11,hb11⟩:∃ b,(vl2 11).1=.pointer (some ⟨b,0,none⟩):=hF 11 (by kernel_rfl)
 replace h:=ew 14 (ops:=_) [(22,_),(23,_),(24,_),(25,_),(26,_),(27,_),(28,.tuple #[.agg (bC (jR gd.1 be.2 x).no (jR gd.1 be.2 x).sec (g7 (vl2 6).2.2.1)),(g7 (vl2 6).2.2.2),.int .i64 (OX gd.1)]),(21,.tuple #[.agg (bC (jR gd.1 be.2 x).no (jR gd.1 be.2 x).sec (g7 (vl2 6).2.2.1)),(g7 (vl2 6).2.2.2),.int .i64 (OX gd.1)]),(29,.agg (bC (jR gd.1 be.2 x).no (jR gd.1 be.2 x).sec (g7 (vl2 6).2.2.1))),(30,(g7 (vl2 6).2.2.2)),(31,_),(11,.pointer (some ⟨b11,0,none⟩)),(12,(g7 (vl2 6).2.2.2))] h hs9 hd9 hr ⟨(hv 0 22 rfl rfl).trans (hF 0 rfl),(hv 1 23 rfl rfl).trans (hF 1 rfl),(hv 2 24 rfl rfl).trans (hF 2 rfl),(hv 3 25 rfl rfl).trans (hF 3 rfl),(hv 4 26 rfl rfl).trans (hF 4 rfl),(hv 5 27 rfl rfl).trans (hF 5 rfl),(hv 6 28 rfl rfl).trans (hF 6 rfl),(hv 7 21 rfl rfl).trans (hF 7 rfl),(hv 8 29 rfl rfl).trans (hF 8 rfl),(hv 9 30 rfl rfl).trans (hF 9 rfl),(hv 10 31 rfl rfl).trans (hF 10 rfl),(hv 11 11 rfl rfl).trans hb11,(hv 13 12 rfl rfl).trans (hF 13 rfl),trivial⟩ (by kernel_rfl)
 replace s:St w0 (.grp (vl2 6).2.1 (λw9=>eP w9 gd.2 gd.1.tb->eP w9 (g7 (vl2 6).2.2.1) (jR gd.1 be.2 x).tb/\eP w9 (g7 (vl2 6).2.2.2) (mw gd.1 be.2 x))::.blk (vV (vl2 11).1) (.cells (bC (jR gd.1 be.2 x).no (jR gd.1 be.2 x).sec (g7 (vl2 6).2.2.1)) 54)::.blk b9 (.cells ((ar be)) 60)::.blk b8 (.cells (bC 0 ByteArray.empty ax) 54)::.blk b5 (.cells (aH x) 42)::.blk b4 (.cells (bC no sec ax) 54)::.sl vs 54 3 S.length (a8 S)::(.grp kk S0)::B9) _:=s
 replace s:=s.pbi 1 hb11 rfl
 refine e9 ac 1 h rfl λf h=>bU ac 1 h rfl λf h=>ak 1 h s cC rfl rfl (aG _ _ _) rfl λf h=>am ac 1 h rfl λf h=>fI 6 (i) h s cC rfl rfl rfl (aG _ _ _) (by omega) (cA _ _ (jW _)) (CI (K:=S) hi ((jR gd.1 be.2 x),_)) λw1 s=>nt (qr (ak 5 h s cC rfl rfl (aG _ _ _) rfl λf h=>am ac 1 h rfl λf h=>?_))
 have hvg:=hS0 _ (s.getG 7 rfl)
 have hpq:=(s.getG 0 rfl) hvg
 refine aY h s Ms (wm ⟨no,sec,[]⟩ ax (mw gd.1 be.2 x) (g7 (vl2 6).2.2.2) _ (ji _) (aJ3 _) hpq.2 hgl) rfl rfl ?_;rintro f w1 v38 ⟨p9,kt,hv38,hG⟩ hE h sq;replace s:=s.add hG;clear hG
 have p1:=ot ((s.getG 0 rfl) (ji _) (hpq.2.keep hE))
 replace s:=s.weak (S':=λw9=>eP w9 ax []->eP w9 (g7 (vl2 6).2.2.2) (mw gd.1 be.2 x)->eP w9 (g7 p9) (gP ⟨no,sec,[]⟩ (mw gd.1 be.2 x)).tb) (λw9 b=>by rw [p1];exact b)
 rw [← p1] at hv38
 subst hv38
 refine am ac 4 h rfl λf h=>al 6 h s cC rfl rfl rfl (aG _ _ _) (aG _ _ _) (cA _ _ (jW _)) λw1 s=>nt (qr (ak 6 h s cC rfl rfl (aG _ _ _) rfl λf h=>al 4 h s cC rfl rfl rfl (aG _ _ _) (aG _ _ _) (cA _ _ (jW _)) λw1 s=>nt (aL3 (Vy 4 rfl h s cC rfl rfl (aG _ _ _) (by replace s:=s.bring 8 rfl;replace s:=s.bring 8 rfl;replace s:=s.bring 3 rfl;replace s:=s.bring 3 rfl;exact ⟨_,rfl,_,_,_,rfl,(St.merge (S:=λw9=>S0 w9->eP w9 _ (jR gd.1 be.2 x).tb/\eP w9 _ (gP ⟨no,sec,[]⟩ (mw gd.1 be.2 x)).tb) (s.pick _ (aG7 _ (aG7 _ (aG7 _ (aG7 _ (aG8 _ (aG8 _ (aG8 _ (aG8 _ (aG8 _ (List.Sublist.refl _))))))))))) (λw9 h1 h2 h3=>⟨(h2 (hS0 _ h3)).1,h1 (ji _) (h2 (hS0 _ h3)).2⟩)).perm (aO3 _ _ _)⟩)))))
set_option maxHeartbeats 4000000 in
theorem C5 (vo vs vh vl vn:Value) (X:Wx) (kk:List Nat) (bc:Nat) (B9:List Own) (a:Ac) (va:Value)  (w0 w:World) (s:St w0 (.blk bc (.cells (gJ vo vs vh vl X.M.last X.M.now vn) 84)::.sl vs 54 3 X.S.length (a8 X.S)::.sl vh 68 5 X.H.length (bB X.H)::.sl vn 91 74 ([]:List Nt).length (bM ([]:List Nt))::.grp kk (λw9=>RdC w9 vo vl X)::B9) w) (hbd:BdW (aC X)) (hrt:bZ (aC X)=true) (hU:∀ w9,St w0 B9 w9->iJ w9 va a.l):Calls Tryz.prog 47 [.pointer (some ⟨bc,0,none⟩),.agg (bQ a va)].toArray w (λe w9=>∃ v,e=.returned v/\IS w0 bc 84 54 68 91 (iE (aC X) a) B9 v w9):=by
 have hml:(aN X.L).length<=1000:=by have h9:(aN X.L).length=X.L.length:=aL1 _;have:=hbd.ox;omega
 refine c7 Tryz.func47 rfl Tryz.ntmps47 rfl [(0,.pointer (some ⟨bc,0,none⟩)),(1,.agg (bQ a va))] (by simp) λf h=>?_
 refine qr (aV (bQ a va) h s rfl rfl rfl λf w1 b3 h s=>e9 ac 1 h rfl λf h=>ah (ah ?_))
 refine rs ac 1 h rfl λf h=>ag (V:=.string a.d) (ae (aJ.of_own s 0 rfl) 37 (H7 _ _)) h jv rfl rfl λf h=>ai h (dU aR4 (h.ev rfl)) rfl λf h=>j8 ac (decide (64<a.d.size)) h rfl ((aI3.2 (by omega))) (λd0 f h=>?_) (λd0 f h=>?_)
 ·skip
  cases e0:(jg a.i:Bool)
  ·refine am ac 2 h rfl λf h=>cy h rfl (ap (aJ.subL (aJ.of_own s 0 rfl) 4 32 (D:=aH a.i) (LM _ _)) h bW rfl (by first|exact aA _|exact au _ _) rfl λf h=>cy h rfl (jD false h s MQ (qB a.i _) (e0) rfl rfl λf w1 h s=>e9 ac 2 h rfl λf h=>dG h rfl (bE ac 1 h rfl λf h=>rt (dK rfl h rfl (by replace s:=s.bring 5 rfl;replace s:=s.bring 5 rfl;replace s:=s.bring 5 rfl;replace s:=s.bring 5 rfl;replace s:=s.bring 5 rfl;exact ⟨_,rfl,kU (Kj (by rw [d0,e0];rfl)) (by decide) (s.pick _ (aG7 _ (aG7 _ (aG7 _ (aG7 _ (aG7 _ (aG8 _ (List.Sublist.refl _))))))))⟩)))))
  ·refine am ac 2 h rfl λf h=>cy h rfl (ap (aJ.subL (aJ.of_own s 0 rfl) 4 32 (D:=aH a.i) (LM _ _)) h bW rfl (by first|exact aA _|exact au _ _) rfl λf h=>cy h rfl (aY h s MQ (aR (.bool true) (qB a.i _) (aH3 Value.bool e0)) rfl rfl ?_));intro f w1 v9 hT hE h s;obtain rfl:=hT
   refine e9 ac 2 h rfl λf h=>nH h rfl (ah ?_)
   have hde:(decide (64<a.d.size) || !jg a.i)=false:=by rw [d0,e0];rfl
   refine fC 0 14 [[],[0],[0,1],[0,1,2],[0,1,2,3],[0,1,2,3,4],[],[6],[0,1,2,3,4,5,6,7],[0,1,2,3,4,5,6,7,8],[0,1,2,3,4,5,6,7,8,9],[0,1,2,3,4,5,6,7,8,9],[],[0,1,2,3,4,5,6,7,8,9,10,12],[0,1,2,3,4,5,6,7,8,9,10,11,12,13]] [[],[],[],[],[],[],[],[],[5],[],[],[],[],[12],[]] [] [.v _,.v _,.v _,.v _,.v (.agg (#[vo])),.m (λv=>[.sl (v 5) 60 33 (aN X.L).length (aq (aN X.L))]),.v _,.v (.agg (aH a.i)),.v (.tuple #[.agg (ar (dI (aN X.L) a.i)),.int .i64 (rJ (aN X.L))]),.v _,.v _,.v _,.q (λv=>[.blk (vV (v 12)) (.cells (ar bH) 60)]),.m (λv=>[.blk (vV (v 12)) (.cells (ar (dI (aN X.L) a.i)) 60)]),.n] _ h s rfl (by kernel_rfl) (by kernel_rfl) (by kernel_rfl) (gL ac h rfl rfl rfl (gL ac h rfl rfl rfl (gL ac h rfl rfl rfl (gL ac h rfl rfl rfl (cm ?_ (cm ?_ (gL ac h rfl rfl rfl (cm ?_ (cm ?_ (gL ac h rfl rfl rfl (gL ac h rfl rfl rfl (gL ac h rfl rfl rfl (cm ?_ (cm ?_ (trivial))))))))))))))) [0,1,2,3,4,6,7,8,9,10,11,13] (by kernel_rfl) ?_
   ·intro f9 w2 vl3 E9 hs9 hd9 hl hF s
    have h:=cq [(24,_)] h hs9 hd9 ⟨a7 hl 24 3 (by kernel_rfl) (hF 3 (by decide)),trivial⟩
    refine ap (aJ.subL (aJ.of_own s 1 rfl) 0 1 (D:=#[vo]) (Qu _ _ _ _ _ _ _)) h bN rfl (rfl) rfl λf h=>az ⟨_,br 25 h rfl rfl,rfl,s⟩
   ·intro f9 w2 vl3 E9 hs9 hd9 hl hF s
    have h:=cq [(25,_)] h hs9 hd9 ⟨a7 hl 25 4 (by kernel_rfl) (hF 4 (by decide)),trivial⟩
    refine aY h s AO (hQ X.L vo _ (s.getG 5 rfl).ov hbd.ox) rfl rfl ?_;intro f w1 v26 hT9 hE h sq;replace s:=s.sl_new hE hT9
    exact az ⟨_,br 26 h rfl rfl,trivial,s⟩
   ·intro f9 w2 vl3 E9 hs9 hd9 hl hF s
    have h:=cq [(27,_)] h hs9 hd9 ⟨a7 hl 27 6 (by kernel_rfl) (hF 6 (by decide)),trivial⟩
    refine ap (aJ.subL (aJ.of_own s 0 rfl) 4 32 (D:=aH a.i) (LM _ _)) h bW rfl (by first|exact aA _|exact au _ _) rfl λf h=>az ⟨_,br 28 h rfl rfl,rfl,s⟩
   ·intro f9 w2 vl3 E9 hs9 hd9 hl hF s
    have h:=cq [(26,_),(28,_)] h hs9 hd9 ⟨ff hl 26 5 (by kernel_rfl) (by kernel_rfl),a7 hl 28 7 (by kernel_rfl) (hF 7 (by decide)),trivial⟩
    refine dF h s ak6 (HE (aN X.L) (vl3 5) a.i _ (bs.of_own (s.getSl 0 rfl)) hml) rfl rfl λf w1 h s=>az ⟨_,br 29 h rfl rfl,rfl,(s.pick _ (aG8 _ (aG7 _ (aG7 _ (aG7 _ (aG7 _ (aG7 _ (aG7 _ (List.Sublist.refl _)))))))))⟩
   ·intro f9 w2 vl3 E9 hs9 hd9 hl hF s
    have h:=ia [] (hs9.trans h.size) (hd9.trans h.defers) (holds_lk trivial)
    refine aK (ar bH) h s em rfl rfl λf w1 b5 h s=>az ⟨_,br 5 h rfl rfl,⟨_,rfl⟩,s⟩
   ·intro f9 w2 vl3 E9 hs9 hd9 hl hF s
    obtain ⟨b5,hb5⟩:∃ b,vl3 12=.pointer (some ⟨b,0,none⟩):=hF 12 (by decide)
    have h:=cq [(5,_),(30,_)] h hs9 hd9 ⟨(ff hl 5 12 (by kernel_rfl) (by kernel_rfl)).trans hb5,a7 hl 30 10 (by kernel_rfl) (hF 10 (by decide)),trivial⟩
    replace s:=s.pbi 0 hb5 rfl
    refine al 0 h s aQ rfl rfl rfl (aj _) (aj _) (bD _) λw1 s=>az ⟨undef,gV rfl,trivial,s.pbj 0 hb5 rfl⟩
   intro f w1 vl3 hs9 hd9 hv hr hF s
   replace hv:=λi d h9=>hv i d (show Nat.blt i 14=true from h9)
   obtain ⟨b5,hb5⟩:∃ b,vl3 12=.pointer (some ⟨b,0,none⟩):=hF 12 (by kernel_rfl)
   replace h:=ew 14 (ops:=_) [(21,_),(22,_),(23,_),(24,_),(25,_),(26,(vl3 5)),(27,_),(28,_),(29,_),(20,_),(30,_),(31,_),(5,.pointer (some ⟨b5,0,none⟩))] h hs9 hd9 hr ⟨(hv 0 21 rfl rfl).trans (hF 0 rfl),(hv 1 22 rfl rfl).trans (hF 1 rfl),(hv 2 23 rfl rfl).trans (hF 2 rfl),(hv 3 24 rfl rfl).trans (hF 3 rfl),(hv 4 25 rfl rfl).trans (hF 4 rfl),hv 5 26 rfl rfl,(hv 6 27 rfl rfl).trans (hF 6 rfl),(hv 7 28 rfl rfl).trans (hF 7 rfl),(hv 8 29 rfl rfl).trans (hF 8 rfl),(hv 9 20 rfl rfl).trans (hF 9 rfl),(hv 10 30 rfl rfl).trans (hF 10 rfl),(hv 11 31 rfl rfl).trans (hF 11 rfl),(hv 12 5 rfl rfl).trans hb5,trivial⟩ (by kernel_rfl)
   replace s:St w0 (.blk (vV (vl3 12)) (.cells (ar (dI (aN X.L) a.i)) 60)::.blk b3 (.cells (bQ a va) 45)::.blk bc (.cells (gJ vo vs vh vl X.M.last X.M.now vn) 84)::.sl vs 54 3 X.S.length (a8 X.S)::.sl vh 68 5 X.H.length (bB X.H)::.sl vn 91 74 ([]:List Nt).length (bM ([]:List Nt))::(.grp kk (λw9=>RdC w9 vo vl X))::B9) _:=s
   replace s:=s.pbi 0 hb5 rfl
   refine e9 ac 1 h rfl λf h=>ah (m7 (γ:=List Nat × List N3) 0 18 [[],[0],[0,1],[0,1,2],[0,1,2,3],[],[5],[],[7],[5,6,7,8],[],[10],[0,1,2,3,4,5,6,7,8,9,10,11],[0,1,2,3,4,5,6,7,8,9,10,11,12],[0,1,2,3,4,5,6,7,8,9,10,11,12,13],[0,1,2,3,4,5,6,7,8,9,10,11,12,13],[],[0,1,2,3,4,5,6,7,8,9,10,11,12,13,14,16],[0,1,2,3,4,5,6,7,8,9,10,11,12,13,14,15,16,17]] [[],[],[],[],[],[],[],[],[],[],[],[],[],[],[],[],[],[16],[]] [] [.v _,.v _,.v _,.v _,.v (.agg (#[vo])),.v _,.v (.int .i64 a.no),.v _,.v (.agg (aH a.i)),.v (.agg (ar (a.no,a.i))),.v _,.v (.int .i64 (dI (aN X.L) a.i).1),.r (λv=>[.grp (v 12).2.1 (λw9=>nds (v 12).2.2=(nB X.L (a.no,a.i) (dI (aN X.L) a.i).1)/\(wZ vo X.L w9->kr w9 (jn (v 12).1) (v 12).2.2))]) (λv=>(v 12).1=.tuple #[.agg #[(jn (v 12).1)],.int .i64 (lG X.L (a.no,a.i) (dI (aN X.L) a.i).1)]),.f (λv=>(v 13).1=.tuple #[.agg #[(jn (v 12).1)],.int .i64 (lG X.L (a.no,a.i) (dI (aN X.L) a.i).1)]),.f (λv=>(v 14).1=.agg #[(jn (v 12).1)]),.v (.int .i64 (lG X.L (a.no,a.i) (dI (aN X.L) a.i).1)),.q (λv=>[.blk (vV (v 16).1) (.cells (#[ax]) 24)]),.m (λv=>[.blk (vV (v 16).1) (.cells (#[(jn (v 12).1)]) 24)]),.n] _ h s rfl (by kernel_rfl) (by kernel_rfl) (by kernel_rfl) (jo ac h rfl rfl rfl (jo ac h rfl rfl rfl (jo ac h rfl rfl rfl (jo ac h rfl rfl rfl (cm ?_ (jo ac h rfl rfl rfl (cm ?_ (jo ac h rfl rfl rfl (cm ?_ (cm ?_ (jo ac h rfl rfl rfl (cm ?_ (cm ?_ (cm ?_ (cm ?_ (cm ?_ (cm ?_ (cm ?_ (trivial))))))))))))))))))) [0,1,2,3,4,5,6,7,8,9,10,11,12,13,14,15,17] (by kernel_rfl) ?_)
   ·intro f9 w2 vl4 E9 hs9 hd9 hl hF s
    have h:=cq [(36,_)] h hs9 hd9 ⟨a7 hl 36 3 (by kernel_rfl) (hF 3 (by decide)),trivial⟩
    refine ap (aJ.subL (aJ.of_own s 2 rfl) 0 1 (D:=#[vo]) (Qu _ _ _ _ _ _ _)) h bN rfl (rfl) rfl λf h=>az ⟨(_,default),br 37 h rfl rfl,rfl,s⟩
   ·intro f9 w2 vl4 E9 hs9 hd9 hl hF s
    have h:=cq [(38,_)] h hs9 hd9 ⟨a7 hl 38 5 (by kernel_rfl) (hF 5 (by decide)),trivial⟩
    refine ag (V:=.int .i64 a.no) (ae (aJ.of_own s 1 rfl) 1 (vG _ _)) h bJ rfl rfl λf h=>az ⟨(_,default),br 39 h rfl rfl,rfl,s⟩
   ·intro f9 w2 vl4 E9 hs9 hd9 hl hF s
    have h:=cq [(40,_)] h hs9 hd9 ⟨a7 hl 40 7 (by kernel_rfl) (hF 7 (by decide)),trivial⟩
    refine ap (aJ.subL (aJ.of_own s 1 rfl) 4 32 (D:=aH a.i) (LM _ _)) h bW rfl (by first|exact aA _|exact au _ _) rfl λf h=>az ⟨(_,default),br 41 h rfl rfl,rfl,s⟩
   ·intro f9 w2 vl4 E9 hs9 hd9 hl hF s
    have h:=cq [(39,_),(41,_)] h hs9 hd9 ⟨a7 hl 39 6 (by kernel_rfl) (hF 6 (by decide)),a7 hl 41 8 (by kernel_rfl) (hF 8 (by decide)),trivial⟩
    refine ai h (xz tT (h.ev rfl) (h.ev rfl)) rfl λf h=>az ⟨(_,default),br 42 h rfl rfl,rfl,s⟩
   ·intro f9 w2 vl4 E9 hs9 hd9 hl hF s
    have h:=cq [(43,_)] h hs9 hd9 ⟨a7 hl 43 10 (by kernel_rfl) (hF 10 (by decide)),trivial⟩
    refine ag (ae (aJ.of_own s 0 rfl) 0 (cp _)) h bJ rfl rfl λf h=>az ⟨(_,default),br 44 h rfl rfl,rfl,s⟩
   ·intro f9 w2 vl4 E9 hs9 hd9 hl hF s
    have h:=cq [(37,_),(42,_),(44,_)] h hs9 hd9 ⟨a7 hl 37 4 (by kernel_rfl) (hF 4 (by decide)),a7 hl 42 9 (by kernel_rfl) (hF 9 (by decide)),a7 hl 44 11 (by kernel_rfl) (hF 11 (by decide)),trivial⟩
    have hcQ:=(s.getG 6 rfl)
    have hcR:=hcQ.ov
    refine aY h s Zf (Ik X.L vo (a.no,a.i) (dI (aN X.L) a.i).1 _ hcR hbd.ox hbd.oe) rfl rfl ?_;rintro f w1 v45 ⟨o9,hv9,vp,L1,k1,ho9,hnd,hG⟩ hE h sq;replace s:=s.add hG
    have hRn:=(s.getG 0 rfl) (RdC.keep hcQ hE).ov
    have h0v:vp=jn v45:=by rw [hv9,ho9];exact(ot hRn.1).symm
    clear hG hRn
    subst h0v
    replace s:=s.weak (S':=λw9=>nds L1=(nB X.L (a.no,a.i) (dI (aN X.L) a.i).1)/\(wZ vo X.L w9->kr w9 (jn v45) L1)) (λw9 h9=>⟨hnd,h9⟩)
    have hvx:v45=.tuple #[.agg #[jn v45],.int .i64 (lG X.L (a.no,a.i) (dI (aN X.L) a.i).1)]:=by rw [ho9] at hv9;exact hv9
    exact az ⟨(_,(k1,L1)),br 45 h rfl rfl,hvx,s⟩
   ·intro f9 w2 vl4 E9 hs9 hd9 hl hF s
    have h:=cq [(45,_)] h hs9 hd9 ⟨a7 hl 45 12 (by kernel_rfl) (hF 12 (by decide)),trivial⟩
    refine am ac 1 h rfl λf h=>az ⟨(_,default),br 32 h rfl rfl,rfl,s⟩
   ·intro f9 w2 vl4 E9 hs9 hd9 hl hF s
    have h:=cq [(32,_)] h hs9 hd9 ⟨a7 hl 32 13 (by kernel_rfl) (hF 13 (by decide)),trivial⟩
    refine am ac 1 h rfl λf h=>az ⟨(_,default),br 46 h rfl rfl,rfl,s⟩
   ·intro f9 w2 vl4 E9 hs9 hd9 hl hF s
    have h:=cq [(32,_)] h hs9 hd9 ⟨a7 hl 32 13 (by kernel_rfl) (hF 13 (by decide)),trivial⟩
    refine am ac 1 h rfl λf h=>az ⟨(_,default),br 47 h rfl rfl,rfl,s⟩
   ·intro f9 w2 vl4 E9 hs9 hd9 hl hF s
    have h:=ia [] (hs9.trans h.size) (hd9.trans h.defers) (holds_lk trivial)
    refine aK (#[ax]) h s j5 rfl rfl λf w1 b7 h s=>az ⟨(_,default),br 7 h rfl rfl,⟨_,rfl⟩,s⟩
   ·intro f9 w2 vl4 E9 hs9 hd9 hl hF s
    obtain ⟨b7,hb7⟩:∃ b,(vl4 16).1=.pointer (some ⟨b,0,none⟩):=hF 16 (by decide)
    have h:=cq [(7,_),(46,_)] h hs9 hd9 ⟨(ff hl 7 16 (by kernel_rfl) (by kernel_rfl)).trans hb7,a7 hl 46 14 (by kernel_rfl) (hF 14 (by decide)),trivial⟩
    replace s:=s.pbi 0 hb7 rfl
    refine al 0 h s bN rfl rfl rfl (rfl) (rfl) (cN (pW _)) λw1 s=>az ⟨(undef,default),gV rfl,trivial,s.pbj 0 hb7 rfl⟩
   intro f w1 vl4 hs9 hd9 hv hr hF s
   replace hv:=λi d h9=>hv i d (show Nat.blt i 18=true from h9)
   obtain ⟨b7,hb7⟩:∃ b,(vl4 16).1=.pointer (some ⟨b,0,none⟩):=hF 16 (by kernel_rfl)
   replace h:=ew 18 (ops:=_) [(33,_),(34,_),(35,_),(36,_),(37,_),(38,_),(39,_),(40,_),(41,_),(42,_),(43,_),(44,_),(45,.tuple #[.agg #[(jn (vl4 12).1)],.int .i64 (lG X.L (a.no,a.i) (dI (aN X.L) a.i).1)]),(32,.tuple #[.agg #[(jn (vl4 12).1)],.int .i64 (lG X.L (a.no,a.i) (dI (aN X.L) a.i).1)]),(46,.agg #[(jn (vl4 12).1)]),(47,_),(7,.pointer (some ⟨b7,0,none⟩))] h hs9 hd9 hr ⟨(hv 0 33 rfl rfl).trans (hF 0 rfl),(hv 1 34 rfl rfl).trans (hF 1 rfl),(hv 2 35 rfl rfl).trans (hF 2 rfl),(hv 3 36 rfl rfl).trans (hF 3 rfl),(hv 4 37 rfl rfl).trans (hF 4 rfl),(hv 5 38 rfl rfl).trans (hF 5 rfl),(hv 6 39 rfl rfl).trans (hF 6 rfl),(hv 7 40 rfl rfl).trans (hF 7 rfl),(hv 8 41 rfl rfl).trans (hF 8 rfl),(hv 9 42 rfl rfl).trans (hF 9 rfl),(hv 10 43 rfl rfl).trans (hF 10 rfl),(hv 11 44 rfl rfl).trans (hF 11 rfl),(hv 12 45 rfl rfl).trans (hF 12 rfl),(hv 13 32 rfl rfl).trans (hF 13 rfl),(hv 14 46 rfl rfl).trans (hF 14 rfl),(hv 15 47 rfl rfl).trans (hF 15 rfl),(hv 16 7 rfl rfl).trans hb7,trivial⟩ (by kernel_rfl)
   replace s:St w0 (.grp (vl4 12).2.1 (λw9=>nds (vl4 12).2.2=(nB X.L (a.no,a.i) (dI (aN X.L) a.i).1)/\(wZ vo X.L w9->kr w9 (jn (vl4 12).1) (vl4 12).2.2))::.blk (vV (vl4 16).1) (.cells (#[(jn (vl4 12).1)]) 24)::.blk b5 (.cells (ar (dI (aN X.L) a.i)) 60)::.blk b3 (.cells (bQ a va) 45)::.blk bc (.cells (gJ vo vs vh vl X.M.last X.M.now vn) 84)::.sl vs 54 3 X.S.length (a8 X.S)::.sl vh 68 5 X.H.length (bB X.H)::.sl vn 91 74 ([]:List Nt).length (bM ([]:List Nt))::(.grp kk (λw9=>RdC w9 vo vl X))::B9) _:=s
   replace s:=s.pbi 1 hb7 rfl
   refine e9 ac 1 h rfl λf h=>ah (bE ac 2 h rfl λf h=>bV h rfl (λhc=>?_) (λhc=>?_))
   ·have x0:¬ (lG X.L (a.no,a.i) (dI (aN X.L) a.i).1)=0:=aG9 hc
    refine bE ac 2 h rfl λf h=>rt (dK rfl h rfl (by replace s:=s.bring 8 rfl;replace s:=s.bring 8 rfl;replace s:=s.bring 8 rfl;replace s:=s.bring 8 rfl;replace s:=s.bring 8 rfl;exact ⟨_,rfl,kU (R:=iE (aC X) a) (WN hrt hde x0) x0 (s.pick _ (aG7 _ (aG7 _ (aG7 _ (aG7 _ (aG7 _ (aG8 _ (aG8 _ (aG8 _ (aG8 _ (List.Sublist.refl _)))))))))))⟩))
   ·have x0:(lG X.L (a.no,a.i) (dI (aN X.L) a.i).1)=0:=Decidable.of_not_not (aH0 hc)
    refine kt (bU ac 1 h rfl λf h=>ag (V:=.int .i64 a.no) (ae (aJ.of_own s 3 rfl) 1 (vG _ _)) h bJ rfl rfl λf h=>am ac 1 h rfl λf h=>ag (V:=.string a.d) (ae (aJ.of_own s 3 rfl) 37 (H7 _ _)) h jv rfl rfl λf h=>ai h (yu FD (h.ev rfl) (h.ev rfl)) rfl λf h=>aK (bC 0 ByteArray.empty ax) h s i4 rfl rfl λf w1 b9 h s=>al 0 h s cC rfl rfl rfl (aG _ _ _) (aG _ _ _) (cA _ _ (rfl)) λw1 s=>nt (ah (bE ac 2 h rfl λf h=>bV h rfl (λhc=>?_) (λhc=>?_))))
    ·have hLn:=aj7 (aG9 hc)
     obtain ⟨Rh,ho1,ho2⟩:=AY (a:=a) hrt hLn
     have hSl:X.S.length<=1000:=by have:=hbd.sx;omega
     have hS9:X.S.length<=900:=by have:=hbd.sx;omega
     have hix:=DY (a:=a) hrt hLn
     have hL9:=(s.getG 1 rfl).1
     obtain ⟨jb1,jb2,jb3,jb4,jb5,jb6⟩:=T5 hrt hLn hde x0 hL9
     obtain ⟨gd,hgd⟩:∃ d:V2,d=X.S.getD (fp X (dI (aN X.L) a.i).1) cd:=⟨_,rfl⟩
     obtain ⟨be,hbe⟩:∃ d,d=rX (aN (vl4 12).2.2) a.no:=⟨_,rfl⟩
     have hgm:gd∈X.S:=by rw [hgd];exact cK hix
     obtain ⟨hg8,hh8⟩:=TF (a:=a) (be:=be) ((gx.1 hrt).sright (aL9.2 ⟨gd,hgm,rfl⟩)) (by have h9:=d0;simp only [decide_eq_false_iff_not] at h9;omega) jb5 jb6
     have hgs9:(jR gd.1 be.2 a.i).no=(X.S.getD (fp X (dI (aN X.L) a.i).1) cd).1.no:=by rw [hg8,← hgd]
     have hhn9:(gP ⟨a.no,a.d,[]⟩ (mw gd.1 be.2 a.i)).no=a.no:=by rw [hh8]
     refine fC 0 9 [[],[],[1],[],[],[4],[3,4,5],[],[3,4,5,6,7],[0,1,2,3,4,5,6,7,8],[0,1,2,3,4,5,6,7,8,9]] [[],[],[],[],[],[],[],[],[],[],[]] [] [.v (.agg (bC a.no a.d ax)),.v _,.v (.agg (aH a.i)),.v _,.v _,.v (.int .i64 (dI (aN X.L) a.i).1),.v (.pointer (some (bO vs ((fp X (dI (aN X.L) a.i).1)*3)))),.v (.agg (#[(jn (vl4 12).1)])),.m (λv=>[.sl (v 8) 60 33 (aN (vl4 12).2.2).length (aq (aN (vl4 12).2.2))]),.n,.n] _ h s rfl (by kernel_rfl) (by kernel_rfl) (by kernel_rfl) (cm ?_ (gL ac h rfl rfl rfl (cm ?_ (gL ac h rfl rfl rfl (gL ac h rfl rfl rfl (cm ?_ (cm ?_ (cm ?_ (cm ?_ (trivial)))))))))) [0,1,2,3,4,5,6,7,8] (by kernel_rfl) ?_
     ·intro f9 w2 vl9 E9 hs9 hd9 hl hF s
      have h:=cq [(9,_)] h hs9 hd9 ⟨fu hl 9 (by kernel_rfl) (h.holds 9 _ rfl),trivial⟩
      refine ak 0 h s cC rfl rfl (aG _ _ _) rfl λf h=>az ⟨_,br 58 h rfl rfl,rfl,s⟩
     ·intro f9 w2 vl9 E9 hs9 hd9 hl hF s
      have h:=cq [(59,_)] h hs9 hd9 ⟨a7 hl 59 1 (by kernel_rfl) (hF 1 (by decide)),trivial⟩
      refine ap (aJ.subL (aJ.of_own s 4 rfl) 4 32 (D:=aH a.i) (LM _ _)) h bW rfl (by first|exact aA _|exact au _ _) rfl λf h=>az ⟨_,br 60 h rfl rfl,rfl,s⟩
     ·intro f9 w2 vl9 E9 hs9 hd9 hl hF s
      have h:=cq [(62,_)] h hs9 hd9 ⟨a7 hl 62 4 (by kernel_rfl) (hF 4 (by decide)),trivial⟩
      refine ag (ae (aJ.of_own s 3 rfl) 0 (cp _)) h bJ rfl rfl λf h=>az ⟨_,br 63 h rfl rfl,rfl,s⟩
     ·intro f9 w2 vl9 E9 hs9 hd9 hl hF s
      have h:=cq [(61,_),(63,_)] h hs9 hd9 ⟨a7 hl 61 3 (by kernel_rfl) (hF 3 (by decide)),a7 hl 63 5 (by kernel_rfl) (hF 5 (by decide)),trivial⟩
      refine aY h s Gj (aR (.pointer (some (bO vs ((fp X (dI (aN X.L) a.i).1)*3)))) (jX vo vs vh vl vn X.M.last X.M.now bc X.S (dI (aN X.L) a.i).1 _ (gq.of_own s 5 rfl) (bs.of_own (s.getSl 6 rfl)) (λx hx=>bI ((s.getG 9 rfl).sw x hx)) hSl) (sg hix)) rfl rfl ?_;intro f w1 v9 hT hE h s;obtain rfl:=hT
      exact az ⟨_,br 64 h rfl rfl,rfl,s⟩
     ·intro f9 w2 vl9 E9 hs9 hd9 hl hF s
      have h:=cq [(7,_)] h hs9 hd9 ⟨fu hl 7 (by kernel_rfl) (h.holds 7 _ rfl),trivial⟩
      refine ak 2 h s bN rfl rfl (rfl) rfl λf h=>az ⟨_,br 65 h rfl rfl,rfl,s⟩
     ·intro f9 w2 vl9 E9 hs9 hd9 hl hF s
      have h:=cq [(65,_)] h hs9 hd9 ⟨a7 hl 65 7 (by kernel_rfl) (hF 7 (by decide)),trivial⟩
      refine aY h s AO (hQ (vl4 12).2.2 (jn (vl4 12).1) _ ((s.getG 1 rfl).2 (s.getG 9 rfl).ov) (by have h9:(aN (vl4 12).2.2).length=(vl4 12).2.2.length:=aL1 _;omega)) rfl rfl ?_;intro f w1 v66 hT9 hE h sq;replace s:=s.sl_new hE hT9
      exact az ⟨_,br 66 h rfl rfl,trivial,s⟩
     intro f w1 vl9 hs9 hd9 hv hr hF s
     replace hv:=λi d h9=>hv i d (show Nat.blt i 9=true from h9)
     replace h:=ew 9 (ops:=_) [(58,_),(59,_),(60,_),(61,_),(62,_),(63,_),(64,_),(65,_),(66,(vl9 8))] h hs9 hd9 hr ⟨(hv 0 58 rfl rfl).trans (hF 0 rfl),(hv 1 59 rfl rfl).trans (hF 1 rfl),(hv 2 60 rfl rfl).trans (hF 2 rfl),(hv 3 61 rfl rfl).trans (hF 3 rfl),(hv 4 62 rfl rfl).trans (hF 4 rfl),(hv 5 63 rfl rfl).trans (hF 5 rfl),(hv 6 64 rfl rfl).trans (hF 6 rfl),(hv 7 65 rfl rfl).trans (hF 7 rfl),hv 8 66 rfl rfl,trivial⟩ (by kernel_rfl)
     replace s:St w0 (.sl (vl9 8) 60 33 (aN (vl4 12).2.2).length (aq (aN (vl4 12).2.2))::.blk b9 (.cells (bC a.no a.d ax) 54)::(.grp (vl4 12).2.1 (λw9=>nds (vl4 12).2.2=(nB X.L (a.no,a.i) (dI (aN X.L) a.i).1)/\(wZ vo X.L w9->kr w9 (jn (vl4 12).1) (vl4 12).2.2)))::.blk b7 (.cells (#[(jn (vl4 12).1)]) 24)::.blk b5 (.cells (ar (dI (aN X.L) a.i)) 60)::.blk b3 (.cells (bQ a va) 45)::.blk bc (.cells (gJ vo vs vh vl X.M.last X.M.now vn) 84)::.sl vs 54 3 X.S.length (a8 X.S)::.sl vh 68 5 X.H.length (bB X.H)::.sl vn 91 74 ([]:List Nt).length (bM ([]:List Nt))::(.grp kk (λw9=>RdC w9 vo vl X))::B9) _:=s
     replace s:=s.bring 10 rfl
     replace s:=s.bring 8 rfl
     have hvg:=(s.getG 1 rfl).sw gd hgm
     have hg1:=bI hvg
     refine cM [.agg (bC a.no a.d ax),iy a.i,.pointer (some (bO vs ((fp X (dI (aN X.L) a.i).1)*3))),(vl9 8)] h af4 (DH X.S (fp X (dI (aN X.L) a.i).1) gd be a.no a.d a.i (aN (vl4 12).2.2) vs (vl9 8) (λw9=>RdC w9 vo vl X) _ _ _ _ s hix hgd hbe hSl (aM5 jb3 (by decide)) hg1 (hbd.s9 gd hgm) (λw9 h9=>h9.sw gd hgm) (λw9 s9=>bs.of_own (s9.getSl 0 rfl)) (aM5 (U4 _ _ _) (hbd.s9 gd hgm))) rfl rfl ?_;rintro f w1 v67 ⟨p9,q9,k9,rfl,s⟩ h
     have hpq:=(s.getG 1 rfl) (s.getG 2 rfl)
     have hp1:=bI hpq.2
     have wh:=bI hpq.1
     refine al 4 h s cC rfl rfl rfl (aG _ _ _) (aG _ _ _) (cA _ _ hp1) λw1 s=>nt (bU ac 1 h rfl λf h=>ak 6 h s bN rfl rfl (rfl) rfl λf h=>am ac 3 h rfl λf h=>iP 9 h s bN rfl rfl rfl (rfl) (by rw [fR];omega) (cN (pW _)) λw1 s=>?_)
     replace s:=s.recell (D:=gJ ((jn (vl4 12).1)) vs vh vl X.M.last X.M.now vn) 9 rfl rfl
     refine nt (ah (m7 (γ:=List V2) 1 8 [[],[],[1],[1,2],[1,2,3],[1,2,3,4],[],[1,2,3,4,5,6],[0,1,2,3,4,5,6,7],[0,1,2,3,4,5,6,7,8],[0,1,2,3,4,5,6,7,8,9],[0,1,2,3,4,5,6,7,8,9,10]] [[],[],[],[],[],[],[],[12],[],[],[],[]] [[_]] [.v _,.v _,.v _,.v _,.v _,.v vs,.v (.agg (bC (gP ⟨a.no,a.d,[]⟩ (mw gd.1 be.2 a.i)).no (gP ⟨a.no,a.d,[]⟩ (mw gd.1 be.2 a.i)).sec p9)),.r (λv=>[.sl (v 7).1 54 3 (v 7).2.length (a8 (v 7).2)]) (λv=>(v 7).2.Perm ((X.S.set (fp X (dI (aN X.L) a.i).1) (((jR gd.1 be.2 a.i),q9):V2))++[(((gP ⟨a.no,a.d,[]⟩ (mw gd.1 be.2 a.i)),p9):V2)])/\(v 7).2.Pairwise λa b=>a.1.no<b.1.no),.n,.n,.n,.n] _ h s rfl (by kernel_rfl) (by kernel_rfl) (by kernel_rfl) (jo ac h rfl rfl rfl (jo ac h rfl rfl rfl (jo ac h rfl rfl rfl (jo ac h rfl rfl rfl (jo ac h rfl rfl rfl (cm ?_ (cm ?_ (cm ?_ (trivial))))))))) [0,1,2,3,4,5,6,7] (by kernel_rfl) ?_))
     ·intro f9 w2 vl11 E9 hs9 hd9 hl hF s
      have h:=cq [(77,_)] h hs9 hd9 ⟨a7 hl 77 4 (by kernel_rfl) (hF 4 (by decide)),trivial⟩
      refine ag (V:=vs) (ae (aJ.of_own s 8 rfl) 1 (Xo _ _ _ _ _ _ _)) h ij rfl rfl λf h=>az ⟨(_,default),br 78 h rfl rfl,rfl,s⟩
     ·intro f9 w2 vl11 E9 hs9 hd9 hl hF s
      have h:=cq [(9,_)] h hs9 hd9 ⟨fu hl 9 (by kernel_rfl) (h.holds 9 _ rfl),trivial⟩
      refine ak 3 h s cC rfl rfl (aG _ _ _) rfl λf h=>az ⟨(_,default),br 79 h rfl rfl,rfl,s⟩
     ·intro f9 w2 vl11 E9 hs9 hd9 hl hF s
      have h:=cq [(78,_),(79,_)] h hs9 hd9 ⟨a7 hl 78 5 (by kernel_rfl) (hF 5 (by decide)),a7 hl 79 6 (by kernel_rfl) (hF 6 (by decide)),trivial⟩
      replace s:=s.resl (m:=(X.S.set (fp X (dI (aN X.L) a.i).1) (((jR gd.1 be.2 a.i),q9):V2)).length) (ys:=a8 (X.S.set (fp X (dI (aN X.L) a.i).1) (((jR gd.1 be.2 a.i),q9):V2))) 0 rfl (by rw [List.length_set]) rfl
      have ho9:∀ x∈(X.S.set (fp X (dI (aN X.L) a.i).1) (((jR gd.1 be.2 a.i),q9):V2)),x.2.oneCell'=true:=λx hx=>by rcases List.mem_or_eq_of_mem_set hx with hx|rfl;exact bI ((s.getG 2 rfl).sw x hx);exact wh
      refine cM [vs,.agg (bC (gP ⟨a.no,a.d,[]⟩ (mw gd.1 be.2 a.i)).no (gP ⟨a.no,a.d,[]⟩ (mw gd.1 be.2 a.i)).sec p9),.func (.func 99) #[] #[]] h Tr (pd (X.S.set (fp X (dI (aN X.L) a.i).1) (((jR gd.1 be.2 a.i),q9):V2)) (((gP ⟨a.no,a.d,[]⟩ (mw gd.1 be.2 a.i)),p9):V2) vs _ _ _ s (by rw [List.length_set];omega) ho9 hp1 (Wj hrt hix hgs9 (λz hz=>by rw [hhn9];exact jb4 z hz))) rfl rfl ?_;rintro f w1 v80 ⟨K,hkp,hks,s⟩ h
      exact az ⟨(_,K),br 80 h rfl rfl,⟨hkp,hks⟩,s⟩
     intro f w1 vl11 hs9 hd9 hv hr hF s
     replace hv:=λi d h9=>hv i d (show Nat.blt i 8=true from h9)
     replace h:=ew 8 (ops:=_) [(73,_),(74,_),(75,_),(76,_),(77,_),(78,_),(79,_),(80,(vl11 7).1)] h hs9 hd9 hr ⟨(hv 0 73 rfl rfl).trans (hF 0 rfl),(hv 1 74 rfl rfl).trans (hF 1 rfl),(hv 2 75 rfl rfl).trans (hF 2 rfl),(hv 3 76 rfl rfl).trans (hF 3 rfl),(hv 4 77 rfl rfl).trans (hF 4 rfl),(hv 5 78 rfl rfl).trans (hF 5 rfl),(hv 6 79 rfl rfl).trans (hF 6 rfl),hv 7 80 rfl rfl,trivial⟩ (by kernel_rfl)
     replace s:St w0 (.sl (vl11 7).1 54 3 (vl11 7).2.length (a8 (vl11 7).2)::(.grp k9 (λw9=>RdC w9 vo vl X->eP w9 q9 (jR gd.1 be.2 a.i).tb/\eP w9 p9 (gP ⟨a.no,a.d,[]⟩ (mw gd.1 be.2 a.i)).tb))::(.grp kk (λw9=>RdC w9 vo vl X))::.sl (vl9 8) 60 33 (aN (vl4 12).2.2).length (aq (aN (vl4 12).2.2))::.blk b9 (.cells (bC (gP ⟨a.no,a.d,[]⟩ (mw gd.1 be.2 a.i)).no (gP ⟨a.no,a.d,[]⟩ (mw gd.1 be.2 a.i)).sec p9) 54)::(.grp (vl4 12).2.1 (λw9=>nds (vl4 12).2.2=(nB X.L (a.no,a.i) (dI (aN X.L) a.i).1)/\(wZ vo X.L w9->kr w9 (jn (vl4 12).1) (vl4 12).2.2)))::.blk b7 (.cells (#[(jn (vl4 12).1)]) 24)::.blk b5 (.cells (ar (dI (aN X.L) a.i)) 60)::.blk b3 (.cells (bQ a va) 45)::.blk bc (.cells (gJ ((jn (vl4 12).1)) vs vh vl X.M.last X.M.now vn) 84)::.sl vh 68 5 X.H.length (bB X.H)::.sl vn 91 74 ([]:List Nt).length (bM ([]:List Nt))::B9) _:=s
     refine am ac 3 h rfl λf h=>aM 9 h s ij rfl rfl rfl (by rw [fR];omega) (bk (s.getSl 0 rfl)) λw1 s=>?_
     replace s:=s.recell (D:=gJ ((jn (vl4 12).1)) (vl11 7).1 vh vl X.M.last X.M.now vn) 9 rfl (rfl)
     refine nt (bE ac 1 h rfl λf h=>aL3 (dK rfl h rfl (by replace s:=s.bring 11 rfl;replace s:=s.bring 11 rfl;replace s:=s.bring 2 rfl;replace s:=s.bring 11 rfl;replace s:=s.bring 4 rfl;replace s:=s.bring 5 rfl;replace s:=s.bring 8 rfl;exact ⟨_,rfl,Hd (a:=a) hrt hLn hde x0 rfl hgd hbe (hF 7 (by kernel_rfl)).1 (hF 7 (by kernel_rfl)).2 (s.pick _ (aG7 _ (aG7 _ (aG7 _ (aG7 _ (aG7 _ (aG7 _ (aG7 _ (aG8 _ (aG8 _ (aG8 _ (aG8 _ (aG8 _ (List.Sublist.refl _))))))))))))))⟩)))
    ·obtain ⟨hL0,hS0⟩:=af8 hrt (aH0 hc)
     refine kt (bU ac 1 h rfl λf h=>ak 2 h s bN rfl rfl (rfl) rfl λf h=>am ac 3 h rfl λf h=>iP 5 h s bN rfl rfl rfl (rfl) (by rw [fR];omega) (cN (pW _)) λw1 s=>?_)
     replace s:=s.recell (D:=gJ ((jn (vl4 12).1)) vs vh vl X.M.last X.M.now vn) 5 rfl rfl
     refine nt (ah ?_)
     replace s:=s.bring 6 rfl
     refine fC 1 8 [[],[],[1],[1,2],[1,2,3],[1,2,3,4],[],[1,2,3,4,5,6],[0,1,2,3,4,5,6,7],[0,1,2,3,4,5,6,7,8],[0,1,2,3,4,5,6,7,8,9],[0,1,2,3,4,5,6,7,8,9,10]] [[],[],[],[],[],[],[],[12],[],[],[],[]] [[_]] [.v _,.v _,.v _,.v _,.v _,.v vs,.v (.agg (bC a.no a.d ax)),.m (λv=>[.sl (v 7) 54 3 1 (a8 [((⟨a.no,a.d,[]⟩:Sv),ax)])]),.n,.n,.n,.n] _ h s rfl (by kernel_rfl) (by kernel_rfl) (by kernel_rfl) (gL ac h rfl rfl rfl (gL ac h rfl rfl rfl (gL ac h rfl rfl rfl (gL ac h rfl rfl rfl (gL ac h rfl rfl rfl (cm ?_ (cm ?_ (cm ?_ (trivial))))))))) [0,1,2,3,4,5,6,7] (by kernel_rfl) ?_
     ·intro f9 w2 vl11 E9 hs9 hd9 hl hF s
      have h:=cq [(77,_)] h hs9 hd9 ⟨a7 hl 77 4 (by kernel_rfl) (hF 4 (by decide)),trivial⟩
      refine ag (V:=vs) (ae (aJ.of_own s 5 rfl) 1 (Xo _ _ _ _ _ _ _)) h ij rfl rfl λf h=>az ⟨_,br 78 h rfl rfl,rfl,s⟩
     ·intro f9 w2 vl11 E9 hs9 hd9 hl hF s
      have h:=cq [(9,_)] h hs9 hd9 ⟨fu hl 9 (by kernel_rfl) (h.holds 9 _ rfl),trivial⟩
      refine ak 0 h s cC rfl rfl (aG _ _ _) rfl λf h=>az ⟨_,br 79 h rfl rfl,rfl,s⟩
     ·intro f9 w2 vl11 E9 hs9 hd9 hl hF s
      have h:=cq [(78,_),(79,_)] h hs9 hd9 ⟨a7 hl 78 5 (by kernel_rfl) (hF 5 (by decide)),a7 hl 79 6 (by kernel_rfl) (hF 6 (by decide)),trivial⟩
      replace s:=s.resl (m:=([]:List V2).length) (ys:=a8 []) 0 rfl (by rw [hS0]) (by rw [hS0])
      refine cM [vs,.agg (bC a.no a.d ax),.func (.func 99) #[] #[]] h Tr (pd [] ((⟨a.no,a.d,[]⟩:Sv),ax) vs _ _ _ s (aJ3 _) (λx hx=>by cases hx) rfl (List.pairwise_singleton _ _)) rfl rfl ?_;rintro f w1 v80 ⟨K,hkp,hks,s⟩ h
      obtain rfl:=List.perm_singleton.1 hkp
      exact az ⟨_,br 80 h rfl rfl,trivial,s⟩
     intro f w1 vl11 hs9 hd9 hv hr hF s
     replace hv:=λi d h9=>hv i d (show Nat.blt i 8=true from h9)
     replace h:=ew 8 (ops:=_) [(73,_),(74,_),(75,_),(76,_),(77,_),(78,_),(79,_),(80,(vl11 7))] h hs9 hd9 hr ⟨(hv 0 73 rfl rfl).trans (hF 0 rfl),(hv 1 74 rfl rfl).trans (hF 1 rfl),(hv 2 75 rfl rfl).trans (hF 2 rfl),(hv 3 76 rfl rfl).trans (hF 3 rfl),(hv 4 77 rfl rfl).trans (hF 4 rfl),(hv 5 78 rfl rfl).trans (hF 5 rfl),(hv 6 79 rfl rfl).trans (hF 6 rfl),hv 7 80 rfl rfl,trivial⟩ (by kernel_rfl)
     replace s:St w0 (.sl (vl11 7) 54 3 1 (a8 [((⟨a.no,a.d,[]⟩:Sv),ax)])::.blk b9 (.cells (bC a.no a.d ax) 54)::(.grp (vl4 12).2.1 (λw9=>nds (vl4 12).2.2=(nB X.L (a.no,a.i) (dI (aN X.L) a.i).1)/\(wZ vo X.L w9->kr w9 (jn (vl4 12).1) (vl4 12).2.2)))::.blk b7 (.cells (#[(jn (vl4 12).1)]) 24)::.blk b5 (.cells (ar (dI (aN X.L) a.i)) 60)::.blk b3 (.cells (bQ a va) 45)::.blk bc (.cells (gJ ((jn (vl4 12).1)) vs vh vl X.M.last X.M.now vn) 84)::.sl vh 68 5 X.H.length (bB X.H)::.sl vn 91 74 ([]:List Nt).length (bM ([]:List Nt))::(.grp kk (λw9=>RdC w9 vo vl X))::B9) _:=s
     refine am ac 3 h rfl λf h=>aM 6 h s ij rfl rfl rfl (by rw [fR];omega) (bk (s.getSl 0 rfl)) λw1 s=>?_
     replace s:=s.recell (D:=gJ ((jn (vl4 12).1)) (vl11 7) vh vl X.M.last X.M.now vn) 6 rfl (rfl)
     refine nt (bE ac 1 h rfl λf h=>aL3 (dK rfl h rfl (by replace s:=s.bring 8 rfl;replace s:=s.bring 8 rfl;replace s:=s.bring 2 rfl;replace s:=s.bring 8 rfl;replace s:=s.bring 9 rfl;replace s:=s.bring 6 rfl;exact ⟨_,rfl,HZ (a:=a) hL0 hS0 hde x0 (s.pick _ (aG7 _ (aG7 _ (aG7 _ (aG7 _ (aG7 _ (aG7 _ (aG8 _ (aG8 _ (aG8 _ (aG8 _ (List.Sublist.refl _))))))))))))⟩)))
 ·refine e9 ac 6 h rfl λf h=>dG h rfl (bE ac 1 h rfl λf h=>rt (dK rfl h rfl (by replace s:=s.bring 5 rfl;replace s:=s.bring 5 rfl;replace s:=s.bring 5 rfl;replace s:=s.bring 5 rfl;replace s:=s.bring 5 rfl;exact ⟨_,rfl,kU (Kj (by rw [d0];rfl)) (by decide) (s.pick _ (aG7 _ (aG7 _ (aG7 _ (aG7 _ (aG7 _ (aG8 _ (List.Sublist.refl _))))))))⟩)))
theorem rb (X:Wx) (vo vs vh vl:Value) (a:Ac) (va:Value) (w:World) (hX:RdW w vo vs vh vl X) (hb:BdW (aC X)) (hr:bZ (aC X)=true) (hA:iJ w va a.l) (hal:a.l.length<=1000) (hk:a.k=1):Calls Tryz.prog 9 [.agg (fA vo vs vh vl X.M.last X.M.now),.agg (bQ a va)].toArray w (cb w (S7 w vo vs vh vl X va a.l (dW (aC X) a))):=by
 refine kZ X vo vs vh vl a va 47 w hX hb hr hA (by omega) (by omega) ⟨_,by rw [hk];rfl⟩ al1 ?_
 intro po ps ph pl pn Y kk c B9 w0 w1 hY hU s
 have hb9:BdW (aC Y):=by rw [hY];exact hb
 have hr9:bZ (aC Y)=true:=by rw [hY];exact hr
 have h:=C5 po ps ph pl pn Y kk c B9 a va w0 w1 s hb9 hr9 hU
 rw [hY] at h
 rw [hk]
 exact h
theorem Bj (X:Wx) (vo vs vh vl:Value) (a:Ac) (va:Value) (w:World) (hX:RdW w vo vs vh vl X) (hb:BdW (aC X)) (hr:bZ (aC X)=true) (hA:iJ w va a.l) (hal:a.l.length<=1000) (hk:a.k=6) (h9H:(aC X).ho=[]):Calls Tryz.prog 9 [.agg (fA vo vs vh vl X.M.last X.M.now),.agg (bQ a va)].toArray w (cb w (S7 w vo vs vh vl X va a.l (dW (aC X) a))):=by
 refine kZ X vo vs vh vl a va 52 w hX hb hr hA (by omega) (by omega) ⟨_,by rw [hk];rfl⟩ Zu ?_
 intro po ps ph pl pn Y kk c B9 w0 w1 hY hU s
 have hb9:BdW (aC Y):=by rw [hY];exact hb
 have hr9:bZ (aC Y)=true:=by rw [hY];exact hr
 have hH0:Y.H=[]:=by have h8:=aH3 Wd.ho hY;rw [h9H] at h8;exact List.map_eq_nil_iff.1 h8
 have h:=Dd po ps ph pl pn Y kk c B9 a va w0 w1 s hb9 hH0 hU
 rw [hY] at h
 rw [hk]
 exact h
theorem Ck (X:Wx) (vo vs vh vl:Value) (a:Ac) (va:Value) (w:World) (hX:RdW w vo vs vh vl X) (hb:BdW (aC X)) (hr:bZ (aC X)=true) (hA:iJ w va a.l) (hal:a.l.length<=1000) (hk:a.k=10):Calls Tryz.prog 9 [.agg (fA vo vs vh vl X.M.last X.M.now),.agg (bQ a va)].toArray w (cb w (S7 w vo vs vh vl X va a.l (dW (aC X) a))):=by
 refine kZ X vo vs vh vl a va 56 w hX hb hr hA (by omega) (by omega) ⟨_,by rw [hk];rfl⟩ ak9 ?_
 intro po ps ph pl pn Y kk c B9 w0 w1 hY hU s
 have hb9:BdW (aC Y):=by rw [hY];exact hb
 have hr9:bZ (aC Y)=true:=by rw [hY];exact hr
 have h:=C7 po ps ph pl pn Y kk c B9 a va w0 w1 s hb9 hr9 hal hU
 rw [hY] at h
 rw [hk]
 exact h
set_option maxHeartbeats 2000000 in
theorem iA  (w:World):Calls Tryz.prog 13 [].toArray w (cb w (is (.bool true))):=by
 refine bK Tryz.func13 rfl Tryz.ntmps13 rfl λf h s=>bE ac 1 h rfl λf h=>qr (aK (aH 0#256) h s zn rfl rfl λf w1 b1 h s=>nt (ah (bE ac 1 h rfl λf h=>aL4 (aL6 (λnn aa ww=>∃ k:Nat,Sl 69 aa [(1,.pointer (some ⟨b1,0,none⟩)),(2,.int .i64 ((k:Int)+16))]/\St w [.blk b1 (.cells (aH (IF k)) 42)] ww/\nn=16 - k/\k<=16) (16 - (0)) ⟨0,h.only ⟨rfl,ao rfl (by omega),trivial⟩,s.as ⟨fL (by rw [eJ];rfl),trivial⟩,rfl,aJ3 _⟩ ?_))))
 rintro _ f w1 ⟨k,h,s,hnn,hp0⟩
 refine ah (bE ac 2 h rfl λf h=>cB h rfl (λhc=>?_) (λhc=>?_))
 ·refine kt (ah (aL4 (rs ac 1 h rfl λf h=>ai h (mt (k+16) aO8 jE (h.ev rfl) (h.ev rfl) (by omega) (by omega)) rfl λf h=>aM 0 h s r2 rfl rfl rfl (by simp;omega) (rfl) λw1 s=>az (aW (aD (rs ac 1 h rfl λf h=>ai h (bo (h.ev rfl) (h.ev rfl) (by omega)) rfl λf h=>e9 ac 1 h rfl λf h=>?_))))))
  exact ⟨_,by omega,⟨k+1,h.only ⟨rfl,ao rfl (by omega),trivial⟩,St.as s ⟨fL (I3 k),trivial⟩,rfl,by omega⟩⟩
 ·refine aL5 (aO (aO (bS (aD (qr ?_)))))
  obtain rfl:k=16:=by omega
  rw [LQ] at s
  refine ai h (pv TO) rfl λf h=>ak 0 h s bW rfl rfl (by first|exact aA _|exact au _ _) rfl λf h=>ai h (xI KA rfl rfl (h.ev rfl)) rfl λf h=>aY h s Qo (rb zWx ax ax ax ax Ui ax _ (dY _) as8 NP (cT _) (by decide) rfl) rfl rfl ?_;rintro f w1 v20 ⟨oa,sa,ha,la,na,Ya,ka,rfl,qa,hG⟩ hE h sq;replace s:=s.add hG;clear hG
  have ea:aC Ya=XN:=by rw [qa];show (dW LY Ui).w=XN;rw [Ty];rfl
  have fa:(dW (aC zWx) Ui).e=0:=by show (dW LY Ui).e=0;rw [Ty];rfl
  refine am ac 4 h rfl λf h=>aK (fA ax ax ax ax 0 0) h s yb rfl rfl λf w1 b3 h s=>al 0 h s g4 rfl rfl rfl (cx _ _ _ _ _ _) (cx _ _ _ _ _ _) (js _ _ (bI (((s.getG 1 rfl) (dY _) (cT _)).1.ov.1)) (bI (((s.getG 1 rfl) (dY _) (cT _)).1.sv)) (bI (((s.getG 1 rfl) (dY _) (cT _)).1.ho)) (bI (((s.getG 1 rfl) (dY _) (cT _)).1.ml))) λw1 s=>e9 ac 2 h rfl λf h=>qr (ak 0 h s g4 rfl rfl (cx _ _ _ _ _ _) rfl λf h=>ai h (zB KA rfl rfl rfl) rfl λf h=>aY h s Qo (Bj Ya oa sa ha la hsA ax _ ((s.getG 1 rfl) (dY _) (cT _)).1 (Zk ea ap2) (by rw [ea];exact Ua) (cT _) (by decide) rfl (by rw [ea];rfl)) rfl rfl ?_);rintro f w1 v27 ⟨ob,sb,hb,lb,nb,Yb,kb,rfl,qb,hG⟩ hE h sq;replace s:=s.add hG;clear hG
  have eb:aC Yb=wI:=by rw [qb,ea,Ug];rfl
  have fb:(dW (aC Ya) hsA).e=0:=by rw [ea,Ug];rfl
  refine am ac 4 h rfl λf h=>al 1 h s g4 rfl rfl rfl (cx _ _ _ _ _ _) (cx _ _ _ _ _ _) (js _ _ (bI (((s.getG 0 rfl) ((s.getG 2 rfl) (dY _) (cT _)).1 (cT _)).1.ov.1)) (bI (((s.getG 0 rfl) ((s.getG 2 rfl) (dY _) (cT _)).1 (cT _)).1.sv)) (bI (((s.getG 0 rfl) ((s.getG 2 rfl) (dY _) (cT _)).1 (cT _)).1.ho)) (bI (((s.getG 0 rfl) ((s.getG 2 rfl) (dY _) (cT _)).1 (cT _)).1.ml))) λw1 s=>e9 ac 2 h rfl λf h=>qr (ak 1 h s g4 rfl rfl (cx _ _ _ _ _ _) rfl λf h=>ai h (zR Cw rfl rfl) rfl λf h=>cf (vs:=[.agg (cG (2,0#256,3))]) [.tmp 33] h s aS1 F4 rfl rfl (ZZ _) rfl rfl rfl λf w1 v34 h s=>?_)
  replace s:=s.resl (m:=1) (ys:=ed [(2,0#256,3)]) 0 rfl rfl ((ac6 _).trans (tq _).symm)
  refine ai h (A7 [(2,0#256,3)] KA (jN (bs.of_own (s.getSl 0 rfl):iJ _ v34 [(2,0#256,3)])) (iS (bs.of_own (s.getSl 0 rfl):iJ _ v34 [(2,0#256,3)])) rfl rfl (h.ev rfl) rfl) rfl λf h=>aY h s Qo (Ck Yb ob sb hb lb sF v34 _ ((s.getG 1 rfl) ((s.getG 3 rfl) (dY _) (cT _)).1 (cT _)).1 (Zk eb ap9) (by rw [eb];exact Uo) (bs.of_own (s.getSl 0 rfl):iJ _ v34 [(2,0#256,3)]) (by decide) rfl) rfl rfl ?_;rintro f w1 v36 ⟨oc,sc,hc,lc,nc,Yc,kc,rfl,qc,hG⟩ hE h sq;replace s:=s.add hG;clear hG
  obtain ⟨p1,p2,p3,p4⟩:=ac9
  rw [← eb] at p1 p2 p3 p4
  have mc:Yc.M.l.length=1:=by have h9:(aC Yc).ml.l.length=1:=by {rw [qc];exact p4};exact h9
  refine am ac 4 h rfl λf h=>al 3 h s g4 rfl rfl rfl (cx _ _ _ _ _ _) (cx _ _ _ _ _ _) (js _ _ (bI (((s.getG 0 rfl) ((s.getG 2 rfl) ((s.getG 4 rfl) (dY _) (cT _)).1 (cT _)).1 (bs.of_own (s.getSl 1 rfl):iJ _ v34 [(2,0#256,3)])).1.ov.1)) (bI (((s.getG 0 rfl) ((s.getG 2 rfl) ((s.getG 4 rfl) (dY _) (cT _)).1 (cT _)).1 (bs.of_own (s.getSl 1 rfl):iJ _ v34 [(2,0#256,3)])).1.sv)) (bI (((s.getG 0 rfl) ((s.getG 2 rfl) ((s.getG 4 rfl) (dY _) (cT _)).1 (cT _)).1 (bs.of_own (s.getSl 1 rfl):iJ _ v34 [(2,0#256,3)])).1.ho)) (bI (((s.getG 0 rfl) ((s.getG 2 rfl) ((s.getG 4 rfl) (dY _) (cT _)).1 (cT _)).1 (bs.of_own (s.getSl 1 rfl):iJ _ v34 [(2,0#256,3)])).1.ml))) λw1 s=>e9 ac 2 h rfl λf h=>bU ac 1 h rfl λf h=>jK ac h rfl (by rw [fa];rfl) λf h=>am ac 2 h rfl λf h=>cy h rfl (jK ac h rfl (by rw [fb];rfl) λf h=>am ac 3 h rfl λf h=>cy h rfl (jK ac h rfl (by rw [p1];rfl) λf h=>am ac 3 h rfl λf h=>cy h rfl (ck h (((s.getG 0 rfl) ((s.getG 2 rfl) ((s.getG 4 rfl) (dY _) (cT _)).1 (cT _)).1 (bs.of_own (s.getSl 1 rfl):iJ _ v34 [(2,0#256,3)])).2) aS0 rfl rfl λf h=>cy h rfl (jK ac h rfl (by rw [p2];rfl) λf h=>am ac 3 h rfl λf h=>cy h rfl (ai h (bj (((s.getG 0 rfl) ((s.getG 2 rfl) ((s.getG 4 rfl) (dY _) (cT _)).1 (cT _)).1 (bs.of_own (s.getSl 1 rfl):iJ _ v34 [(2,0#256,3)])).2) (0) aS0 ag6 (h.ev rfl) (h.ev rfl) (rfl) (by omega)) rfl λf h=>cy h rfl (ai h (bq E6 (h.ev rfl) ((((s.getG 0 rfl) ((s.getG 2 rfl) ((s.getG 4 rfl) (dY _) (cT _)).1 (cT _)).1 (bs.of_own (s.getSl 1 rfl):iJ _ v34 [(2,0#256,3)])).2).some (by omega))) rfl λf h=>cy h rfl (ag (V:=.int .i64 ((dW (aC Yb) sF).n.getD 0 D5).k) (er (((s.getG 0 rfl) ((s.getG 2 rfl) ((s.getG 4 rfl) (dY _) (cT _)).1 (cT _)).1 (bs.of_own (s.getSl 1 rfl):iJ _ v34 [(2,0#256,3)])).2) (0*74+0) (af5 (by omega))) h bJ rfl rfl λf h=>cy h rfl (jK ac h rfl (by rw [p3];rfl) λf h=>am ac 4 h rfl λf h=>cy h rfl (ag (V:=lc) (ae (aJ.of_own s 3 rfl) 3 (WM _ _ _ _ _ _)) h nU rfl rfl λf h=>cy h rfl (ck h (((s.getG 0 rfl) ((s.getG 2 rfl) ((s.getG 4 rfl) (dY _) (cT _)).1 (cT _)).1 (bs.of_own (s.getSl 1 rfl):iJ _ v34 [(2,0#256,3)])).1.ml) aR8 rfl rfl λf h=>cy h rfl (jK ac h rfl (by rw [mc];rfl) λf h=>e9 ac 2 h rfl λf h=>aL3 (av rfl h s rfl (rfl)))))))))))))
set_option maxHeartbeats 4000000 in
theorem CF (vo vs vh vl vn:Value) (X:Wx) (kk:List Nat) (bc:Nat) (B9:List Own) (a:Ac) (va:Value)  (w0 w:World) (s:St w0 (.blk bc (.cells (gJ vo vs vh vl X.M.last X.M.now vn) 84)::.sl vs 54 3 X.S.length (a8 X.S)::.sl vh 68 5 X.H.length (bB X.H)::.sl vn 91 74 ([]:List Nt).length (bM ([]:List Nt))::.grp kk (λw9=>RdC w9 vo vl X)::B9) w) (hbd:BdW (aC X)) (hrt:bZ (aC X)=true) (hU:∀ w9,St w0 B9 w9->iJ w9 va a.l):Calls Tryz.prog 48 [.pointer (some ⟨bc,0,none⟩),.agg (bQ a va)].toArray w (λe w9=>∃ v,e=.returned v/\IS w0 bc 84 54 68 91 (jZ (aC X) a.no) B9 v w9):=by
 have hml:(aN X.L).length<=1000:=by have:=hbd.ox;unfold aN;rw [aL1];omega
 have hSl:X.S.length<=1000:=hbd.s8
 refine c7 Tryz.func48 rfl Tryz.ntmps48 rfl [(0,.pointer (some ⟨bc,0,none⟩)),(1,.agg (bQ a va))] (by simp) λf h=>?_
 refine qr (aV (bQ a va) h s rfl rfl rfl λf w1 b3 h s=>e9 ac 1 h rfl λf h=>ah (Em (γ:=List Nat × Unit) 0 [[],[0],[0,1],[0,1,2],[0,1,2,3],[0,1,2,3,4],[],[6],[0,1,2,3,4,5,6,7],[0,1,2,3,4,5,6,7,8],[0,1,2,3,4,5,6,7,8,9],[0,1,2,3,4,5,6,7,8,9],[0,1,2,3,4,5,6,7,8,9,10],[0,1,2,3,4,5,6,7,8,9,10,11,12]] [[],[],[],[],[],[],[],[],[5],[],[],[],[],[]] [] [.v _,.v _,.v _,.v _,.v (.agg (#[vo])),.m (λv=>[.sl (v 5).1 60 33 (aN X.L).length (aq (aN X.L))]),.v _,.v (.int .i64 a.no),.r (λv=>[.grp (v 8).2.1 (λw9=>bs w9 (Am (v 8).1) 33 (iQ (aN X.L) a.no 1).length (aq (iQ (aN X.L) a.no 1)))]) (λv=>(v 8).1=.tuple #[(Am (v 8).1),.int .i64 (lM (aN X.L) a.no 1)]),.f (λv=>(v 9).1=.tuple #[(Am (v 8).1),.int .i64 (lM (aN X.L) a.no 1)]),.f (λv=>(v 10).1=(Am (v 8).1)),.v (.int .i64 (lM (aN X.L) a.no 1)),.f (λv=>(v 12).1=(Am (v 8).1)),.v _] _ h s rfl (by kernel_rfl) (by kernel_rfl) (by kernel_rfl) (jo ac h rfl rfl rfl (jo ac h rfl rfl rfl (jo ac h rfl rfl rfl (jo ac h rfl rfl rfl (cm ?_ (cm ?_ (jo ac h rfl rfl rfl (cm ?_ (cm ?_ (cm ?_ (cm ?_ (cm ?_ (cm ?_ (jo ac h rfl rfl rfl (trivial))))))))))))))) [0,1,2,3,4,6,7,8,9,10,11,12,13] (by kernel_rfl) ?_))
 ·intro f9 w2 vl1 E9 hs9 hd9 hl hF s
  have h:=cq [(15,_)] h hs9 hd9 ⟨a7 hl 15 3 (by kernel_rfl) (hF 3 (by decide)),trivial⟩
  refine ap (aJ.subL (aJ.of_own s 1 rfl) 0 1 (D:=#[vo]) (Qu _ _ _ _ _ _ _)) h bN rfl (rfl) rfl λf h=>az ⟨(_,default),br 16 h rfl rfl,rfl,s⟩
 ·intro f9 w2 vl1 E9 hs9 hd9 hl hF s
  have h:=cq [(16,_)] h hs9 hd9 ⟨a7 hl 16 4 (by kernel_rfl) (hF 4 (by decide)),trivial⟩
  refine aY h s AO (hQ X.L vo _ (s.getG 5 rfl).ov hbd.ox) rfl rfl ?_;intro f w1 v17 hT9 hE h sq;replace s:=s.sl_new hE hT9
  exact az ⟨(_,default),br 17 h rfl rfl,trivial,s⟩
 ·intro f9 w2 vl1 E9 hs9 hd9 hl hF s
  have h:=cq [(18,_)] h hs9 hd9 ⟨a7 hl 18 6 (by kernel_rfl) (hF 6 (by decide)),trivial⟩
  refine ag (V:=.int .i64 a.no) (ae (aJ.of_own s 0 rfl) 1 (vG _ _)) h bJ rfl rfl λf h=>az ⟨(_,default),br 19 h rfl rfl,rfl,s⟩
 ·intro f9 w2 vl1 E9 hs9 hd9 hl hF s
  have h:=cq [(17,_),(19,_)] h hs9 hd9 ⟨ff hl 17 5 (by kernel_rfl) (by kernel_rfl),a7 hl 19 7 (by kernel_rfl) (hF 7 (by decide)),trivial⟩
  refine aY h s ai7 (H5 (aN X.L) (vl1 5).1 a.no 1 _ (bs.of_own (s.getSl 0 rfl)) hml) rfl rfl ?_;rintro f w1 v20 ⟨va,hva0,hT⟩ hE h sq;replace s:=s.sl_new hE hT
  obtain ⟨a9,c9,ha9⟩:=d5 (s.getSl 0 rfl)
  have hva:v20=.tuple #[Am v20,.int .i64 (lM (aN X.L) a.no 1)]:=by rw [hva0,ha9];rfl
  have h9v:va=Am v20:=by rw [hva0,ha9];rfl
  subst h9v
  replace s:=(St.group (A:=[.sl (Am v20) 60 33 (iQ (aN X.L) a.no 1).length (aq (iQ (aN X.L) a.no 1)),.sl (vl1 5).1 60 33 (aN X.L).length (aq (aN X.L))]) s).weak (S':=λw9=>bs w9 (Am v20) 33 (iQ (aN X.L) a.no 1).length (aq (iQ (aN X.L) a.no 1))) (λw9 h9=>bs.of_own (h9 (.sl (Am v20) 60 33 (iQ (aN X.L) a.no 1).length (aq (iQ (aN X.L) a.no 1))) (by simp)))
  exact az ⟨(_,(_,())),br 20 h rfl rfl,hva,s⟩
 ·intro f9 w2 vl1 E9 hs9 hd9 hl hF s
  have h:=cq [(20,_)] h hs9 hd9 ⟨a7 hl 20 8 (by kernel_rfl) (hF 8 (by decide)),trivial⟩
  refine am ac 1 h rfl λf h=>az ⟨(_,default),br 11 h rfl rfl,rfl,s⟩
 ·intro f9 w2 vl1 E9 hs9 hd9 hl hF s
  have h:=cq [(11,_)] h hs9 hd9 ⟨a7 hl 11 9 (by kernel_rfl) (hF 9 (by decide)),trivial⟩
  refine am ac 1 h rfl λf h=>az ⟨(_,default),br 21 h rfl rfl,rfl,s⟩
 ·intro f9 w2 vl1 E9 hs9 hd9 hl hF s
  have h:=cq [(11,_)] h hs9 hd9 ⟨a7 hl 11 9 (by kernel_rfl) (hF 9 (by decide)),trivial⟩
  refine am ac 1 h rfl λf h=>az ⟨(_,default),br 22 h rfl rfl,rfl,s⟩
 ·intro f9 w2 vl1 E9 hs9 hd9 hl hF s
  have h:=cq [(21,_)] h hs9 hd9 ⟨a7 hl 21 10 (by kernel_rfl) (hF 10 (by decide)),trivial⟩
  refine am ac 1 h rfl λf h=>az ⟨(_,default),br 5 h rfl rfl,rfl,s⟩
 intro f w1 vl1 hs9 hd9 hv hr hF s
 replace h:=wu (ops:=_) [(12,_),(13,_),(14,_),(15,_),(16,_),(17,(vl1 5).1),(18,_),(19,_),(20,.tuple #[(Am (vl1 8).1),.int .i64 (lM (aN X.L) a.no 1)]),(11,.tuple #[(Am (vl1 8).1),.int .i64 (lM (aN X.L) a.no 1)]),(21,(Am (vl1 8).1)),(22,_),(5,(Am (vl1 8).1)),(6,_)] h hs9 hd9 hr ⟨(hv 0 12 rfl).trans (hF 0 rfl),(hv 1 13 rfl).trans (hF 1 rfl),(hv 2 14 rfl).trans (hF 2 rfl),(hv 3 15 rfl).trans (hF 3 rfl),(hv 4 16 rfl).trans (hF 4 rfl),hv 5 17 rfl,(hv 6 18 rfl).trans (hF 6 rfl),(hv 7 19 rfl).trans (hF 7 rfl),(hv 8 20 rfl).trans (hF 8 rfl),(hv 9 11 rfl).trans (hF 9 rfl),(hv 10 21 rfl).trans (hF 10 rfl),(hv 11 22 rfl).trans (hF 11 rfl),(hv 12 5 rfl).trans (hF 12 rfl),(hv 13 6 rfl).trans (hF 13 rfl),trivial⟩ (by kernel_rfl)
 replace s:St w0 (.grp (vl1 8).2.1 (λw9=>bs w9 (Am (vl1 8).1) 33 (iQ (aN X.L) a.no 1).length (aq (iQ (aN X.L) a.no 1)))::.blk b3 (.cells (bQ a va) 45)::.blk bc (.cells (gJ vo vs vh vl X.M.last X.M.now vn) 84)::.sl vs 54 3 X.S.length (a8 X.S)::.sl vh 68 5 X.H.length (bB X.H)::.sl vn 91 74 ([]:List Nt).length (bM ([]:List Nt))::(.grp kk (λw9=>RdC w9 vo vl X))::B9) _:=s
 refine aD (ah (m7 (γ:=List Nat × List N3) 0 13 [[],[0],[0,1],[0,1,2],[0,1,2,3],[],[5],[0,1,2,3,4,5,6],[0,1,2,3,4,5,6,7],[0,1,2,3,4,5,6,7,8],[0,1,2,3,4,5,6,7,8],[],[0,1,2,3,4,5,6,7,8,9,11],[0,1,2,3,4,5,6,7,8,9,10,11,12]] [[],[],[],[],[],[],[],[],[],[],[],[],[11],[]] [] [.v _,.v _,.v _,.v _,.v (.agg (#[vo])),.v _,.v (.int .i64 a.no),.r (λv=>[.grp (v 7).2.1 (λw9=>nds (v 7).2.2=(NO X.L a.no)/\(wZ vo X.L w9->kr w9 (jn (v 7).1) (v 7).2.2))]) (λv=>(v 7).1=.tuple #[.agg #[(jn (v 7).1)],.int .i64 (cE X.L a.no)]),.f (λv=>(v 8).1=.tuple #[.agg #[(jn (v 7).1)],.int .i64 (cE X.L a.no)]),.f (λv=>(v 9).1=.agg #[(jn (v 7).1)]),.v (.int .i64 (cE X.L a.no)),.q (λv=>[.blk (vV (v 11).1) (.cells (#[ax]) 24)]),.m (λv=>[.blk (vV (v 11).1) (.cells (#[(jn (v 7).1)]) 24)]),.n] _ h s rfl (by kernel_rfl) (by kernel_rfl) (by kernel_rfl) (jo ac h rfl rfl rfl (jo ac h rfl rfl rfl (jo ac h rfl rfl rfl (jo ac h rfl rfl rfl (cm ?_ (jo ac h rfl rfl rfl (cm ?_ (cm ?_ (cm ?_ (cm ?_ (cm ?_ (cm ?_ (cm ?_ (trivial)))))))))))))) [0,1,2,3,4,5,6,7,8,9,10,12] (by kernel_rfl) ?_))
 ·intro f9 w2 vl2 E9 hs9 hd9 hl hF s
  have h:=cq [(27,_)] h hs9 hd9 ⟨a7 hl 27 3 (by kernel_rfl) (hF 3 (by decide)),trivial⟩
  refine ap (aJ.subL (aJ.of_own s 2 rfl) 0 1 (D:=#[vo]) (Qu _ _ _ _ _ _ _)) h bN rfl (rfl) rfl λf h=>az ⟨(_,default),br 28 h rfl rfl,rfl,s⟩
 ·intro f9 w2 vl2 E9 hs9 hd9 hl hF s
  have h:=cq [(29,_)] h hs9 hd9 ⟨a7 hl 29 5 (by kernel_rfl) (hF 5 (by decide)),trivial⟩
  refine ag (V:=.int .i64 a.no) (ae (aJ.of_own s 1 rfl) 1 (vG _ _)) h bJ rfl rfl λf h=>az ⟨(_,default),br 30 h rfl rfl,rfl,s⟩
 ·intro f9 w2 vl2 E9 hs9 hd9 hl hF s
  have h:=cq [(28,_),(30,_)] h hs9 hd9 ⟨a7 hl 28 4 (by kernel_rfl) (hF 4 (by decide)),a7 hl 30 6 (by kernel_rfl) (hF 6 (by decide)),trivial⟩
  have hcQ:=(s.getG 6 rfl)
  have hcR:=hcQ.ov
  refine aY h s UC (Ds X.L vo a.no _ hcR hbd.ox hbd.oe) rfl rfl ?_;rintro f w1 v31 ⟨o9,hv9,vp,L1,k1,ho9,hnd,hG⟩ hE h sq;replace s:=s.add hG
  have hRn:=(s.getG 0 rfl) (RdC.keep hcQ hE).ov
  have h0v:vp=jn v31:=by rw [hv9,ho9];exact(ot hRn.1).symm
  clear hG hRn
  subst h0v
  replace s:=s.weak (S':=λw9=>nds L1=(NO X.L a.no)/\(wZ vo X.L w9->kr w9 (jn v31) L1)) (λw9 h9=>⟨hnd,h9⟩)
  have hvx:v31=.tuple #[.agg #[jn v31],.int .i64 (cE X.L a.no)]:=by rw [ho9] at hv9;exact hv9
  exact az ⟨(_,(k1,L1)),br 31 h rfl rfl,hvx,s⟩
 ·intro f9 w2 vl2 E9 hs9 hd9 hl hF s
  have h:=cq [(31,_)] h hs9 hd9 ⟨a7 hl 31 7 (by kernel_rfl) (hF 7 (by decide)),trivial⟩
  refine am ac 1 h rfl λf h=>az ⟨(_,default),br 23 h rfl rfl,rfl,s⟩
 ·intro f9 w2 vl2 E9 hs9 hd9 hl hF s
  have h:=cq [(23,_)] h hs9 hd9 ⟨a7 hl 23 8 (by kernel_rfl) (hF 8 (by decide)),trivial⟩
  refine am ac 1 h rfl λf h=>az ⟨(_,default),br 32 h rfl rfl,rfl,s⟩
 ·intro f9 w2 vl2 E9 hs9 hd9 hl hF s
  have h:=cq [(23,_)] h hs9 hd9 ⟨a7 hl 23 8 (by kernel_rfl) (hF 8 (by decide)),trivial⟩
  refine am ac 1 h rfl λf h=>az ⟨(_,default),br 33 h rfl rfl,rfl,s⟩
 ·intro f9 w2 vl2 E9 hs9 hd9 hl hF s
  have h:=ia [] (hs9.trans h.size) (hd9.trans h.defers) (holds_lk trivial)
  refine aK (#[ax]) h s j5 rfl rfl λf w1 b7 h s=>az ⟨(_,default),br 7 h rfl rfl,⟨_,rfl⟩,s⟩
 ·intro f9 w2 vl2 E9 hs9 hd9 hl hF s
  obtain ⟨b7,hb7⟩:∃ b,(vl2 11).1=.pointer (some ⟨b,0,none⟩):=hF 11 (by decide)
  have h:=cq [(7,_),(32,_)] h hs9 hd9 ⟨(ff hl 7 11 (by kernel_rfl) (by kernel_rfl)).trans hb7,a7 hl 32 9 (by kernel_rfl) (hF 9 (by decide)),trivial⟩
  replace s:=s.pbi 0 hb7 rfl
  refine al 0 h s bN rfl rfl rfl (rfl) (rfl) (cN (pW _)) λw1 s=>az ⟨(undef,default),gV rfl,trivial,s.pbj 0 hb7 rfl⟩
 intro f w1 vl2 hs9 hd9 hv hr hF s
 replace hv:=λi d h9=>hv i d (show Nat.blt i 13=true from h9)
 obtain ⟨b7,hb7⟩:∃ b,(vl2 11).1=.pointer (some ⟨b,0,none⟩):=hF 11 (by kernel_rfl)
 replace h:=ew 13 (ops:=_) [(24,_),(25,_),(26,_),(27,_),(28,_),(29,_),(30,_),(31,.tuple #[.agg #[(jn (vl2 7).1)],.int .i64 (cE X.L a.no)]),(23,.tuple #[.agg #[(jn (vl2 7).1)],.int .i64 (cE X.L a.no)]),(32,.agg #[(jn (vl2 7).1)]),(33,_),(7,.pointer (some ⟨b7,0,none⟩))] h hs9 hd9 hr ⟨(hv 0 24 rfl rfl).trans (hF 0 rfl),(hv 1 25 rfl rfl).trans (hF 1 rfl),(hv 2 26 rfl rfl).trans (hF 2 rfl),(hv 3 27 rfl rfl).trans (hF 3 rfl),(hv 4 28 rfl rfl).trans (hF 4 rfl),(hv 5 29 rfl rfl).trans (hF 5 rfl),(hv 6 30 rfl rfl).trans (hF 6 rfl),(hv 7 31 rfl rfl).trans (hF 7 rfl),(hv 8 23 rfl rfl).trans (hF 8 rfl),(hv 9 32 rfl rfl).trans (hF 9 rfl),(hv 10 33 rfl rfl).trans (hF 10 rfl),(hv 11 7 rfl rfl).trans hb7,trivial⟩ (by kernel_rfl)
 replace s:St w0 (.grp (vl2 7).2.1 (λw9=>nds (vl2 7).2.2=(NO X.L a.no)/\(wZ vo X.L w9->kr w9 (jn (vl2 7).1) (vl2 7).2.2))::.blk (vV (vl2 11).1) (.cells (#[(jn (vl2 7).1)]) 24)::(.grp (vl1 8).2.1 (λw9=>bs w9 (Am (vl1 8).1) 33 (iQ (aN X.L) a.no 1).length (aq (iQ (aN X.L) a.no 1))))::.blk b3 (.cells (bQ a va) 45)::.blk bc (.cells (gJ vo vs vh vl X.M.last X.M.now vn) 84)::.sl vs 54 3 X.S.length (a8 X.S)::.sl vh 68 5 X.H.length (bB X.H)::.sl vn 91 74 ([]:List Nt).length (bM ([]:List Nt))::(.grp kk (λw9=>RdC w9 vo vl X))::B9) _:=s
 replace s:=s.pbi 1 hb7 rfl
 refine e9 ac 1 h rfl λf h=>ah (bE ac 2 h rfl λf h=>bV h rfl (λhc=>?_) (λhc=>?_))
 ·have x0:¬ (cE X.L a.no)=0:=aG9 hc
  refine bE ac 2 h rfl λf h=>rt (dK rfl h rfl (by replace s:=s.bring 8 rfl;replace s:=s.bring 8 rfl;replace s:=s.bring 8 rfl;replace s:=s.bring 8 rfl;replace s:=s.bring 8 rfl;exact ⟨_,rfl,kU (R:=jZ (aC X) a.no) (VK x0) x0 (s.pick _ (aG7 _ (aG7 _ (aG7 _ (aG7 _ (aG7 _ (aG8 _ (aG8 _ (aG8 _ (aG8 _ (List.Sublist.refl _)))))))))))⟩))
 ·have x0:(cE X.L a.no)=0:=Decidable.of_not_not (aH0 hc)
  refine kt (qr ?_)
  have hce:=YE x0
  have hix:=Gd hrt hce.2
  refine am ac 2 h rfl λf h=>ag (V:=.int .i64 a.no) (ae (aJ.of_own s 3 rfl) 1 (vG _ _)) h bJ rfl rfl λf h=>dF h s Gj (aR (.pointer (some (bO vs ((fp X a.no)*3)))) (jX vo vs vh vl vn X.M.last X.M.now bc X.S a.no _ (gq.of_own s 4 rfl) (bs.of_own (s.getSl 5 rfl)) (λx hx=>bI ((s.getG 8 rfl).sw x hx)) hSl) (sg hix)) rfl rfl λf w1 h s=>am ac 1 h rfl λf h=>ap ((bs.of_own (s.getSl 5 rfl)).el ((fp X a.no)) (by omega) (by decide) (D:=bC (X.S.getD (fp X a.no) cd).1.no (X.S.getD (fp X a.no) cd).1.sec (X.S.getD (fp X a.no) cd).2) (nJ _ _ hix)) h cC rfl (aG _ _ _) rfl λf h=>aK (bC 0 ByteArray.empty ax) h s i4 rfl rfl λf w1 b9 h s=>al 0 h s cC rfl rfl rfl (aG _ _ _) (aG _ _ _) (cA _ _ (bI ((s.getG 9 rfl).sw _ (cK hix)))) λw1 s=>nt (bU ac 1 h rfl λf h=>ak 2 h s bN rfl rfl (rfl) rfl λf h=>am ac 1 h rfl λf h=>ag (V:=.int .i64 a.no) (ae (aJ.of_own s 4 rfl) 1 (vG _ _)) h bJ rfl rfl λf h=>?_)
  replace s:=s.bring 6 rfl
  replace s:=s.bring 6 rfl
  refine cM [.pointer (some ⟨bc,0,none⟩),.agg #[(jn (vl2 7).1)],.int .i64 a.no] h VT (HF vo vs vh vl vn (jn (vl2 7).1) X.M.last X.M.now a.no X.S bc _ _ _ s hSl (λx hx=>bI ((s.getG 9 rfl).sw x hx)) (pW _)) rfl rfl ?_;rintro f w1 v47 ⟨vd,s⟩ h
  obtain ⟨mg,hmg,hmn,haf⟩:=YR hrt hce.2
  have hafl:(iQ (aN X.L) a.no 1).length=1:=by rw [haf];rfl
  have hDl:(X.S.filter λx => !decide (x.1.no=a.no)).length<=1000:=aM5 (aL2 _ _) hSl
  refine nt (ah (ah ?_))
  cases l1:(decide ((rL (λx:V2=>x.1.no) (X.S.filter λx => !decide (x.1.no=a.no)) (fH (aN X.L) mg).1)<(X.S.filter λx => !decide (x.1.no=a.no)).length):Bool)
  ·refine rs ac 2 h rfl λf h=>ai h (bj ((s.getG 5 rfl)) (0) aS2 dX (h.ev rfl) (h.ev rfl) (rfl) (by rw [haf];exact Nat.zero_lt_one)) rfl λf h=>ai h (bq jh (h.ev rfl) (((s.getG 5 rfl)).some (by omega))) rfl λf h=>ag (V:=.int .i64 (fH (aN X.L) mg).1) (er ((s.getG 5 rfl)) (0*33+0) (by rw [haf];rfl)) h bJ rfl rfl λf h=>dF h s Gj (aR (.pointer none) (jX (jn (vl2 7).1) vd vh vl vn X.M.last X.M.now bc (X.S.filter λx => !decide (x.1.no=a.no)) (fH (aN X.L) mg).1 _ (gq.of_own s 0 rfl) (bs.of_own (s.getSl 1 rfl)) (λx hx=>bI ((s.getG 9 rfl).sw x (aK4.1 hx).1)) hDl) (uQ (aH0 l1))) rfl rfl λf w1 h s=>e9 ac 1 h rfl λf h=>bU ac 1 h rfl λf h=>ai h (bz (.bool false) (gN Tryz.underlying161 (h.ev rfl) (h.ev rfl)) (rfl)) rfl λf h=>gS h rfl (bE ac 1 h rfl λf h=>aL3 (dK rfl h rfl (by replace s:=s.bring 8 rfl;replace s:=s.bring 8 rfl;replace s:=s.bring 3 rfl;replace s:=s.bring 3 rfl;replace s:=s.bring 9 rfl;replace s:=s.bring 6 rfl;exact ⟨_,rfl,C2 x0 (λh1=>aH0 l1 (M2 hrt hmg hmn h1)) (s.pick _ (aG7 _ (aG7 _ (aG7 _ (aG7 _ (aG7 _ (aG7 _ (aG8 _ (aG8 _ (aG8 _ (aG8 _ (List.Sublist.refl _))))))))))))⟩)))
  ·refine rs ac 2 h rfl λf h=>ai h (bj ((s.getG 5 rfl)) (0) aS2 dX (h.ev rfl) (h.ev rfl) (rfl) (by rw [haf];exact Nat.zero_lt_one)) rfl λf h=>ai h (bq jh (h.ev rfl) (((s.getG 5 rfl)).some (by omega))) rfl λf h=>ag (V:=.int .i64 (fH (aN X.L) mg).1) (er ((s.getG 5 rfl)) (0*33+0) (by rw [haf];rfl)) h bJ rfl rfl λf h=>dF h s Gj (aR (.pointer (some (bO vd ((rL (λx:V2=>x.1.no) (X.S.filter λx => !decide (x.1.no=a.no)) (fH (aN X.L) mg).1)*3)))) (jX (jn (vl2 7).1) vd vh vl vn X.M.last X.M.now bc (X.S.filter λx => !decide (x.1.no=a.no)) (fH (aN X.L) mg).1 _ (gq.of_own s 0 rfl) (bs.of_own (s.getSl 1 rfl)) (λx hx=>bI ((s.getG 9 rfl).sw x (aK4.1 hx).1)) hDl) (sg (aG9 l1))) rfl rfl λf w1 h s=>e9 ac 1 h rfl λf h=>qr ?_
   have hid:=aG9 l1
   obtain ⟨dh,hdh⟩:∃ d:V2,d=((X.S.filter λx => !decide (x.1.no=a.no)).getD (rL (λx:V2=>x.1.no) (X.S.filter λx => !decide (x.1.no=a.no)) (fH (aN X.L) mg).1) cd):=⟨_,rfl⟩
   have hdn:dh.1.no=(fH (aN X.L) mg).1:=by rw [hdh];exact yy (num:=λx:V2=>x.1.no) cd hid
   have hdm:dh∈X.S:=by rw [hdh];exact(aK4.1 (cK hid)).1
   refine am ac 1 h rfl λf h=>ai h (bz (.bool true) (gN Tryz.underlying161 (h.ev rfl) (h.ev rfl)) (rfl)) rfl λf h=>iY h rfl ?_
   replace s:=s.bring 1 rfl
   refine Em (γ:=List Nat × Value) 1 [[],[],[1],[1,2],[],[4],[1,2,3,4,5],[1,2,3,4,5,6],[1,2,3,4,5,6,7],[1,2,3,4,5,6,7],[1,2,3,4,5,6,7],[0,1,2,3,4,5,6,7,8],[0,1,2,3,4,5,6,7,8,11]] [[],[],[],[13],[],[],[],[],[],[],[],[],[3]] [[_]] [.v _,.v _,.v _,.w (λv=>[.sl vd 54 3 (X.S.filter λx => !decide (x.1.no=a.no)).length (a8 (X.S.filter λx => !decide (x.1.no=a.no)))]) (.agg (bC dh.1.no dh.1.sec dh.2)),.v _,.v ((X.S.getD (fp X a.no) cd).2),.r (λv=>[.grp (v 6).2.1 (λw9=>eP w9 dh.2 dh.1.tb->eP w9 (X.S.getD (fp X a.no) cd).2 (X.S.getD (fp X a.no) cd).1.tb->eP w9 (g7 (v 6).2.2) (gP dh.1 (X.S.getD (fp X a.no) cd).1.tb).tb)]) (λv=>(v 6).1=.tuple #[.agg (bC (gP dh.1 (X.S.getD (fp X a.no) cd).1.tb).no (gP dh.1 (X.S.getD (fp X a.no) cd).1.tb).sec (g7 (v 6).2.2)),.int .i64 (IV dh.1 (X.S.getD (fp X a.no) cd).1.tb:Int),.int .i64 (IU dh.1 (X.S.getD (fp X a.no) cd).1.tb)]),.f (λv=>(v 7).1=.tuple #[.agg (bC (gP dh.1 (X.S.getD (fp X a.no) cd).1.tb).no (gP dh.1 (X.S.getD (fp X a.no) cd).1.tb).sec (g7 (v 6).2.2)),.int .i64 (IV dh.1 (X.S.getD (fp X a.no) cd).1.tb:Int),.int .i64 (IU dh.1 (X.S.getD (fp X a.no) cd).1.tb)]),.f (λv=>(v 8).1=.agg (bC (gP dh.1 (X.S.getD (fp X a.no) cd).1.tb).no (gP dh.1 (X.S.getD (fp X a.no) cd).1.tb).sec (g7 (v 6).2.2))),.v (.int .i64 (IV dh.1 (X.S.getD (fp X a.no) cd).1.tb:Int)),.v (.int .i64 (IU dh.1 (X.S.getD (fp X a.no) cd).1.tb)),.v _,.m (λv=>[.sl vd 54 3 (X.S.filter λx => !decide (x.1.no=a.no)).length (a8 ((X.S.filter λx => !decide (x.1.no=a.no)).set (rL (λx:V2=>x.1.no) (X.S.filter λx => !decide (x.1.no=a.no)) (fH (aN X.L) mg).1) (((gP dh.1 (X.S.getD (fp X a.no) cd).1.tb),(g7 (v 6).2.2)):V2)))])] _ h s rfl (by kernel_rfl) (by kernel_rfl) (by kernel_rfl) (jo ac h rfl rfl rfl (jo ac h rfl rfl rfl (jo ac h rfl rfl rfl (cm ?_ (jo ac h rfl rfl rfl (cm ?_ (cm ?_ (cm ?_ (cm ?_ (cm ?_ (cm ?_ (jo ac h rfl rfl rfl (cm ?_ (trivial)))))))))))))) [0,1,2,4,5,6,7,8,9,10,11,12] (by kernel_rfl) ?_
   ·intro f9 w2 vl9 E9 hs9 hd9 hl hF s
    have h:=cq [(59,_)] h hs9 hd9 ⟨a7 hl 59 2 (by kernel_rfl) (hF 2 (by decide)),trivial⟩
    refine ap ((bs.of_own (s.getSl 0 rfl)).el ((rL (λx:V2=>x.1.no) (X.S.filter λx => !decide (x.1.no=a.no)) (fH (aN X.L) mg).1)) (by omega) (by decide) (D:=bC dh.1.no dh.1.sec dh.2) ((nJ _ _ hid).trans (by rw [hdh]))) h cC rfl (aG _ _ _) rfl λf h=>az ⟨(_,default),br 60 h rfl rfl,rfl,s⟩
   ·intro f9 w2 vl9 E9 hs9 hd9 hl hF s
    have h:=cq [(61,_)] h hs9 hd9 ⟨a7 hl 61 4 (by kernel_rfl) (hF 4 (by decide)),trivial⟩
    refine ag (V:=(X.S.getD (fp X a.no) cd).2) (ae (aJ.of_own s 1 rfl) 2 (yg _ _ _)) h jb rfl rfl λf h=>az ⟨(_,default),br 62 h rfl rfl,rfl,s⟩
   ·intro f9 w2 vl9 E9 hs9 hd9 hl hF s
    have h:=cq [(60,_),(62,_)] h hs9 hd9 ⟨a7 hl 60 3 (by kernel_rfl) (hF 3 (by decide)),a7 hl 62 5 (by kernel_rfl) (hF 5 (by decide)),trivial⟩
    have hvd:=(s.getG 8 rfl).sw _ hdm
    have hvg:=(s.getG 8 rfl).sw _ (cK hix)
    refine aY h s Ms (wm dh.1 dh.2 (X.S.getD (fp X a.no) cd).1.tb (X.S.getD (fp X a.no) cd).2 _ hvd (hbd.s9 _ hdm) hvg (hbd.s9 _ (cK hix))) rfl rfl ?_;rintro f w1 v63 ⟨p9,ks,hv63,hG⟩ hE h sq;replace s:=s.add hG;clear hG
    have p1:=ot ((s.getG 0 rfl) (hvd.keep hE) (hvg.keep hE))
    replace s:=s.weak (S':=λw9=>eP w9 dh.2 dh.1.tb->eP w9 (X.S.getD (fp X a.no) cd).2 (X.S.getD (fp X a.no) cd).1.tb->eP w9 (g7 p9) (gP dh.1 (X.S.getD (fp X a.no) cd).1.tb).tb) (λw9 b=>by rw [p1];exact b)
    rw [← p1] at hv63
    exact az ⟨(_,(ks,p9)),br 63 h rfl rfl,hv63,s⟩
   ·intro f9 w2 vl9 E9 hs9 hd9 hl hF s
    have h:=cq [(63,_)] h hs9 hd9 ⟨a7 hl 63 6 (by kernel_rfl) (hF 6 (by decide)),trivial⟩
    refine am ac 1 h rfl λf h=>az ⟨(_,default),br 56 h rfl rfl,rfl,s⟩
   ·intro f9 w2 vl9 E9 hs9 hd9 hl hF s
    have h:=cq [(56,_)] h hs9 hd9 ⟨a7 hl 56 7 (by kernel_rfl) (hF 7 (by decide)),trivial⟩
    refine am ac 1 h rfl λf h=>az ⟨(_,default),br 64 h rfl rfl,rfl,s⟩
   ·intro f9 w2 vl9 E9 hs9 hd9 hl hF s
    have h:=cq [(56,_)] h hs9 hd9 ⟨a7 hl 56 7 (by kernel_rfl) (hF 7 (by decide)),trivial⟩
    refine am ac 1 h rfl λf h=>az ⟨(_,default),br 65 h rfl rfl,rfl,s⟩
   ·intro f9 w2 vl9 E9 hs9 hd9 hl hF s
    have h:=cq [(56,_)] h hs9 hd9 ⟨a7 hl 56 7 (by kernel_rfl) (hF 7 (by decide)),trivial⟩
    refine am ac 1 h rfl λf h=>az ⟨(_,default),br 66 h rfl rfl,rfl,s⟩
   ·intro f9 w2 vl9 E9 hs9 hd9 hl hF s
    have h:=cq [(67,_),(64,_)] h hs9 hd9 ⟨a7 hl 67 11 (by kernel_rfl) (hF 11 (by decide)),a7 hl 64 8 (by kernel_rfl) (hF 8 (by decide)),trivial⟩
    refine fI 0 ((rL (λx:V2=>x.1.no) (X.S.filter λx => !decide (x.1.no=a.no)) (fH (aN X.L) mg).1)) h s cC rfl rfl rfl (aG _ _ _) (by omega) (cA _ _ (jW _)) (CI (K:=(X.S.filter λx => !decide (x.1.no=a.no))) hid ((gP dh.1 (X.S.getD (fp X a.no) cd).1.tb),_)) λw1 s=>az ⟨(undef,default),gV rfl,trivial,s⟩
   intro f w1 vl9 hs9 hd9 hv hr hF s
   replace h:=wu (ops:=_) [(57,_),(58,_),(59,_),(60,_),(61,_),(62,_),(63,.tuple #[.agg (bC (gP dh.1 (X.S.getD (fp X a.no) cd).1.tb).no (gP dh.1 (X.S.getD (fp X a.no) cd).1.tb).sec (g7 (vl9 6).2.2)),.int .i64 (IV dh.1 (X.S.getD (fp X a.no) cd).1.tb:Int),.int .i64 (IU dh.1 (X.S.getD (fp X a.no) cd).1.tb)]),(56,.tuple #[.agg (bC (gP dh.1 (X.S.getD (fp X a.no) cd).1.tb).no (gP dh.1 (X.S.getD (fp X a.no) cd).1.tb).sec (g7 (vl9 6).2.2)),.int .i64 (IV dh.1 (X.S.getD (fp X a.no) cd).1.tb:Int),.int .i64 (IU dh.1 (X.S.getD (fp X a.no) cd).1.tb)]),(64,.agg (bC (gP dh.1 (X.S.getD (fp X a.no) cd).1.tb).no (gP dh.1 (X.S.getD (fp X a.no) cd).1.tb).sec (g7 (vl9 6).2.2))),(65,_),(66,_),(67,_)] h hs9 hd9 hr ⟨(hv 0 57 rfl).trans (hF 0 rfl),(hv 1 58 rfl).trans (hF 1 rfl),(hv 2 59 rfl).trans (hF 2 rfl),(hv 3 60 rfl).trans (hF 3 rfl),(hv 4 61 rfl).trans (hF 4 rfl),(hv 5 62 rfl).trans (hF 5 rfl),(hv 6 63 rfl).trans (hF 6 rfl),(hv 7 56 rfl).trans (hF 7 rfl),(hv 8 64 rfl).trans (hF 8 rfl),(hv 9 65 rfl).trans (hF 9 rfl),(hv 10 66 rfl).trans (hF 10 rfl),(hv 11 67 rfl).trans (hF 11 rfl),trivial⟩ (by kernel_rfl)
   replace s:St w0 (.grp (vl9 6).2.1 (λw9=>eP w9 dh.2 dh.1.tb->eP w9 (X.S.getD (fp X a.no) cd).2 (X.S.getD (fp X a.no) cd).1.tb->eP w9 (g7 (vl9 6).2.2) (gP dh.1 (X.S.getD (fp X a.no) cd).1.tb).tb)::.sl vd 54 3 (X.S.filter λx => !decide (x.1.no=a.no)).length (a8 ((X.S.filter λx => !decide (x.1.no=a.no)).set (rL (λx:V2=>x.1.no) (X.S.filter λx => !decide (x.1.no=a.no)) (fH (aN X.L) mg).1) (((gP dh.1 (X.S.getD (fp X a.no) cd).1.tb),(g7 (vl9 6).2.2)):V2)))::.blk bc (.cells (gJ (jn (vl2 7).1) vd vh vl X.M.last X.M.now vn) 84)::.blk b9 (.cells (bC (X.S.getD (fp X a.no) cd).1.no (X.S.getD (fp X a.no) cd).1.sec (X.S.getD (fp X a.no) cd).2) 54)::(.grp (vl2 7).2.1 (λw9=>nds (vl2 7).2.2=(NO X.L a.no)/\(wZ vo X.L w9->kr w9 (jn (vl2 7).1) (vl2 7).2.2)))::.blk b7 (.cells (#[(jn (vl2 7).1)]) 24)::(.grp (vl1 8).2.1 (λw9=>bs w9 (Am (vl1 8).1) 33 (iQ (aN X.L) a.no 1).length (aq (iQ (aN X.L) a.no 1))))::.blk b3 (.cells (bQ a va) 45)::.sl vh 68 5 X.H.length (bB X.H)::.sl vn 91 74 ([]:List Nt).length (bM ([]:List Nt))::(.grp kk (λw9=>RdC w9 vo vl X))::B9) _:=s
   refine aD (bE ac 1 h rfl λf h=>aL3 (dK rfl h rfl (by replace s:=s.bring 9 rfl;replace s:=s.bring 9 rfl;replace s:=s.bring 3 rfl;replace s:=s.bring 4 rfl;replace s:=s.bring 4 rfl;replace s:=s.bring 10 rfl;replace s:=s.bring 7 rfl;exact ⟨_,rfl,D6 hrt x0 hmg hmn hid hdh hdn hix (s.pick _ (aG7 _ (aG7 _ (aG7 _ (aG7 _ (aG7 _ (aG7 _ (aG7 _ (aG8 _ (aG8 _ (aG8 _ (aG8 _ (List.Sublist.refl _)))))))))))))⟩)))
theorem BX (X:Wx) (vo vs vh vl:Value) (a:Ac) (va:Value) (w:World) (hX:RdW w vo vs vh vl X) (hb:BdW (aC X)) (hr:bZ (aC X)=true) (hA:iJ w va a.l) (hal:a.l.length<=1000) (hk:a.k=2):Calls Tryz.prog 9 [.agg (fA vo vs vh vl X.M.last X.M.now),.agg (bQ a va)].toArray w (cb w (S7 w vo vs vh vl X va a.l (dW (aC X) a))):=by
 refine kZ X vo vs vh vl a va 48 w hX hb hr hA (by omega) (by omega) ⟨_,by rw [hk];rfl⟩ ai8 ?_
 intro po ps ph pl pn Y kk c B9 w0 w1 hY hU s
 have hb9:BdW (aC Y):=by rw [hY];exact hb
 have hr9:bZ (aC Y)=true:=by rw [hY];exact hr
 have h:=CF po ps ph pl pn Y kk c B9 a va w0 w1 s hb9 hr9 hU
 rw [hY] at h
 rw [hk]
 exact h
theorem A1 (X:Wx) (vo vs vh vl:Value) (a:Ac) (va:Value) (w:World) (hX:RdW w vo vs vh vl X) (hb:BdW (aC X)) (hr:bZ (aC X)=true) (hA:iJ w va a.l) (hal:a.l.length<=1000) (hk:a.k=1∨a.k=2):Calls Tryz.prog 9 [.agg (fA vo vs vh vl X.M.last X.M.now),.agg (bQ a va)].toArray w (cb w (S7 w vo vs vh vl X va a.l (dW (aC X) a))):=by
 rcases hk with hk|hk
 ·exact rb X vo vs vh vl a va w hX hb hr hA hal hk
 ·exact BX X vo vs vh vl a va w hX hb hr hA hal hk
set_option maxHeartbeats 6000000 in
theorem BF (X:Wx) (vo vs vh vl:Value) (c9:Ac) (cv:Value) (w:World) (hX:RdW w vo vs vh vl X) (hbL:X.L.length<=maxLen) (hbS:X.S.length<=maxLen) (hbH:X.H.length<=maxLen) (hA0:iJ w cv c9.l):Calls Tryz.prog 4 [.agg (fA vo vs vh vl X.M.last X.M.now),.agg (bQ c9 cv)].toArray w (cb w (is (.bool true))):=by
 have hC:iJ w (eT cv (min c9.l.length 6)) (d7 c9).l:=zc hA0 _ (Nat.min_le_left _ _)
 have hcl:(d7 c9).l.length<=6:=by show (c9.l.take _).length<=6;rw [aL0];omega
 obtain ⟨hr1,hi9⟩:=ap6 (d7 c9).k
 have htm:=as5 (d7 c9).k (show (1:Int)<=2 by decide)
 have hsl:(aC X).sv.length=X.S.length:=aL1 _
 refine bK Tryz.func4 rfl Tryz.ntmps4 rfl λf h s=>qr (aV (fA vo vs vh vl X.M.last X.M.now) h s rfl rfl rfl λf w1 b2 h s=>aV (bQ c9 cv) h s rfl rfl rfl λf w1 b3 h s=>e9 ac 1 h rfl λf h=>ah (ah ?_))
 refine aw (ak 1 h s g4 rfl rfl (cx _ _ _ _ _ _) rfl λf h=>fh h s ae4 (MI X vo vs vh vl _ (hX.keep s.ext) hbL hbS hbH) rfl rfl (λb0 f w1 h s=>?_) (λb0 f w1 h s=>?_))
 ·skip
  refine am ac 1 h rfl λf h=>cy h rfl (ak 1 h s g4 rfl rfl (cx _ _ _ _ _ _) rfl λf h=>cy h rfl (fh h s S6 (rp X vo vs vh vl _ (hX.keep s.ext) (Lb b0)) rfl rfl (λr0 f w1 h s=>?_) (λr0 f w1 h s=>?_)))
  ·refine e9 ac 2 h rfl λf h=>dG h rfl (qr (jD true h s xb (iA _) (rfl) rfl rfl λf w1 h s=>e9 ac 1 h rfl λf h=>rt (av rfl h s rfl (rfl))))
  ·refine e9 ac 2 h rfl λf h=>nH h rfl (qr (ak 0 h s tJ rfl rfl (eo _ _) rfl λf h=>?_))
   have hbd:=Lb b0
   refine dF h s aj3 (Mc c9 cv _ (hA0.keep s.ext)) rfl rfl λf w1 h s=>al 0 h s tJ rfl rfl rfl (eo _ _) (eo _ _) (uy _ _ (bI hC)) λw1 s=>nt (bU ac 1 h rfl λf h=>ag (V:=.int .i64 (d7 c9).k) (ae (aJ.of_own s 0 rfl) 0 (ZL _ _)) h bJ rfl rfl λf h=>ai h (P9 (h.ev rfl) (h.ev rfl) (by omega)) rfl λf h=>ai h (bo (h.ev rfl) (h.ev rfl) (by omega)) rfl λf h=>ai h (bz (.int .i64 ((gT (d7 c9).k 2:Nat):Int)) (xX (h.ev rfl) (h.ev rfl) (by omega)) (aH3 (Value.int .i64) hr1)) rfl λf h=>ai h (bo (h.ev rfl) (h.ev rfl) (by omega)) rfl λf h=>am ac 1 h rfl λf h=>aM 0 h s bJ rfl rfl rfl (by rw [eo];omega) (rfl) λw1 s=>?_)
   replace s:=s.recell (D:=bQ ({(d7 c9) with k:=((1+((gT (d7 c9).k 2:Nat):Int)))}) (eT cv (min c9.l.length 6))) 0 rfl (RI _ _ _)
   refine nt (qr (ak 1 h s g4 rfl rfl (cx _ _ _ _ _ _) rfl λf h=>ak 0 h s tJ rfl rfl (eo _ _) rfl λf h=>aY h s Qo (A1 X vo vs vh vl ({d7 c9 with k:=(1+((gT (d7 c9).k 2:Nat):Int))}) (eT cv (min c9.l.length 6)) _ (hX.keep s.ext) hbd r0 (hC.keep s.ext) (by show (d7 c9).l.length<=1000;omega) (by show (1+((gT (d7 c9).k 2:Nat):Int))=1∨(1+((gT (d7 c9).k 2:Nat):Int))=2;omega)) rfl rfl ?_));rintro f w1 v43 ⟨oa,sa,ha,la,na,Ya,ka,rfl,qa,hG⟩ hE h sq;replace s:=s.add hG;clear hG
   refine am ac 4 h rfl λf h=>aK (fA ax ax ax ax 0 0) h s yb rfl rfl λf w1 b5 h s=>al 0 h s g4 rfl rfl rfl (cx _ _ _ _ _ _) (cx _ _ _ _ _ _) (js _ _ (bI (((s.getG 1 rfl) (hX.keep s.ext) (hC.keep s.ext)).1.ov.1)) (bI (((s.getG 1 rfl) (hX.keep s.ext) (hC.keep s.ext)).1.sv)) (bI (((s.getG 1 rfl) (hX.keep s.ext) (hC.keep s.ext)).1.ho)) (bI (((s.getG 1 rfl) (hX.keep s.ext) (hC.keep s.ext)).1.ml))) λw1 s=>e9 ac 2 h rfl λf h=>ah (ah ?_)
   cases e0:(decide ((dW (aC X) ({d7 c9 with k:=(1+((gT (d7 c9).k 2:Nat):Int))})).e=0):Bool)
   ·refine rs ac 1 h rfl λf h=>jK ac h rfl (by simpa using e0) λf h=>e9 ac 6 h rfl λf h=>dG h rfl (qr (aY h s xb (aR (.bool true) (iA _) (aH3 Value.bool (rfl))) rfl rfl ?_));intro f w1 v9 hT hE h s;obtain rfl:=hT
    refine e9 ac 1 h rfl λf h=>rt (av rfl h s rfl (rfl))
   ·skip
    refine rs ac 1 h rfl λf h=>lj ac h rfl (by simpa using e0) λf h=>am ac 2 h rfl λf h=>cy h rfl (ag (V:=sa) (ae (aJ.of_own s 0 rfl) 1 (vA _ _ _ _ _ _)) h ij rfl rfl λf h=>cy h rfl (ck h (((s.getG 1 rfl) (hX.keep s.ext) (hC.keep s.ext)).1.sv) aR6 rfl rfl λf h=>cy h rfl (j8 ac (decide (Ya.S.length=0)) h rfl ((aI3.2 (by omega))) (λs0 f h=>?_) (λs0 f h=>?_))))
    ·refine e9 ac 1 h rfl λf h=>nH h rfl (bE ac 2 h rfl λf h=>bE ac 1 h rfl λf h=>ah (qr ?_))
     have hmv:=Xc (c:=({d7 c9 with k:=(1+((gT (d7 c9).k 2:Nat):Int))})) r0 b0 (by show (1+((gT (d7 c9).k 2:Nat):Int))=1∨(1+((gT (d7 c9).k 2:Nat):Int))=2;omega) (aG9 e0)
     rw [← qa] at hmv
     have hux:(gu (aC X)).length<=700:=ai0 r0 b0
     have hyl9:=hmv.1.2
     have huy:(gu (aC Ya)).length<=640:=Nx (c:=32) (n:=20) hmv.1.1 hmv.1.2
     have hyl:(aC Ya).sv.length=Ya.S.length:=aL1 _
     have hbS9:=hbd.sx
     have s0n:=aH0 s0
     replace s:=s.nilSl 49 67
     refine am ac 1 h rfl λf h=>ag (V:=vs) (ae (aJ.of_own s 4 rfl) 1 (vA _ _ _ _ _ _)) h ij rfl rfl λf h=>ck h (hX.sv.keep s.ext) aR6 rfl rfl λf h=>e9 ac 1 h rfl λf h=>aL4 (aL6 (λnn aa ww=>∃ k:Nat,∃ va:Value,Sl 120 aa [(0,.agg (fA vo vs vh vl X.M.last X.M.now)),(1,.agg (bQ c9 cv)),(2,.pointer (some ⟨b2,0,none⟩)),(3,.pointer (some ⟨b3,0,none⟩)),(5,.pointer (some ⟨b5,0,none⟩)),(8,va),(9,ax),(10,.bool (decide ((zo (aC X).sv k).length<=32))),(57,vs),(58,.int .i64 (X.S.length:Int)),(59,.int .i64 (k:Int))]/\St w [.sl va 49 67 (zo (aC X).sv k).length (aX (zo (aC X).sv k)),.blk b5 (.cells (fA oa sa ha la Ya.M.last Ya.M.now) 31),(.grp ka (λw9=>RdW w9 vo vs vh vl X->iJ w9 (eT cv (min c9.l.length 6)) (({d7 c9 with k:=(1+((gT (d7 c9).k 2:Nat):Int))})).l->RdW w9 oa sa ha la Ya/\bs w9 na 74 (dW (aC X) ({d7 c9 with k:=(1+((gT (d7 c9).k 2:Nat):Int))})).n.length (bM (dW (aC X) ({d7 c9 with k:=(1+((gT (d7 c9).k 2:Nat):Int))})).n))),.blk b3 (.cells (bQ ({(d7 c9) with k:=((1+((gT (d7 c9).k 2:Nat):Int)))}) (eT cv (min c9.l.length 6))) 45),.blk b2 (.cells (fA vo vs vh vl X.M.last X.M.now) 31)] ww/\nn=X.S.length - k/\k<=X.S.length) (X.S.length - (0)) ⟨0,ax,h.only ⟨rfl,rfl,rfl,rfl,rfl,rfl,rfl,iN rfl rfl,rfl,rfl,ao rfl (by omega),trivial⟩,s.as ⟨rfl,rfl,rfl,rfl,rfl,trivial⟩,rfl,aJ3 _⟩ ?_)
     rintro _ f w1 ⟨k,va,h,s,hnn,hp0⟩
     refine bE ac 1 h rfl λf h=>ah (cB h rfl (λhc=>?_) (λhc=>?_))
     ·refine kt (ah (aL4 (qr ?_)))
      have hkl:k<X.S.length:=by omega
      have hsk:((aC X).sv.getD k qA)=(X.S.getD k cd).1:=Ey X.S k
      have htb:=hbd.se hkl
      refine ai h (bj (hX.sv.keep s.ext) (k) aR6 kB (h.ev rfl) (h.ev rfl) (by omega) (by omega)) rfl λf h=>ap ((hX.sv.keep s.ext).el (k) (by omega) (by decide) (D:=bC (X.S.getD k cd).1.no (X.S.getD k cd).1.sec (X.S.getD k cd).2) (nJ _ k hkl)) h cC rfl (aG _ _ _) rfl λf h=>aK (bC 0 ByteArray.empty ax) h s i4 rfl rfl λf w1 b12 h s=>al 0 h s cC rfl rfl rfl (aG _ _ _) (aG _ _ _) (cA _ _ (bI ((hX.sw _ (cK hkl)).keep s.ext))) λw1 s=>nt (bU ac 1 h rfl λf h=>ag (V:=(X.S.getD k cd).2) (ae (aJ.of_own s 0 rfl) 2 (yg _ _ _)) h jb rfl rfl λf h=>ck h ((hX.sw _ (cK hkl)).keep s.ext) aR9 rfl rfl λf h=>e9 ac 1 h rfl λf h=>aL4 (aL6 (λnn aa ww=>∃ j:Nat,∃ vb:Value,Sl 120 aa [(0,.agg (fA vo vs vh vl X.M.last X.M.now)),(1,.agg (bQ c9 cv)),(2,.pointer (some ⟨b2,0,none⟩)),(3,.pointer (some ⟨b3,0,none⟩)),(5,.pointer (some ⟨b5,0,none⟩)),(12,.pointer (some ⟨b12,0,none⟩)),(8,vb),(9,ax),(10,.bool (decide ((rU (aC X).sv k j).length<=32))),(57,vs),(58,.int .i64 (X.S.length:Int)),(59,.int .i64 (k:Int)),(64,(X.S.getD k cd).2),(65,.int .i64 ((X.S.getD k cd).1.tb.length:Int)),(66,.int .i64 (j:Int))]/\St w [.blk b12 (.cells (bC (X.S.getD k cd).1.no (X.S.getD k cd).1.sec (X.S.getD k cd).2) 54),.sl vb 49 67 (rU (aC X).sv k j).length (aX (rU (aC X).sv k j)),.blk b5 (.cells (fA oa sa ha la Ya.M.last Ya.M.now) 31),(.grp ka (λw9=>RdW w9 vo vs vh vl X->iJ w9 (eT cv (min c9.l.length 6)) (({d7 c9 with k:=(1+((gT (d7 c9).k 2:Nat):Int))})).l->RdW w9 oa sa ha la Ya/\bs w9 na 74 (dW (aC X) ({d7 c9 with k:=(1+((gT (d7 c9).k 2:Nat):Int))})).n.length (bM (dW (aC X) ({d7 c9 with k:=(1+((gT (d7 c9).k 2:Nat):Int))})).n))),.blk b3 (.cells (bQ ({(d7 c9) with k:=((1+((gT (d7 c9).k 2:Nat):Int)))}) (eT cv (min c9.l.length 6))) 45),.blk b2 (.cells (fA vo vs vh vl X.M.last X.M.now) 31)] ww/\nn=(X.S.getD k cd).1.tb.length - j/\j<=(X.S.getD k cd).1.tb.length) ((X.S.getD k cd).1.tb.length - (0)) ⟨0,va,h.only ⟨rfl,rfl,rfl,rfl,rfl,rfl,rfl,rfl,iN rfl rfl,rfl,rfl,rfl,rfl,rfl,ao rfl (by omega),trivial⟩,s.as ⟨rfl,rfl,rfl,rfl,rfl,rfl,trivial⟩,rfl,aJ3 _⟩ ?_))
      rintro _ f w1 ⟨j,vb,h,s,hnn,hp0⟩
      refine bE ac 1 h rfl λf h=>ah (cB h rfl (λhc=>?_) (λhc=>?_))
      ·refine kt (ah (aL4 (qr ?_)))
       have hjl:j<(X.S.getD k cd).1.tb.length:=by omega
       have hjs:j<((aC X).sv.getD k qA).tb.length:=by rw [hsk];exact hjl
       have hfb:(rU (aC X).sv k j).length<=(gu (aC X)).length:=N6 (aC X).sv (by omega)
       refine ai h (bj ((hX.sw _ (cK hkl)).keep s.ext) (j) aR9 gf (h.ev rfl) (h.ev rfl) (by omega) (by omega)) rfl λf h=>ap (((hX.sw _ (cK hkl)).keep s.ext).el (j) (by omega) (by decide) (D:=aU ((X.S.getD k cd).1.tb.getD j cr)) (fP _ j hjl)) h cn rfl (aE _) rfl λf h=>aK (aU cr) h s j9 rfl rfl λf w1 b14 h s=>al 0 h s cn rfl rfl rfl (aE _) (aE _) (cP _) λw1 s=>nt (bU ac 1 h rfl λf h=>ak 0 h s cn rfl rfl (aE _) rfl λf h=>aY h s Tc (wE (rU (aC X).sv k j) vb ((X.S.getD k cd).1.tb.getD j cr) _ (bs.of_own (s.getSl 2 rfl)) (by omega)) rfl rfl ?_);rintro f w1 v73 ⟨vq,rfl,hOw⟩ hE h sq;replace s:=s.sl_new hE hOw;clear hOw
       refine e9 ac 5 h rfl λf h=>?_
       refine rs ac 1 h rfl λf h=>lL ac h rfl (λfl f h=>?_) (λfl f h=>?_)
       ·refine am ac 5 h rfl λf h=>az (aW (aD (aw (ai h (bo (h.ev rfl) (h.ev rfl) (by omega)) rfl λf h=>e9 ac 1 h rfl λf h=>?_))))
        exact ⟨_,by omega,⟨j+1,vq,h.only ⟨rfl,rfl,rfl,rfl,rfl,rfl,rfl,rfl,iN rfl (aH3 Value.bool (TL hjs fl).symm),rfl,rfl,rfl,rfl,rfl,ao rfl (by omega),trivial⟩,St.as (s.sel [2,0,4,5,6,7] rfl (by decide)) ⟨rfl,eC (by rw [mC hjs,hsk]) (by rw [mC hjs,hsk]),rfl,rfl,rfl,rfl,trivial⟩,rfl,by omega⟩⟩
       ·refine am ac 5 h rfl λf h=>az (aW (aD (aw (ai h (bo (h.ev rfl) (h.ev rfl) (by omega)) rfl λf h=>e9 ac 1 h rfl λf h=>?_))))
        exact ⟨_,by omega,⟨j+1,vq,h.only ⟨rfl,rfl,rfl,rfl,rfl,rfl,rfl,rfl,iN rfl (aH3 Value.bool (by rw [mC hjs,hsk])),rfl,rfl,rfl,rfl,rfl,ao rfl (by omega),trivial⟩,St.as (s.sel [2,0,4,5,6,7] rfl (by decide)) ⟨rfl,eC (by rw [mC hjs,hsk]) (by rw [mC hjs,hsk]),rfl,rfl,rfl,rfl,trivial⟩,rfl,by omega⟩⟩
      ·refine aL5 (aO (aO (bS (aW (aD (aw ?_))))))
       have efb:(rU (aC X).sv k j)=zo (aC X).sv (k+1):=by rw [show j=((aC X).sv.getD k qA).tb.length from by rw [hsk];omega];exact JZ (by omega)
       refine ai h (bo (h.ev rfl) (h.ev rfl) (by omega)) rfl λf h=>e9 ac 1 h rfl λf h=>?_
       exact ⟨_,by omega,⟨k+1,vb,h.only ⟨rfl,rfl,rfl,rfl,rfl,rfl,rfl,iN rfl (by rw [efb]),rfl,rfl,ao rfl (by omega),trivial⟩,St.as (s.pick _ (aI8 [_] _)) ⟨eC (by rw [efb]) (by rw [efb]),rfl,rfl,rfl,rfl,trivial⟩,rfl,by omega⟩⟩
     ·refine aL5 (aO (aO (bS (aD (ah (qr ?_))))))
      have eux:zo (aC X).sv k=(gu (aC X)):=by rw [show k=(aC X).sv.length from by omega];exact MM _
      rw [eux] at s
      replace s:=s.nilSl 49 67
      refine am ac 1 h rfl λf h=>ag (V:=sa) (ae (aJ.of_own s 2 rfl) 1 (vA _ _ _ _ _ _)) h ij rfl rfl λf h=>ck h (((s.getG 3 rfl) (hX.keep s.ext) (hC.keep s.ext)).1.sv) aR6 rfl rfl λf h=>e9 ac 1 h rfl λf h=>aL4 (aL6 (λnn aa ww=>∃ k:Nat,∃ vc:Value,Sl 120 aa [(0,.agg (fA vo vs vh vl X.M.last X.M.now)),(1,.agg (bQ c9 cv)),(2,.pointer (some ⟨b2,0,none⟩)),(3,.pointer (some ⟨b3,0,none⟩)),(5,.pointer (some ⟨b5,0,none⟩)),(8,va),(9,vc),(10,.bool (decide ((gu (aC X)).length<=32) && decide ((zo (aC Ya).sv k).length<=32))),(84,sa),(85,.int .i64 (Ya.S.length:Int)),(86,.int .i64 (k:Int))]/\St w [.sl vc 49 67 (zo (aC Ya).sv k).length (aX (zo (aC Ya).sv k)),.sl va 49 67 (gu (aC X)).length (aX (gu (aC X))),.blk b5 (.cells (fA oa sa ha la Ya.M.last Ya.M.now) 31),(.grp ka (λw9=>RdW w9 vo vs vh vl X->iJ w9 (eT cv (min c9.l.length 6)) (({d7 c9 with k:=(1+((gT (d7 c9).k 2:Nat):Int))})).l->RdW w9 oa sa ha la Ya/\bs w9 na 74 (dW (aC X) ({d7 c9 with k:=(1+((gT (d7 c9).k 2:Nat):Int))})).n.length (bM (dW (aC X) ({d7 c9 with k:=(1+((gT (d7 c9).k 2:Nat):Int))})).n))),.blk b3 (.cells (bQ ({(d7 c9) with k:=((1+((gT (d7 c9).k 2:Nat):Int)))}) (eT cv (min c9.l.length 6))) 45),.blk b2 (.cells (fA vo vs vh vl X.M.last X.M.now) 31)] ww/\nn=Ya.S.length - k/\k<=Ya.S.length) (Ya.S.length - (0)) ⟨0,ax,h.only ⟨rfl,rfl,rfl,rfl,rfl,rfl,rfl,iN rfl (by rw [eux];exact aH3 Value.bool (Bool.and_true _).symm),rfl,rfl,ao rfl (by omega),trivial⟩,s.as ⟨rfl,rfl,rfl,rfl,rfl,rfl,trivial⟩,rfl,aJ3 _⟩ ?_)
      rintro _ f w1 ⟨k,vc,h,s,hnn,hp0⟩
      refine bE ac 1 h rfl λf h=>ah (cB h rfl (λhc=>?_) (λhc=>?_))
      ·refine kt (ah (aL4 (qr ?_)))
       have hkl:k<Ya.S.length:=by omega
       have hsk:((aC Ya).sv.getD k qA)=(Ya.S.getD k cd).1:=Ey Ya.S k
       have htb:(Ya.S.getD k cd).1.tb.length<=32:=hmv.1.1 _ (aL9.2 ⟨_,cK hkl,rfl⟩)
       refine ai h (bj (((s.getG 3 rfl) (hX.keep s.ext) (hC.keep s.ext)).1.sv) (k) aR6 kB (h.ev rfl) (h.ev rfl) (by omega) (by omega)) rfl λf h=>ap ((((s.getG 3 rfl) (hX.keep s.ext) (hC.keep s.ext)).1.sv).el (k) (by omega) (by decide) (D:=bC (Ya.S.getD k cd).1.no (Ya.S.getD k cd).1.sec (Ya.S.getD k cd).2) (nJ _ k hkl)) h cC rfl (aG _ _ _) rfl λf h=>aK (bC 0 ByteArray.empty ax) h s i4 rfl rfl λf w1 b18 h s=>al 0 h s cC rfl rfl rfl (aG _ _ _) (aG _ _ _) (cA _ _ (bI ((((s.getG 4 rfl) (hX.keep s.ext) (hC.keep s.ext)).1.sw _ (cK hkl))))) λw1 s=>nt (bU ac 1 h rfl λf h=>ag (V:=(Ya.S.getD k cd).2) (ae (aJ.of_own s 0 rfl) 2 (yg _ _ _)) h jb rfl rfl λf h=>ck h ((((s.getG 4 rfl) (hX.keep s.ext) (hC.keep s.ext)).1.sw _ (cK hkl))) aR9 rfl rfl λf h=>e9 ac 1 h rfl λf h=>aL4 (aL6 (λnn aa ww=>∃ j:Nat,∃ vd:Value,Sl 120 aa [(0,.agg (fA vo vs vh vl X.M.last X.M.now)),(1,.agg (bQ c9 cv)),(2,.pointer (some ⟨b2,0,none⟩)),(3,.pointer (some ⟨b3,0,none⟩)),(5,.pointer (some ⟨b5,0,none⟩)),(18,.pointer (some ⟨b18,0,none⟩)),(8,va),(9,vd),(10,.bool (decide ((gu (aC X)).length<=32) && decide ((rU (aC Ya).sv k j).length<=32))),(84,sa),(85,.int .i64 (Ya.S.length:Int)),(86,.int .i64 (k:Int)),(91,(Ya.S.getD k cd).2),(92,.int .i64 ((Ya.S.getD k cd).1.tb.length:Int)),(93,.int .i64 (j:Int))]/\St w [.blk b18 (.cells (bC (Ya.S.getD k cd).1.no (Ya.S.getD k cd).1.sec (Ya.S.getD k cd).2) 54),.sl vd 49 67 (rU (aC Ya).sv k j).length (aX (rU (aC Ya).sv k j)),.sl va 49 67 (gu (aC X)).length (aX (gu (aC X))),.blk b5 (.cells (fA oa sa ha la Ya.M.last Ya.M.now) 31),(.grp ka (λw9=>RdW w9 vo vs vh vl X->iJ w9 (eT cv (min c9.l.length 6)) (({d7 c9 with k:=(1+((gT (d7 c9).k 2:Nat):Int))})).l->RdW w9 oa sa ha la Ya/\bs w9 na 74 (dW (aC X) ({d7 c9 with k:=(1+((gT (d7 c9).k 2:Nat):Int))})).n.length (bM (dW (aC X) ({d7 c9 with k:=(1+((gT (d7 c9).k 2:Nat):Int))})).n))),.blk b3 (.cells (bQ ({(d7 c9) with k:=((1+((gT (d7 c9).k 2:Nat):Int)))}) (eT cv (min c9.l.length 6))) 45),.blk b2 (.cells (fA vo vs vh vl X.M.last X.M.now) 31)] ww/\nn=(Ya.S.getD k cd).1.tb.length - j/\j<=(Ya.S.getD k cd).1.tb.length) ((Ya.S.getD k cd).1.tb.length - (0)) ⟨0,vc,h.only ⟨rfl,rfl,rfl,rfl,rfl,rfl,rfl,rfl,iN rfl rfl,rfl,rfl,rfl,rfl,rfl,ao rfl (by omega),trivial⟩,s.as ⟨rfl,rfl,rfl,rfl,rfl,rfl,rfl,trivial⟩,rfl,aJ3 _⟩ ?_))
       rintro _ f w1 ⟨j,vd,h,s,hnn,hp0⟩
       refine bE ac 1 h rfl λf h=>ah (cB h rfl (λhc=>?_) (λhc=>?_))
       ·refine kt (ah (aL4 (qr ?_)))
        have hjl:j<(Ya.S.getD k cd).1.tb.length:=by omega
        have hjs:j<((aC Ya).sv.getD k qA).tb.length:=by rw [hsk];exact hjl
        have hfb:(rU (aC Ya).sv k j).length<=(gu (aC Ya)).length:=N6 (aC Ya).sv (by omega)
        refine ai h (bj ((((s.getG 4 rfl) (hX.keep s.ext) (hC.keep s.ext)).1.sw _ (cK hkl))) (j) aR9 gf (h.ev rfl) (h.ev rfl) (by omega) (by omega)) rfl λf h=>ap (((((s.getG 4 rfl) (hX.keep s.ext) (hC.keep s.ext)).1.sw _ (cK hkl))).el (j) (by omega) (by decide) (D:=aU ((Ya.S.getD k cd).1.tb.getD j cr)) (fP _ j hjl)) h cn rfl (aE _) rfl λf h=>aK (aU cr) h s j9 rfl rfl λf w1 b20 h s=>al 0 h s cn rfl rfl rfl (aE _) (aE _) (cP _) λw1 s=>nt (bU ac 1 h rfl λf h=>ak 0 h s cn rfl rfl (aE _) rfl λf h=>aY h s Tc (wE (rU (aC Ya).sv k j) vd ((Ya.S.getD k cd).1.tb.getD j cr) _ (bs.of_own (s.getSl 2 rfl)) (by omega)) rfl rfl ?_);rintro f w1 v100 ⟨vp,rfl,hOw⟩ hE h sq;replace s:=s.sl_new hE hOw;clear hOw
        refine e9 ac 5 h rfl λf h=>?_
        refine rs ac 1 h rfl λf h=>j8 ac ((decide ((gu (aC X)).length<=32) && decide ((rU (aC Ya).sv k j).length<=32))) h rfl (rfl) (λfm f h=>?_) (λfm f h=>?_)
        ·refine am ac 5 h rfl λf h=>az (aW (aD (aw (ai h (bo (h.ev rfl) (h.ev rfl) (by omega)) rfl λf h=>e9 ac 1 h rfl λf h=>?_))))
         exact ⟨_,by omega,⟨j+1,vp,h.only ⟨rfl,rfl,rfl,rfl,rfl,rfl,rfl,rfl,iN rfl (aH3 Value.bool (ZA hjs fm).symm),rfl,rfl,rfl,rfl,rfl,ao rfl (by omega),trivial⟩,St.as (s.sel [2,0,4,5,6,7,8] rfl (by decide)) ⟨rfl,eC (by rw [mC hjs,hsk]) (by rw [mC hjs,hsk]),rfl,rfl,rfl,rfl,rfl,trivial⟩,rfl,by omega⟩⟩
        ·refine am ac 5 h rfl λf h=>az (aW (aD (aw (ai h (bo (h.ev rfl) (h.ev rfl) (by omega)) rfl λf h=>e9 ac 1 h rfl λf h=>?_))))
         exact ⟨_,by omega,⟨j+1,vp,h.only ⟨rfl,rfl,rfl,rfl,rfl,rfl,rfl,rfl,iN rfl (aH3 Value.bool (by rw [ZK fm,mC hjs,hsk])),rfl,rfl,rfl,rfl,rfl,ao rfl (by omega),trivial⟩,St.as (s.sel [2,0,4,5,6,7,8] rfl (by decide)) ⟨rfl,eC (by rw [mC hjs,hsk]) (by rw [mC hjs,hsk]),rfl,rfl,rfl,rfl,rfl,trivial⟩,rfl,by omega⟩⟩
       ·refine aL5 (aO (aO (bS (aW (aD (aw ?_))))))
        have efb:(rU (aC Ya).sv k j)=zo (aC Ya).sv (k+1):=by rw [show j=((aC Ya).sv.getD k qA).tb.length from by rw [hsk];omega];exact JZ (by omega)
        refine ai h (bo (h.ev rfl) (h.ev rfl) (by omega)) rfl λf h=>e9 ac 1 h rfl λf h=>?_
        exact ⟨_,by omega,⟨k+1,vd,h.only ⟨rfl,rfl,rfl,rfl,rfl,rfl,rfl,iN rfl (by rw [efb]),rfl,rfl,ao rfl (by omega),trivial⟩,St.as (s.pick _ (aI8 [_] _)) ⟨eC (by rw [efb]) (by rw [efb]),rfl,rfl,rfl,rfl,rfl,trivial⟩,rfl,by omega⟩⟩
      ·refine aL5 (aO (aO (bS (aD (ah ?_)))))
       cases ro:((decide ((gu (aC X)).length<=32) && decide ((gu (aC Ya)).length<=32)):Bool)
       ·refine aw ?_
        have euy:zo (aC Ya).sv k=(gu (aC Ya)):=by rw [show k=(aC Ya).sv.length from by omega];exact MM _
        rw [euy] at s
        refine jD true h s xb (iA _) (rfl) rfl rfl λf w1 h s=>am ac 1 h rfl λf h=>cy h rfl (gW ac (.bool false) h rfl (by rw [euy];exact aH3 Value.bool ro) rfl λf h=>e9 ac 8 h rfl λf h=>aL3 (av rfl h s rfl (rfl)))
       ·refine aw ?_
        have euy:zo (aC Ya).sv k=(gu (aC Ya)):=by rw [show k=(aC Ya).sv.length from by omega];exact MM _
        rw [euy] at s
        refine jD true h s xb (iA _) (rfl) rfl rfl λf w1 h s=>am ac 1 h rfl λf h=>cy h rfl (gW ac (.bool true) h rfl (by rw [euy];exact aH3 Value.bool ro) rfl λf h=>am ac 4 h rfl λf h=>cy h rfl (jD true h s ab5 (Dz (gu (aC X)) (gu (aC Ya)) va vc _ (bs.of_own (s.getSl 1 rfl)) (bs.of_own (s.getSl 0 rfl)) (by omega) (by omega)) (aH2 (hmv.2 (by omega) (aG9 ((aH5 _ _).mp ro).1)).symm) rfl rfl λf w1 h s=>e9 ac 3 h rfl λf h=>aL3 (av rfl h s rfl (rfl))))
    ·refine e9 ac 1 h rfl λf h=>dG h rfl (qr (jD true h s xb (iA _) (rfl) rfl rfl λf w1 h s=>e9 ac 1 h rfl λf h=>rt (av rfl h s rfl (rfl))))
 ·refine e9 ac 5 h rfl λf h=>dG h rfl (qr (jD true h s xb (iA _) (rfl) rfl rfl λf w1 h s=>e9 ac 1 h rfl λf h=>rt (av rfl h s rfl (rfl))))
end Go.Proofs.YthmlflaiidhoiaaGreatDoor
