/- Package ring: what its functions answer. -/
import Derived.Test.YthmlflaiidhoiaaGreatDoorZp
set_option linter.unusedVariables false
namespace Go.Proofs.YthmlflaiidhoiaaGreatDoor
open Go.RowKit
theorem Di (l:List Mb) (vh:Value) (no:Int) (w:World) (hR:bs w vh 33 l.length (aq l)) (hln:l.length<=1000):Calls Tryz.prog 83 [vh,.int .i64 no].toArray w (cb w (is (.tuple #[.agg (ar (rX l no)),.int .i64 (i9 l no)]))):=by
 refine bK Tryz.func83 rfl Tryz.ntmps83 rfl λf h s=>qr (aK (ar bH) h s em rfl rfl λf w1 b4 h s=>e9 ac 1 h rfl λf h=>bU ac 2 h rfl λf h=>dF h s NK (Ay l vh no _ (hR.keep s.ext) hln) rfl rfl λf w1 h s=>am ac 3 h rfl λf h=>aK (ar bH) h s em rfl rfl λf w1 b6 h s=>al 0 h s aQ rfl rfl rfl (aj _) (aj _) (bD _) λw1 s=>e9 ac 1 h rfl λf h=>ah (bE ac 2 h rfl λf h=>bV h rfl (λhc=>?_) (λhc=>?_)))
 ·have h0:¬ i9 l no=0:=by simpa using hc
  refine qr (ai h (ib tT) rfl λf h=>am ac 1 h rfl λf h=>al 1 h s aQ rfl rfl rfl (aj _) (aj _) (bD _) λw1 s=>e9 ac 1 h rfl λf h=>rt (cc 1 rfl h s aQ rfl rfl (aj _) rfl (by show _=_;rw [VI h0]<;>rfl)))
 ·have h0:i9 l no=0:=by simpa using hc
  obtain ⟨hr,hg,hf,hm,hno⟩:=MA h0
  refine kt (bU ac 2 h rfl λf h=>ap (aJ.subL (aJ.of_own s 0 rfl) 1 32 (D:=aH (_)) (fv _)) h bW rfl (by first|exact aA _|exact au _ _) rfl λf h=>aY h s Kp (qC (gl l no).2 _) rfl rfl ?_);rintro f w1 v21 ⟨bx,rfl,hbx⟩ hE h s
  refine dF h s UF (NG l vh (gl l no).2 bx _ (hR.keep s.ext) hln hbx (pp hm)) rfl rfl λf w1 h s=>al 1 h s aQ rfl rfl rfl (aj _) (aj _) (bD _) λw1 s=>e9 ac 1 h rfl λf h=>aL3 (cc 1 rfl h s aQ rfl rfl (aj _) rfl (by show _=_;rw [NU h0,h0]<;>rfl))
theorem IG (x9:Id) (l:List Mb) (vh:Value) (w:World) (hR:bs w vh 33 l.length (aq l)) (hln:l.length<=1000) (hg:Rg l):Calls Tryz.prog 138 [iy x9,vh].toArray w (cb w (λv w'=>cF w' w.heap.size 60 33 v l.length (aq (gI x9 l)))):=by
 refine bK Tryz.func138 rfl Tryz.ntmps138 rfl λf h s=>qr (aV (aH x9) h s rfl rfl rfl λf w1 b2 h s=>e9 ac 1 h rfl λf h=>ah (fC 0 3 [[],[0],[],[0,1,2],[0,1,2,3],[0,1,2,3,4]] [[],[],[],[],[],[]] [] [.v _,.r (λv=>[.blk (OU (v 1)) (.cells #[vh] 61)]) (λv=>v 1=.func (.func 243) #[] #[.pointer (some ⟨OU (v 1),0,none⟩)]),.v (.agg (aH x9)),.n,.n,.n] _ h s rfl (by kernel_rfl) (by kernel_rfl) (by kernel_rfl) (gL ac h rfl rfl rfl (cm ?_ (cm ?_ (trivial)))) [0,1,2] (by kernel_rfl) ?_))
 ·intro f9 w2 vl1 E9 hs9 hd9 hl hF s
  have h:=cq [(5,_)] h hs9 hd9 ⟨a7 hl 5 0 (by kernel_rfl) (hF 0 (by decide)),trivial⟩
  refine cM [vh] h L8 (qV l vh _ _ _ s (hR.keep s.ext)) rfl rfl ?_;rintro f w1 r ⟨bx,rfl,s⟩ h
  exact az ⟨_,br 6 h rfl rfl,rfl,s⟩
 ·intro f9 w2 vl1 E9 hs9 hd9 hl hF s
  have h:=cq [(2,_)] h hs9 hd9 ⟨fu hl 2 (by kernel_rfl) (h.holds 2 _ rfl),trivial⟩
  refine ak 0 h s bW rfl rfl (by first|exact aA _|exact au _ _) rfl λf h=>az ⟨_,br 7 h rfl rfl,rfl,s⟩
 intro f w1 vl1 hs9 hd9 hv hr hF s
 replace hv:=λi d h9=>hv i d (show Nat.blt i 3=true from h9)
 replace h:=ew 3 (ops:=_) [(5,_),(6,.func (.func 243) #[] #[.pointer (some ⟨OU (vl1 1),0,none⟩)]),(7,_)] h hs9 hd9 hr ⟨(hv 0 5 rfl rfl).trans (hF 0 rfl),(hv 1 6 rfl rfl).trans (hF 1 rfl),(hv 2 7 rfl rfl).trans (hF 2 rfl),trivial⟩ (by kernel_rfl)
 replace s:St w [.blk (OU (vl1 1)) (.cells #[vh] 61),.blk b2 (.cells (aH x9) 42)] _:=s
 refine aY h s Kp (qC x9 _) rfl rfl ?_;rintro f w1 v8 ⟨bx,rfl,hbx⟩ hE h s
 refine aY h s XM (Bo l vh (OU (vl1 1)) bx x9 _ (hR.keep s.ext) hln hg (gq.of_own s 0 rfl) hbx) rfl rfl ?_;intro f w1 vr hT hE h sq;replace s:=s.sl_new hE hT
 refine e9 ac 1 h rfl λf h=>aL3 (av rfl h s rfl ((s.getSl 0 rfl)))
theorem H5 (l:List Mb) (vh:Value) (no many:Int) (w:World) (hR:bs w vh 33 l.length (aq l)) (hln:l.length<=1000):Calls Tryz.prog 84 [vh,.int .i64 no,.int .i64 many].toArray w (cb w (λv w'=>∃ v8,v=.tuple #[v8,.int .i64 (lM l no many)]/\cF w' w.heap.size 60 33 v8 (iQ l no many).length (aq (iQ l no many)))):=by
 refine bK Tryz.func84 rfl Tryz.ntmps84 rfl λf h s=>bE ac 2 h rfl λf h=>ah (ah ?_)
 refine rs ac 1 h rfl λf h=>lL ac h rfl (λm0 f h=>?_) (λm0 f h=>?_)
 ·skip
  refine am ac 2 h rfl λf h=>cy h rfl (lL ac h rfl (λm1 f h=>?_) (λm1 f h=>?_))
  ·refine e9 ac 1 h rfl λf h=>nH h rfl (qr ?_)
   have hm0:=aH0 m0
   have hm1:=aH0 m1
   obtain ⟨m9,hm9⟩:∃ m9:Nat,many=(m9:Int):=⟨many.toNat,by omega⟩
   have hae:=Ce (l:=l) (no:=no) (show 0<=many by omega) (show many<=16 by omega)
   refine am ac 2 h rfl λf h=>aY h s NK (Ay l vh no _ (hR.keep s.ext) hln) rfl rfl ?_;intro f w1 v9 hT hE h s;obtain rfl:=hT
   refine am ac 3 h rfl λf h=>aK (ar bH) h s em rfl rfl λf w1 b8 h s=>al 0 h s aQ rfl rfl rfl (aj _) (aj _) (bD _) λw1 s=>e9 ac 1 h rfl λf h=>ah (bE ac 2 h rfl λf h=>bV h rfl (λhc=>?_) (λhc=>?_))
   ·have h0:¬ i9 l no=0:=by simpa using hc
    refine bE ac 3 h rfl λf h=>rt (fc rfl h s rfl rfl (sy (QI (λh9=>h0 (hae▸h9))) hae (eh _ _ _ _)))
   ·have h0:i9 l no=0:=by simpa using hc
    obtain ⟨hr,hg,hf,hm,hno⟩:=MA h0
    refine kt (bU ac 1 h rfl λf h=>ap (aJ.subL (aJ.of_own s 0 rfl) 1 32 (D:=aH (_)) (fv _)) h bW rfl (by first|exact aA _|exact au _ _) rfl λf h=>am ac 1 h rfl λf h=>aY h s Wh (IG (gl l no).2 l vh _ (hR.keep s.ext) hln hg) rfl rfl ?_);intro f w1 vr hT hE h sq;replace s:=s.sl_new hE (hT.seq (lf (gl l no).2 l).symm rfl)
    refine e9 ac 1 h rfl λf h=>bU ac 1 h rfl λf h=>HM (n:=m9) (xs:=aq (tE l (gl l no) m9 0)) h s aS2 je em rfl rfl (hm9) (by omega) (by unfold maxLen;omega) ((Qb _).trans (by rw [Iq])) (by rw [fM,uq _ _ (aJ3 _)]) rfl ?_;intro f w1 v33 h s
    refine e9 ac 1 h rfl λf h=>ah (bU ac 1 h rfl λf h=>eK 0 h s aS2 rfl rfl rfl λf h=>e9 ac 1 h rfl λf h=>aL4 (aL6 (λnn aa ww=>∃ k:Nat,Sl 52 aa [(0,vh),(1,.int .i64 no),(2,.int .i64 many),(8,.pointer (some ⟨b8,0,none⟩)),(31,vr),(33,v33),(10,vr),(11,v33),(34,v33),(35,.int .i64 (m9:Int)),(36,.int .i64 (k:Int))]/\St w [.sl v33 60 33 m9 (aq (tE l (gl l no) m9 k)),.sl vr 60 33 (gI (gl l no).2 l).length (aq (gI (gl l no).2 l)),.blk b8 (.cells (ar (gl l no)) 60)] ww/\nn=m9 - k/\k<=m9) (m9 - (0)) ⟨0,h.only ⟨rfl,rfl,rfl,rfl,rfl,rfl,rfl,rfl,rfl,rfl,rfl,trivial⟩,s.as ⟨rfl,rfl,rfl,trivial⟩,rfl,aJ3 _⟩ ?_))
    rintro _ f w1 ⟨k,h,s,hnn,hp0⟩
    refine bE ac 1 h rfl λf h=>ah (cB h rfl (λhc=>?_) (λhc=>?_))
    ·refine kt (ah (aL4 (bE ac 2 h rfl λf h=>rs ac 4 h rfl λf h=>?_)))
     have hkl:k<m9:=by omega
     have hpos:=pp hm
     have hml:=aO6 (k+1) hpos
     have hrl:=lf (gl l no).2 l
     refine ai h (bz (.int .i64 ((k+1:Nat):Int)) (bo (h.ev rfl) (h.ev rfl) (by omega)) (aH3 (Value.int .i64) (by omega))) rfl λf h=>am ac 1 h rfl λf h=>eK 1 h s aS2 rfl rfl rfl λf h=>ai h (bz (.int .i64 (((k+1) % l.length:Nat):Int)) (xX (h.ev rfl) (h.ev rfl) (by omega)) (aH3 (Value.int .i64) (by rw [lf];exact(Int.natCast_emod _ _).symm))) rfl λf h=>ai h (bj (bs.of_own (s.getSl 1 rfl)) ((k+1) % l.length) aS2 dX (h.ev rfl) (h.ev rfl) (rfl) (by omega)) rfl λf h=>ap ((bs.of_own (s.getSl 1 rfl)).el ((k+1) % l.length) (by omega) (by decide) (D:=ar (CU l (gl l no) (k+1))) ((eM _ _ (by omega)).trans (by rw [z8 hg hm]))) h aQ rfl (aj _) rfl λf h=>ai h (bj (bs.of_own (s.getSl 0 rfl)) (k) aS2 dX (h.ev rfl) (h.ev rfl) (rfl) (by omega)) rfl λf h=>fI 0 (k) h s aQ rfl rfl rfl (aj _) (by omega) (bD _) ((DJ (l:=(tE l (gl l no) m9 k)) _ (by rw [uq _ _ (by omega)];exact hkl)).trans (by rw [HD _ _ hkl])) λw1 s=>az (aW (aD (aw (ai h (bo (h.ev rfl) (h.ev rfl) (by omega)) rfl λf h=>e9 ac 1 h rfl λf h=>?_))))
     exact ⟨_,by omega,⟨k+1,h.only ⟨rfl,rfl,rfl,rfl,rfl,rfl,rfl,rfl,rfl,rfl,ao rfl (by omega),trivial⟩,St.as s ⟨rfl,rfl,rfl,trivial⟩,rfl,by omega⟩⟩
    ·refine aL5 (aO (aO (bS (aD (bE ac 3 h rfl λf h=>aL3 (fc rfl h s rfl rfl (sy (PK hm9 hae h0) (hae.trans h0) (by obtain rfl:k=m9:=(by omega);rw [← OR,uq _ _ (aJ1 _)];exact(s.getSl 0 rfl)))))))))
  ·refine e9 ac 1 h rfl λf h=>dG h rfl (bE ac 2 h rfl λf h=>rt (fc rfl h s rfl rfl (sy (sm (.inr (aG9 m1))).2 (sm (.inr (aG9 m1))).1 (eh _ _ _ _))))
 ·refine e9 ac 4 h rfl λf h=>dG h rfl (bE ac 2 h rfl λf h=>rt (fc rfl h s rfl rfl (sy (sm (.inl (aG9 m0))).2 (sm (.inl (aG9 m0))).1 (eh _ _ _ _))))
end Go.Proofs.YthmlflaiidhoiaaGreatDoor
