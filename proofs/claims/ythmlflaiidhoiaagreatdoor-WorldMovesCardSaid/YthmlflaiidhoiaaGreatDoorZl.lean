/- Package ring: what its functions answer. -/
import Derived.Test.YthmlflaiidhoiaaGreatDoorZe
import Derived.Test.YthmlflaiidhoiaaGreatDoorZa
set_option linter.unusedVariables false
namespace Go.Proofs.YthmlflaiidhoiaaGreatDoor
open Go.RowKit
theorem qu (l:List Mb) (vh:Value) (w:World) (hR:bs w vh 33 l.length (aq l)) (hln:l.length<=1000):Calls Tryz.prog 37 [vh].toArray w (cb w (is (.bool (dL l)))):=by
 refine bK Tryz.func37 rfl Tryz.ntmps37 rfl λf h s=>bE ac 1 h rfl λf h=>ah (bU ac 1 h rfl λf h=>ck h (hR.keep s.ext) aS2 rfl rfl λf h=>e9 ac 1 h rfl λf h=>cB h rfl (λhc=>?_) (λhc=>?_))
 ·refine bE ac 1 h rfl λf h=>rt (av rfl h s rfl (by show _=_;rw [Cl (by omega)]<;>rfl))
 ·have hl16:l.length<=16:=by omega
  refine kt (ah (bU ac 1 h rfl λf h=>ck h (hR.keep s.ext) aS2 rfl rfl λf h=>e9 ac 1 h rfl λf h=>aL4 (aL6 (λnn aa ww=>∃ k:Nat,Sl 32 aa [(0,vh),(8,vh),(9,.int .i64 (l.length:Int)),(10,.int .i64 (k:Int))]/\St w [] ww/\nn=l.length - k/\k<=l.length/\∀ j,j<k->pc l j=false) (l.length - (0)) ⟨0,h.only ⟨rfl,rfl,rfl,ao rfl (by omega),trivial⟩,s.as trivial,rfl,aJ3 _,λj hj=>aO7 hj (aM6 _)⟩ ?_)))
  rintro _ f w1 ⟨k,h,s,hnn,hp0,hp1⟩
  refine bE ac 1 h rfl λf h=>ah (cB h rfl (λhc=>?_) (λhc=>?_))
  ·refine kt (ah (aL4 (bU ac 1 h rfl λf h=>?_)))
   have hkl:k<l.length:=by omega
   refine ai h (bj (hR.keep s.ext) (k) aS2 dX (h.ev rfl) (h.ev rfl) (by omega) (by omega)) rfl λf h=>ap ((hR.keep s.ext).el (k) (by omega) (by decide) (D:=ar (l.getD k bH)) (eM l k hkl)) h aQ rfl (aj _) rfl λf h=>aK (ar bH) h s em rfl rfl λf w1 b4 h s=>am ac 1 h rfl λf h=>al 0 h s aQ rfl rfl rfl (aj _) (aj _) (bD _) λw1 s=>nt (ah ?_)
   cases k0:(decide ((l.getD k bH).1<0):Bool)
   ·skip
    cases k1:(decide (16<=(l.getD k bH).1):Bool)
    ·skip
     refine KQ 0 [[],[0],[0,1],[0,1,2],[0,1,2,3],[0,1,2,3,4],[0,1,2,3,4,5],[0,1,2,3,4,5,6],[0,1,2,3,4,5,6,7],[0,1,2,3,4,5,6,7,8],[0,1,2,3,4,5,6,7,8],[0,1,2,3,4,5,6,7,8,9,10],[0,1,2,3,4,5,6,7,8],[0,1,2,3,4,5,6,7,8,12],[0,1,2,3,4,5,6,7,8,9,10,11,12,13],[0,1,2,3,4,5,6,7,8,9,10,11,12,13,14]] [[],[],[],[],[],[],[],[],[],[],[],[],[],[],[13],[]] [] [.v _,.v (.int .i64 (l.getD k bH).1),.v (.bool false),.v _,.v (.pointer (some ⟨b4,0,none⟩)),.v (.int .i64 (l.getD k bH).1),.v (.bool false),.v _,.v _,.v vh,.v (.int .i64 (k:Int)),.v (eT vh k),.v (.agg (ar (l.getD k bH))),.r (λv=>[.blk (OU (v 13)) (.cells (ar (l.getD k bH)) 60)]) (λv=>v 13=.func (.func 140) #[] #[.pointer (some ⟨OU (v 13),0,none⟩)]),.v (.bool ((l.take k).any (mi (l.getD k bH)))),.v _] _ h s rfl (by kernel_rfl) (by kernel_rfl) (by kernel_rfl) (gL ac h rfl rfl rfl (cm ?_ (cm ?_ (gL ac h rfl rfl rfl (cm ?_ (cm ?_ (cm ?_ (gL ac h rfl rfl rfl (gL ac h rfl rfl rfl (cm ?_ (cm ?_ (cm ?_ (cm ?_ (cm ?_ (cm ?_ (gL ac h rfl rfl rfl (trivial))))))))))))))))) [0,1,2,3,4,5,6,7,8,9,10,11,12,14,15] (by kernel_rfl) ?_
     ·intro f9 w2 vl6 E9 hs9 hd9 hl hF s
      have h:=cq [(15,_)] h hs9 hd9 ⟨a7 hl 15 0 (by kernel_rfl) (hF 0 (by decide)),trivial⟩
      refine ag (ae (aJ.of_own s 0 rfl) 0 (cp _)) h bJ rfl rfl λf h=>az ⟨_,br 16 h rfl rfl,rfl,s⟩
     ·intro f9 w2 vl6 E9 hs9 hd9 hl hF s
      have h:=cq [(16,_)] h hs9 hd9 ⟨a7 hl 16 1 (by kernel_rfl) (hF 1 (by decide)),trivial⟩
      refine lj ac h rfl k0 λf h=>az ⟨_,br 17 h rfl rfl,rfl,s⟩
     ·intro f9 w2 vl6 E9 hs9 hd9 hl hF s
      have h:=cq [(4,_),(18,_)] h hs9 hd9 ⟨fu hl 4 (by kernel_rfl) (h.holds 4 _ rfl),a7 hl 18 3 (by kernel_rfl) (hF 3 (by decide)),trivial⟩
      refine am ac 1 h rfl λf h=>az ⟨_,br 19 h rfl rfl,rfl,s⟩
     ·intro f9 w2 vl6 E9 hs9 hd9 hl hF s
      have h:=cq [(19,_),(18,_)] h hs9 hd9 ⟨a7 hl 19 4 (by kernel_rfl) (hF 4 (by decide)),a7 hl 18 3 (by kernel_rfl) (hF 3 (by decide)),trivial⟩
      refine cy h rfl (ag (ae (aJ.of_own s 0 rfl) 0 (cp _)) h bJ rfl rfl λf h=>az ⟨_,br 20 h rfl rfl,rfl,s⟩)
     ·intro f9 w2 vl6 E9 hs9 hd9 hl hF s
      have h:=cq [(20,_),(18,_)] h hs9 hd9 ⟨a7 hl 20 5 (by kernel_rfl) (hF 5 (by decide)),a7 hl 18 3 (by kernel_rfl) (hF 3 (by decide)),trivial⟩
      refine cy h rfl (lj ac h rfl k1 λf h=>az ⟨_,br 21 h rfl rfl,rfl,s⟩)
     ·intro f9 w2 vl6 E9 hs9 hd9 hl hF s
      have h:=cq [(0,_),(23,_)] h hs9 hd9 ⟨fu hl 0 (by kernel_rfl) (h.holds 0 _ rfl),a7 hl 23 8 (by kernel_rfl) (hF 8 (by decide)),trivial⟩
      refine am ac 1 h rfl λf h=>az ⟨_,br 24 h rfl rfl,rfl,s⟩
     ·intro f9 w2 vl6 E9 hs9 hd9 hl hF s
      have h:=cq [(3,_),(23,_)] h hs9 hd9 ⟨fu hl 3 (by kernel_rfl) (h.holds 3 _ rfl),a7 hl 23 8 (by kernel_rfl) (hF 8 (by decide)),trivial⟩
      refine am ac 1 h rfl λf h=>az ⟨_,br 25 h rfl rfl,rfl,s⟩
     ·intro f9 w2 vl6 E9 hs9 hd9 hl hF s
      have h:=cq [(24,_),(25,_),(23,_)] h hs9 hd9 ⟨a7 hl 24 9 (by kernel_rfl) (hF 9 (by decide)),a7 hl 25 10 (by kernel_rfl) (hF 10 (by decide)),a7 hl 23 8 (by kernel_rfl) (hF 8 (by decide)),trivial⟩
      refine cy h rfl (ai h (eA (hR.keep s.ext) (k) aS2 dX (h.ev rfl) (h.ev rfl) (rfl) (by omega)) rfl λf h=>az ⟨_,br 26 h rfl rfl,rfl,s⟩)
     ·intro f9 w2 vl6 E9 hs9 hd9 hl hF s
      have h:=cq [(4,_),(23,_)] h hs9 hd9 ⟨fu hl 4 (by kernel_rfl) (h.holds 4 _ rfl),a7 hl 23 8 (by kernel_rfl) (hF 8 (by decide)),trivial⟩
      refine cy h rfl (ak 0 h s aQ rfl rfl (aj _) rfl λf h=>az ⟨_,br 27 h rfl rfl,rfl,s⟩)
     ·intro f9 w2 vl6 E9 hs9 hd9 hl hF s
      have h:=cq [(27,_),(23,_)] h hs9 hd9 ⟨a7 hl 27 12 (by kernel_rfl) (hF 12 (by decide)),a7 hl 23 8 (by kernel_rfl) (hF 8 (by decide)),trivial⟩
      refine cy h rfl (aY h s aa5 (BV _ _) rfl rfl ?_);rintro f w1 v28 ⟨bx,rfl,hS⟩ hE h sq;replace s:=s.add hS;clear hS
      exact az ⟨_,br 28 h rfl rfl,rfl,s⟩
     ·intro f9 w2 vl6 E9 hs9 hd9 hl hF s
      have h:=cq [(26,_),(28,_),(23,_)] h hs9 hd9 ⟨a7 hl 26 11 (by kernel_rfl) (hF 11 (by decide)),a7 hl 28 13 (by kernel_rfl) (hF 13 (by decide)),a7 hl 23 8 (by kernel_rfl) (hF 8 (by decide)),trivial⟩
      refine cy h rfl ?_
      have hbx:=gq.of_own s 0 rfl
      refine dF h s T2 (nK (l.take k) (eT vh k) 140 [.pointer (some ⟨OU (vl6 13),0,none⟩)] (mi (l.getD k bH)) _ (Fz (hR.keep s.ext) k (by omega)) (by rw [aL0];omega) UK (λw9 h9 x hx=>Ec x _ (OU (vl6 13)) w9 (hbx.keep h9))) rfl rfl λf w1 h s=>az ⟨_,br 29 h rfl rfl,rfl,(s.pick _ (aG8 _ (aG7 _ (List.Sublist.refl _))))⟩
     intro f w1 vl6 hs9 hd9 hv hr hF s
     replace h:=wu (ops:=_) [(15,_),(16,_),(17,_),(18,_),(19,_),(20,_),(21,_),(22,_),(23,_),(24,_),(25,_),(26,_),(27,_),(28,.func (.func 140) #[] #[.pointer (some ⟨OU (vl6 13),0,none⟩)]),(29,_),(30,_)] h hs9 hd9 hr ⟨(hv 0 15 rfl).trans (hF 0 rfl),(hv 1 16 rfl).trans (hF 1 rfl),(hv 2 17 rfl).trans (hF 2 rfl),(hv 3 18 rfl).trans (hF 3 rfl),(hv 4 19 rfl).trans (hF 4 rfl),(hv 5 20 rfl).trans (hF 5 rfl),(hv 6 21 rfl).trans (hF 6 rfl),(hv 7 22 rfl).trans (hF 7 rfl),(hv 8 23 rfl).trans (hF 8 rfl),(hv 9 24 rfl).trans (hF 9 rfl),(hv 10 25 rfl).trans (hF 10 rfl),(hv 11 26 rfl).trans (hF 11 rfl),(hv 12 27 rfl).trans (hF 12 rfl),(hv 13 28 rfl).trans (hF 13 rfl),(hv 14 29 rfl).trans (hF 14 rfl),(hv 15 30 rfl).trans (hF 15 rfl),trivial⟩ (by kernel_rfl)
     refine aD (bV h rfl (λhc=>?_) (λhc=>?_))
     ·refine bE ac 1 h rfl λf h=>aL3 (bA (aS (aS (bA (aS (av rfl h s rfl (by show _=_;rw [mr hkl ((My k0 k1).trans hc)]<;>rfl)))))))
     ·refine wpIn_skip (aW (aD (aw (ai h (bo (h.ev rfl) (h.ev rfl) (by omega)) rfl λf h=>e9 ac 1 h rfl λf h=>?_))))
      have hb9:pc l k=false:=(My k0 k1).trans hc
      exact ⟨_,by omega,⟨k+1,h.only ⟨rfl,rfl,rfl,ao rfl (by omega),trivial⟩,St.as (s.pick _ (aI8 [_] _)) trivial,rfl,by omega,fF hp1 hb9⟩⟩
    ·refine dJ 16 h (by kernel_rfl) (ay ac 1 h rfl λf h=>aB (ae (aJ.of_own s 0 rfl) 0 (cp _)) h bJ rfl rfl λf h=>vB ac h rfl k0 λf h=>ay ac 2 h rfl λf h=>bL h rfl (aB (ae (aJ.of_own s 0 rfl) 0 (cp _)) h bJ rfl rfl λf h=>bL h rfl (nD ac h rfl k1 λf h=>ay ac 9 h rfl λf h=>bY s λw1 s=>iY h rfl (bE ac 1 h rfl λf h=>aL3 (bA (aS (aS (bA (aS (av rfl h s rfl (by show _=_;rw [mr hkl (V6 k1)]<;>rfl)))))))))))
   ·refine dJ 16 h (by kernel_rfl) (ay ac 1 h rfl λf h=>aB (ae (aJ.of_own s 0 rfl) 0 (cp _)) h bJ rfl rfl λf h=>nD ac h rfl k0 λf h=>ay ac 13 h rfl λf h=>bY s λw1 s=>iY h rfl (bE ac 1 h rfl λf h=>aL3 (bA (aS (aS (bA (aS (av rfl h s rfl (by show _=_;rw [mr hkl (XI k0)]<;>rfl)))))))))
  ·refine aL5 (aO (aO (bS (aD (bE ac 1 h rfl λf h=>aL3 (av rfl h s rfl (by show _=_;rw [AT hl16 (λj hj=>hp1 j (by omega))]<;>rfl)))))))
theorem jL (a b:Id) (w:World):Calls Tryz.prog 88 [iy a,iy b].toArray w (cb w (is (.int .i64 (ei a b)))):=by
 refine bK Tryz.func88 rfl Tryz.ntmps88 rfl λf h s=>qr (aV (aH a) h s rfl rfl rfl λf w1 b2 h s=>aV (aH b) h s rfl rfl rfl λf w1 b3 h s=>e9 ac 1 h rfl λf h=>ah (bE ac 1 h rfl λf h=>aL4 (aL6 (λnn aa ww=>∃ k:Nat,Sl 24 aa [(0,iy a),(1,iy b),(2,.pointer (some ⟨b2,0,none⟩)),(3,.pointer (some ⟨b3,0,none⟩)),(6,.int .i64 (k:Int))]/\St w [.blk b3 (.cells (aH b) 42),.blk b2 (.cells (aH a) 42)] ww/\nn=32 - k/\k<=32/\a.toNat / 256 ^ (32 - k)=b.toNat / 256 ^ (32 - k)) (32 - (0)) ⟨0,h.only ⟨rfl,rfl,rfl,rfl,ao rfl (by omega),trivial⟩,s.as ⟨rfl,rfl,trivial⟩,rfl,by omega,L9 a b⟩ ?_)))
 rintro _ f w1 ⟨k,h,s,hnn,hp0,hp1⟩
 refine bE ac 1 h rfl λf h=>ah (cB h rfl (λhc=>?_) (λhc=>?_))
 ·refine kt (ah (aL4 (bE ac 2 h rfl λf h=>ah (dJ 7 h (by kernel_rfl) (ay ac 1 h rfl λf h=>aF h (mt (k) aO8 jE (h.ev rfl) (h.ev rfl) (by omega) (by omega)) rfl λf h=>eR 1 h s r2 rfl rfl (eH _ _ (by omega)) rfl λf h=>ay ac 1 h rfl λf h=>aF h (mt (k) aO8 jE (h.ev rfl) (h.ev rfl) (by omega) (by omega)) rfl λf h=>eR 0 h s r2 rfl rfl (eH _ _ (by omega)) rfl λf h=>ay ac 1 h rfl λf h=>bY s λw1 s=>nt (cB h rfl (λhc=>?_) (λhc=>?_)))))))
  ·refine ah (dJ 8 h (by kernel_rfl) (ay ac 1 h rfl λf h=>aF h (mt (k) aO8 jE (h.ev rfl) (h.ev rfl) (by omega) (by omega)) rfl λf h=>eR 1 h s r2 rfl rfl (eH _ _ (by omega)) rfl λf h=>ay ac 1 h rfl λf h=>aF h (mt (k) aO8 jE (h.ev rfl) (h.ev rfl) (by omega) (by omega)) rfl λf h=>eR 0 h s r2 rfl rfl (eH _ _ (by omega)) rfl λf h=>bF h Vr (λw9 hE9=>ME _ _ w9) rfl rfl λf h=>ay ac 1 h rfl λf h=>bY s λw1 s=>nt (aL3 (bA (aS (aS (bA (aS (av rfl h s rfl (by show _=_;rw [Xn a b k (by omega) hp1 hc]))))))))))
  ·refine wpIn_skip (aW (aD (aw (ai h (bo (h.ev rfl) (h.ev rfl) (by omega)) rfl λf h=>e9 ac 1 h rfl λf h=>?_))))
   exact ⟨_,by omega,⟨k+1,h.only ⟨rfl,rfl,rfl,rfl,ao rfl (by omega),trivial⟩,St.as s ⟨rfl,rfl,trivial⟩,rfl,by omega,N4 a b k (by omega) hp1 (by omega)⟩⟩
 ·refine aL5 (aO (aO (bS (aD (bE ac 1 h rfl λf h=>aL3 (av rfl h s rfl (by show _=_;rw [Qw a b k (by omega) hp1,wU])))))))
theorem og (x y:Mb) (x9:Id) (bx:Nat) (w:World) (hb:gq w bx (aH x9)):Calls Tryz.prog 87 [.agg (ar x),.agg (ar y),.pointer (some ⟨bx,0,none⟩)].toArray w (cb w (is (.int .i64 (ei (x.2 - x9) (y.2 - x9))))):=by
 refine bK Tryz.func87 rfl Tryz.ntmps87 rfl λf h s=>qr (aV ((ar x)) h s rfl rfl rfl λf w1 b3 h s=>aV ((ar y)) h s rfl rfl rfl λf w1 b4 h s=>e9 ac 1 h rfl λf h=>ah (dJ 10 h (by kernel_rfl) (bh (aJ.subL (aJ.of_tab (hb.keep s.ext)) 0 32 (D:=aH x9) (mV _)) h bW rfl (by first|exact aA _|exact au _ _) rfl λf h=>ay ac 1 h rfl λf h=>bh (aJ.subL (aJ.of_own s 1 rfl) 1 32 (D:=aH (_)) (fv _)) h bW rfl (by first|exact aA _|exact au _ _) rfl λf h=>bF h Fi (λw9 hE9=>sE _ _ w9) rfl rfl λf h=>bh (aJ.subL (aJ.of_tab (hb.keep s.ext)) 0 32 (D:=aH x9) (mV _)) h bW rfl (by first|exact aA _|exact au _ _) rfl λf h=>ay ac 1 h rfl λf h=>bh (aJ.subL (aJ.of_own s 0 rfl) 1 32 (D:=aH (_)) (fv _)) h bW rfl (by first|exact aA _|exact au _ _) rfl λf h=>bF h Fi (λw9 hE9=>sE _ _ w9) rfl rfl λf h=>bF h Fk (λw9 hE9=>jL _ _ w9) rfl rfl λf h=>ay ac 1 h rfl λf h=>bY s λw1 s=>nt (aL3 (av rfl h s rfl (rfl))))))
theorem MK (l:List Mb) (vh:Value) (x9:Id) (bx:Nat) (w:World) (hR:bs w vh 33 l.length (aq l)) (hln:l.length<=1000) (hb:gq w bx (aH x9)) (h0:0<l.length):Calls Tryz.prog 38 [vh,.func (.func 87) #[] #[.pointer (some ⟨bx,0,none⟩)]].toArray w (cb w (is (.agg (ar (gX (oz x9) l (l.length - 1)))))):=by
 refine bK Tryz.func38 rfl Tryz.ntmps38 rfl λf h s=>qr (aK (ar bH) h s em rfl rfl λf w1 b4 h s=>nt (ah (bU ac 1 h rfl λf h=>ck h (hR.keep s.ext) aS2 rfl rfl λf h=>e9 ac 1 h rfl λf h=>bV h rfl (λhc=>?_) (λhc=>?_))))
 ·replace hc:=aG9 hc
  exfalso;omega
 ·refine kt (bU ac 1 h rfl λf h=>ai h (bj (hR.keep s.ext) (0) aS2 dX (h.ev rfl) (h.ev rfl) (by omega) (by omega)) rfl λf h=>ap ((hR.keep s.ext).el (0) (by omega) (by decide) (D:=ar (l.getD 0 bH)) (eM l 0 h0)) h aQ rfl (aj _) rfl λf h=>aK (ar bH) h s em rfl rfl λf w1 b5 h s=>al 0 h s aQ rfl rfl rfl (aj _) (aj _) (bD _) λw1 s=>nt (ah (bE ac 1 h rfl λf h=>aL4 (aL6 (λnn aa ww=>∃ k:Nat,Sl 33 aa [(0,vh),(4,.pointer (some ⟨b4,0,none⟩)),(5,.pointer (some ⟨b5,0,none⟩)),(1,.func (.func 87) #[] #[.pointer (some ⟨bx,0,none⟩)]),(6,.int .i64 ((k:Int)+1))]/\St w [.blk b5 (.cells (ar (gX (oz x9) l k)) 60),.blk b4 (.cells (ar bH) 60)] ww/\nn=l.length - k/\k+1<=l.length) (l.length - (0)) ⟨0,h.only ⟨rfl,rfl,rfl,rfl,rfl,trivial⟩,s.as ⟨rfl,rfl,trivial⟩,rfl,by omega⟩ ?_))))
  rintro _ f w1 ⟨k,h,s,hnn,hp0⟩
  refine ah (bU ac 2 h rfl λf h=>ck h (hR.keep s.ext) aS2 rfl rfl λf h=>e9 ac 1 h rfl λf h=>cB h rfl (λhc=>?_) (λhc=>?_))
  ·refine kt (ah (aL4 (ah (dJ 8 h (by kernel_rfl) (ay ac 2 h rfl λf h=>?_)))))
   have hkl:k+1<l.length:=by omega
   refine ay ac 1 h rfl λf h=>aF h (bj (hR.keep s.ext) (k+1) aS2 dX (h.ev rfl) (h.ev rfl) (by omega) (by omega)) rfl λf h=>bh ((hR.keep s.ext).el (k+1) (by omega) (by decide) (D:=ar (l.getD (k+1) bH)) (eM l (k+1) hkl)) h aQ rfl (aj _) rfl λf h=>aT 0 h s aQ rfl rfl (aj _) rfl λf h=>jP [.agg (ar (l.getD (k+1) bH)),.agg (ar (gX (oz x9) l k))] (caps:=[.pointer (some ⟨bx,0,none⟩)]) h T3 rfl (λw9 h9=>og _ _ x9 bx w9 (hb.keep (s.ext.trans h9))) rfl rfl ?_;intro f h
   refine aF h (bz (.bool (decide (fd x9 (l.getD (k+1) bH).2<fd x9 (gX (oz x9) l k).2))) (MJ (h.ev rfl) (h.ev rfl)) (aH3 Value.bool (Fo _ _ _))) rfl λf h=>bY s λw1 s=>nt (cB h rfl (λhc=>?_) (λhc=>?_))
   ·refine rs ac 2 h rfl λf h=>ai h (bj (hR.keep s.ext) (k+1) aS2 dX (h.ev rfl) (h.ev rfl) (by omega) (by omega)) rfl λf h=>ap ((hR.keep s.ext).el (k+1) (by omega) (by decide) (D:=ar (l.getD (k+1) bH)) (eM l (k+1) hkl)) h aQ rfl (aj _) rfl λf h=>al 0 h s aQ rfl rfl rfl (aj _) (aj _) (bD _) λw1 s=>az (aW (aD (rs ac 1 h rfl λf h=>ai h (bo (h.ev rfl) (h.ev rfl) (by omega)) rfl λf h=>e9 ac 1 h rfl λf h=>?_)))
    exact ⟨_,by omega,⟨k+1,h.only ⟨rfl,rfl,rfl,rfl,ao rfl (by omega),trivial⟩,St.as s ⟨fL (aH3 ar (OJ (f:=oz x9) hc).symm),rfl,trivial⟩,rfl,by omega⟩⟩
   ·refine wpIn_skip (aW (aD (rs ac 1 h rfl λf h=>ai h (bo (h.ev rfl) (h.ev rfl) (by omega)) rfl λf h=>e9 ac 1 h rfl λf h=>?_)))
    exact ⟨_,by omega,⟨k+1,h.only ⟨rfl,rfl,rfl,rfl,ao rfl (by omega),trivial⟩,St.as s ⟨fL (aH3 ar (Q5 (f:=oz x9) hc).symm),rfl,trivial⟩,rfl,by omega⟩⟩
  ·refine aL5 (aO (aO (bS (aD (qr (ak 0 h s aQ rfl rfl (aj _) rfl λf h=>al 1 h s aQ rfl rfl rfl (aj _) (aj _) (bD _) λw1 s=>nt (aL3 (lH 1 rfl h s aQ rfl rfl (aj _) ((by obtain rfl:k=l.length - 1:=(by omega);exact rfl))))))))))
theorem HE (l:List Mb) (vh:Value) (x9:Id) (w:World) (hR:bs w vh 33 l.length (aq l)) (hln:l.length<=1000):Calls Tryz.prog 20 [vh,iy x9].toArray w (cb w (is (.tuple #[.agg (ar (dI l x9)),.int .i64 (rJ l)]))):=by
 refine bK Tryz.func20 rfl Tryz.ntmps20 rfl λf h s=>qr (aV (aH x9) h s rfl rfl rfl λf w1 b3 h s=>aK (ar bH) h s em rfl rfl λf w1 b4 h s=>e9 ac 1 h rfl λf h=>ah (ah ?_))
 refine rs ac 1 h rfl λf h=>fh h s Oa (qu l vh _ (hR.keep s.ext) hln) rfl rfl (λhr f w1 h s=>?_) (λhr f w1 h s=>?_)
 ·refine e9 ac 1 h rfl λf h=>dG h rfl (qr (ai h (ib tT) rfl λf h=>al 0 h s aQ rfl rfl rfl (aj _) (aj _) (bD _) λw1 s=>e9 ac 1 h rfl λf h=>rt (cc 0 rfl h s aQ rfl rfl (aj _) rfl (by show _=_;rw [(GP x9 hr).1,(GP x9 hr).2]<;>rfl))))
 ·refine e9 ac 1 h rfl λf h=>nH h rfl (ah (bU ac 1 h rfl λf h=>ck h (hR.keep s.ext) aS2 rfl rfl λf h=>e9 ac 1 h rfl λf h=>cB h rfl (λhc=>?_) (λhc=>?_)))
  ·have h0:l.length=0:=by omega
   refine qr (ai h (ib tT) rfl λf h=>al 0 h s aQ rfl rfl rfl (aj _) (aj _) (bD _) λw1 s=>e9 ac 1 h rfl λf h=>rt (cc 0 rfl h s aQ rfl rfl (aj _) rfl (by show _=_;rw [(BW x9 hr h0).1,(BW x9 hr h0).2]<;>rfl)))
  ·have h0:¬ l.length=0:=by omega
   refine kt (bU ac 1 h rfl λf h=>ak 1 h s bW rfl rfl (by first|exact aA _|exact au _ _) rfl λf h=>aY h s Kp (qC x9 _) rfl rfl ?_);rintro f w1 v16 ⟨bx,rfl,hbx⟩ hE h s
   refine dF h s ak4 (MK l vh x9 bx _ (hR.keep s.ext) hln hbx (by omega)) rfl rfl λf w1 h s=>al 0 h s aQ rfl rfl rfl (aj _) (aj _) (bD _) λw1 s=>e9 ac 1 h rfl λf h=>aL3 (cc 0 rfl h s aQ rfl rfl (aj _) rfl (by show _=_;rw [(ze x9 hr h0).1,(ze x9 hr h0).2]<;>rfl))
theorem Ay (l:List Mb) (vh:Value) (no:Int) (w:World) (hR:bs w vh 33 l.length (aq l)) (hln:l.length<=1000):Calls Tryz.prog 136 [vh,.int .i64 no].toArray w (cb w (is (.tuple #[.agg (ar (gl l no)),.int .i64 (i9 l no)]))):=by
 refine bK Tryz.func136 rfl Tryz.ntmps136 rfl λf h s=>qr (aK (ar bH) h s em rfl rfl λf w1 b4 h s=>e9 ac 1 h rfl λf h=>ah (ah ?_))
 refine rs ac 1 h rfl λf h=>fh h s Oa (qu l vh _ (hR.keep s.ext) hln) rfl rfl (λhr f w1 h s=>?_) (λhr f w1 h s=>?_)
 ·refine e9 ac 1 h rfl λf h=>dG h rfl (qr (ai h (ib tT) rfl λf h=>al 0 h s aQ rfl rfl rfl (aj _) (aj _) (bD _) λw1 s=>e9 ac 1 h rfl λf h=>rt (cc 0 rfl h s aQ rfl rfl (aj _) rfl (by show _=_;rw [(yq no hr).1,(yq no hr).2]<;>rfl))))
 ·refine e9 ac 1 h rfl λf h=>nH h rfl (ah (bU ac 1 h rfl λf h=>ck h (hR.keep s.ext) aS2 rfl rfl λf h=>e9 ac 1 h rfl λf h=>aL4 (aL6 (λnn aa ww=>∃ k:Nat,Sl 25 aa [(0,vh),(1,.int .i64 no),(4,.pointer (some ⟨b4,0,none⟩)),(12,vh),(13,.int .i64 (l.length:Int)),(14,.int .i64 (k:Int))]/\St w [.blk b4 (.cells (ar bH) 60)] ww/\nn=l.length - k/\k<=l.length/\∀ j,j<k->decide ((l.getD j bH).1=no)=false) (l.length - (0)) ⟨0,h.only ⟨rfl,rfl,rfl,rfl,rfl,ao rfl (by omega),trivial⟩,s.as ⟨rfl,trivial⟩,rfl,aJ3 _,λj hj=>aO7 hj (aM6 _)⟩ ?_)))
  rintro _ f w1 ⟨k,h,s,hnn,hp0,hp1⟩
  refine bE ac 1 h rfl λf h=>ah (cB h rfl (λhc=>?_) (λhc=>?_))
  ·refine kt (ah (aL4 (qr ?_)))
   have hkl:k<l.length:=by omega
   refine ai h (bj (hR.keep s.ext) (k) aS2 dX (h.ev rfl) (h.ev rfl) (by omega) (by omega)) rfl λf h=>ap ((hR.keep s.ext).el (k) (by omega) (by decide) (D:=ar (l.getD k bH)) (eM l k hkl)) h aQ rfl (aj _) rfl λf h=>aK (ar bH) h s em rfl rfl λf w1 b7 h s=>al 0 h s aQ rfl rfl rfl (aj _) (aj _) (bD _) λw1 s=>nt (bU ac 1 h rfl λf h=>ag (ae (aJ.of_own s 0 rfl) 0 (cp _)) h bJ rfl rfl λf h=>e9 ac 2 h rfl λf h=>bV h rfl (λhc=>?_) (λhc=>?_))
   ·refine qr (ak 0 h s aQ rfl rfl (aj _) rfl λf h=>al 1 h s aQ rfl rfl rfl (aj _) (aj _) (bD _) λw1 s=>e9 ac 1 h rfl λf h=>aL3 (bA (aS (aS (bA (aS (cc 1 rfl h s aQ rfl rfl (aj _) rfl (by show _=_;rw [(o7 hr (zq hkl hp1 hc)).1,(o7 hr (zq hkl hp1 hc)).2]<;>rfl))))))))
   ·refine wpIn_skip (aW (aD (aw (ai h (bo (h.ev rfl) (h.ev rfl) (by omega)) rfl λf h=>e9 ac 1 h rfl λf h=>?_))))
    exact ⟨_,by omega,⟨k+1,h.only ⟨rfl,rfl,rfl,rfl,rfl,ao rfl (by omega),trivial⟩,St.as (s.pick _ (aI8 [_] _)) ⟨rfl,trivial⟩,rfl,by omega,fF (q:=λj=>decide ((l.getD j bH).1=no)) hp1 hc⟩⟩
  ·refine aL5 (aO (aO (bS (aD (qr (ai h (ib tT) rfl λf h=>al 0 h s aQ rfl rfl rfl (aj _) (aj _) (bD _) λw1 s=>e9 ac 1 h rfl λf h=>aL3 (cc 0 rfl h s aQ rfl rfl (aj _) rfl (by show _=_;rw [(tV hr (yA (by omega) hp1)).1,(tV hr (yA (by omega) hp1)).2]<;>rfl))))))))
theorem Ye (x a b:Id) (w:World):Calls Tryz.prog 258 [iy x,iy a,iy b].toArray w (cb w (is (.bool (zb x a b)))):=by
 refine bK Tryz.func258 rfl Tryz.ntmps258 rfl λf h s=>qr (aV (aH x) h s rfl rfl rfl λf w1 b3 h s=>aV (aH a) h s rfl rfl rfl λf w1 b4 h s=>aV (aH b) h s rfl rfl rfl λf w1 b5 h s=>e9 ac 1 h rfl λf h=>ah (qr (ak 1 h s bW rfl rfl (by first|exact aA _|exact au _ _) rfl λf h=>ak 0 h s bW rfl rfl (by first|exact aA _|exact au _ _) rfl λf h=>ai h (dC gE (h.ev rfl) (h.ev rfl)) rfl λf h=>nt (bV h rfl (λhc=>?_) (λhc=>?_)))))
 ·have hc:=aG9 hc
  refine bE ac 1 h rfl λf h=>rt (av rfl h s rfl (by show _=_;subst hc;rw [JD]))
 ·have hc:=aH0 hc
  refine kt (ah ?_)
  cases hx:(decide (x≠a):Bool)
  ·refine dJ 14 h (by kernel_rfl) (aT 2 h s bW rfl rfl (by first|exact aA _|exact au _ _) rfl λf h=>aT 1 h s bW rfl rfl (by first|exact aA _|exact au _ _) rfl λf h=>aF h (bz (.bool false) (vP gE (h.ev rfl) (h.ev rfl)) (aH3 Value.bool hx)) rfl λf h=>ay ac 11 h rfl λf h=>bY s λw1 s=>nt (aL3 (av rfl h s rfl (by show _=_;unfold zb;rw [hx];simp [hc]))))
  ·refine dJ 14 h (by kernel_rfl) (aT 2 h s bW rfl rfl (by first|exact aA _|exact au _ _) rfl λf h=>aT 1 h s bW rfl rfl (by first|exact aA _|exact au _ _) rfl λf h=>aF h (bz (.bool true) (vP gE (h.ev rfl) (h.ev rfl)) (aH3 Value.bool hx)) rfl λf h=>ay ac 1 h rfl λf h=>bL h rfl (aT 1 h s bW rfl rfl (by first|exact aA _|exact au _ _) rfl λf h=>bL h rfl (aT 2 h s bW rfl rfl (by first|exact aA _|exact au _ _) rfl λf h=>bL h rfl (bF h Fi (λw9 hE9=>sE _ _ w9) rfl rfl λf h=>bL h rfl (aT 1 h s bW rfl rfl (by first|exact aA _|exact au _ _) rfl λf h=>bL h rfl (aT 0 h s bW rfl rfl (by first|exact aA _|exact au _ _) rfl λf h=>bL h rfl (bF h Fi (λw9 hE9=>sE _ _ w9) rfl rfl λf h=>bL h rfl (bF h Fk (λw9 hE9=>jL _ _ w9) rfl rfl λf h=>bL h rfl (aF h (bz (.bool (decide ((x - a).toNat<=(b - a).toNat))) (zf (h.ev rfl) (h.ev rfl)) (aH3 Value.bool (Qv _ _))) rfl λf h=>ay ac 2 h rfl λf h=>bY s λw1 s=>nt (aL3 (av rfl h s rfl (by show _=_;unfold zb;rw [hx];simp [hc]))))))))))))
end Go.Proofs.YthmlflaiidhoiaaGreatDoor
