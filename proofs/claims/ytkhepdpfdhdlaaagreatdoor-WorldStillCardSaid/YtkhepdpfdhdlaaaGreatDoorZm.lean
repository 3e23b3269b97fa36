/- Package ring and what it stands on, so far as it is wanted: what each function answers. -/
import Derived.Test.YtkhepdpfdhdlaaaGreatDoorZe
import Derived.Test.YtkhepdpfdhdlaaaGreatDoorZa
set_option linter.unusedVariables false
set_option linter.unusedSimpArgs false
set_option linter.unusedSectionVars false
namespace Go.Proofs.YtkhepdpfdhdlaaaGreatDoor
open Go.RowKit
theorem uF (l:List Mb) (vh:Value) (w:World) (hR:br w vh 33 l.length (ap l)) (hln:l.length<=1000):Calls Tryz.prog 61 [vh].toArray w (cd w (is (.bool (ft l)))):=by
 refine bN Tryz.func61 rfl Tryz.ntmps61 rfl λf h s=>bJ ac 1 h rfl λf h=>ah (cw ac 1 h rfl λf h=>bT h (hR.keep s.ext) aD1 rfl rfl λf h=>e9 ac 1 h rfl λf h=>dA h rfl (λhc=>?_) (λhc=>?_))
 ·refine bJ ac 1 h rfl λf h=>rt (aA rfl h s rfl (by show _=_;rw [zD (by omega)]<;>rfl))
 ·have hl16:l.length<=16:=by omega
  refine kt (ah (cw ac 1 h rfl λf h=>bT h (hR.keep s.ext) aD1 rfl rfl λf h=>e9 ac 1 h rfl λf h=>av9 (aw1 (λnn aa ww=>∃ k:Nat,Sl 32 aa [(0,vh),(8,vh),(9,.int .i64 (l.length:Int)),(10,.int .i64 (k:Int))]/\St w [] ww/\nn=l.length - k/\k<=l.length/\∀ j,j<k->nr l j=false) (l.length - (0)) ⟨0,h.only ⟨rfl,rfl,rfl,aD rfl (by omega),trivial⟩,s.as trivial,rfl,at8 _,λj hj=>az2 hj (ax1 _)⟩ ?_)))
  rintro _ f w1 ⟨k,h,s,hnn,hp0,hp1⟩
  refine bJ ac 1 h rfl λf h=>ah (dA h rfl (λhc=>?_) (λhc=>?_))
  ·refine kt (ah (av9 (cw ac 1 h rfl λf h=>?_)))
   have hkl:k<l.length:=by omega
   refine am h (bg (hR.keep s.ext) (k) aD1 ed (h.ev rfl) (h.ev rfl) (by omega) (by omega)) rfl λf h=>az ((hR.keep s.ext).el (k) (by omega) (by decide) (D:=ay (l.getD k bz)) (fu l k hkl)) h aY rfl (ai _) rfl λf h=>aO (ay bz) h s eV rfl rfl λf w1 b4 h s=>al ac 1 h rfl λf h=>aj 0 h s aY rfl rfl rfl (ai _) (ai _) (bI _) λw1 s=>nt (ah ?_)
   cases k0:(decide ((l.getD k bz).1<0):Bool)
   ·skip
    cases k1:(decide (16<=(l.getD k bz).1):Bool)
    ·skip
     refine rM 0 [[],[0],[0,1],[0,1,2],[0,1,2,3],[0,1,2,3,4],[0,1,2,3,4,5],[0,1,2,3,4,5,6],[0,1,2,3,4,5,6,7],[0,1,2,3,4,5,6,7,8],[0,1,2,3,4,5,6,7,8],[0,1,2,3,4,5,6,7,8,9,10],[0,1,2,3,4,5,6,7,8],[0,1,2,3,4,5,6,7,8,12],[0,1,2,3,4,5,6,7,8,9,10,11,12,13],[0,1,2,3,4,5,6,7,8,9,10,11,12,13,14]] [[],[],[],[],[],[],[],[],[],[],[],[],[],[],[13],[]] [] [.v _,.v (.int .i64 (l.getD k bz).1),.v (.bool false),.v _,.v (.pointer (some ⟨b4,0,none⟩)),.v (.int .i64 (l.getD k bz).1),.v (.bool false),.v _,.v _,.v vh,.v (.int .i64 (k:Int)),.v (jK vh k),.v (.agg (ay (l.getD k bz))),.r (λv=>[.blk (VO (v 13)) (.cells (ay (l.getD k bz)) 69)]) (λv=>v 13=.func (.func 182) #[] #[.pointer (some ⟨VO (v 13),0,none⟩)]),.v (.bool ((l.take k).any (kT (l.getD k bz)))),.v _] _ h s rfl (by kernel_rfl) (by kernel_rfl) (by kernel_rfl) (fJ ac h rfl rfl rfl (bW ?_ (bW ?_ (fJ ac h rfl rfl rfl (bW ?_ (bW ?_ (bW ?_ (fJ ac h rfl rfl rfl (fJ ac h rfl rfl rfl (bW ?_ (bW ?_ (bW ?_ (bW ?_ (bW ?_ (bW ?_ (fJ ac h rfl rfl rfl (trivial))))))))))))))))) [0,1,2,3,4,5,6,7,8,9,10,11,12,14,15] (by kernel_rfl) ?_
     ·intro f9 w2 vl6 E9 hs9 hd9 hl hF s
      have h:=cb [(15,_)] h hs9 hd9 ⟨aS hl 15 0 (by kernel_rfl) (hF 0 (by decide)),trivial⟩
      refine ag (ae (aF.of_own s 0 rfl) 0 (cf _)) h bu rfl rfl λf h=>aw ⟨_,aV 16 h rfl rfl,rfl,s⟩
     ·intro f9 w2 vl6 E9 hs9 hd9 hl hF s
      have h:=cb [(16,_)] h hs9 hd9 ⟨aS hl 16 1 (by kernel_rfl) (hF 1 (by decide)),trivial⟩
      refine eF ac h rfl k0 λf h=>aw ⟨_,aV 17 h rfl rfl,rfl,s⟩
     ·intro f9 w2 vl6 E9 hs9 hd9 hl hF s
      have h:=cb [(4,_),(18,_)] h hs9 hd9 ⟨d5 hl 4 (by kernel_rfl) (h.holds 4 _ rfl),aS hl 18 3 (by kernel_rfl) (hF 3 (by decide)),trivial⟩
      refine al ac 1 h rfl λf h=>aw ⟨_,aV 19 h rfl rfl,rfl,s⟩
     ·intro f9 w2 vl6 E9 hs9 hd9 hl hF s
      have h:=cb [(19,_),(18,_)] h hs9 hd9 ⟨aS hl 19 4 (by kernel_rfl) (hF 4 (by decide)),aS hl 18 3 (by kernel_rfl) (hF 3 (by decide)),trivial⟩
      refine bF h rfl (ag (ae (aF.of_own s 0 rfl) 0 (cf _)) h bu rfl rfl λf h=>aw ⟨_,aV 20 h rfl rfl,rfl,s⟩)
     ·intro f9 w2 vl6 E9 hs9 hd9 hl hF s
      have h:=cb [(20,_),(18,_)] h hs9 hd9 ⟨aS hl 20 5 (by kernel_rfl) (hF 5 (by decide)),aS hl 18 3 (by kernel_rfl) (hF 3 (by decide)),trivial⟩
      refine bF h rfl (eF ac h rfl k1 λf h=>aw ⟨_,aV 21 h rfl rfl,rfl,s⟩)
     ·intro f9 w2 vl6 E9 hs9 hd9 hl hF s
      have h:=cb [(0,_),(23,_)] h hs9 hd9 ⟨d5 hl 0 (by kernel_rfl) (h.holds 0 _ rfl),aS hl 23 8 (by kernel_rfl) (hF 8 (by decide)),trivial⟩
      refine al ac 1 h rfl λf h=>aw ⟨_,aV 24 h rfl rfl,rfl,s⟩
     ·intro f9 w2 vl6 E9 hs9 hd9 hl hF s
      have h:=cb [(3,_),(23,_)] h hs9 hd9 ⟨d5 hl 3 (by kernel_rfl) (h.holds 3 _ rfl),aS hl 23 8 (by kernel_rfl) (hF 8 (by decide)),trivial⟩
      refine al ac 1 h rfl λf h=>aw ⟨_,aV 25 h rfl rfl,rfl,s⟩
     ·intro f9 w2 vl6 E9 hs9 hd9 hl hF s
      have h:=cb [(24,_),(25,_),(23,_)] h hs9 hd9 ⟨aS hl 24 9 (by kernel_rfl) (hF 9 (by decide)),aS hl 25 10 (by kernel_rfl) (hF 10 (by decide)),aS hl 23 8 (by kernel_rfl) (hF 8 (by decide)),trivial⟩
      refine bF h rfl (am h (eY (hR.keep s.ext) (k) aD1 ed (h.ev rfl) (h.ev rfl) (rfl) (by omega)) rfl λf h=>aw ⟨_,aV 26 h rfl rfl,rfl,s⟩)
     ·intro f9 w2 vl6 E9 hs9 hd9 hl hF s
      have h:=cb [(4,_),(23,_)] h hs9 hd9 ⟨d5 hl 4 (by kernel_rfl) (h.holds 4 _ rfl),aS hl 23 8 (by kernel_rfl) (hF 8 (by decide)),trivial⟩
      refine bF h rfl (ak 0 h s aY rfl rfl (ai _) rfl λf h=>aw ⟨_,aV 27 h rfl rfl,rfl,s⟩)
     ·intro f9 w2 vl6 E9 hs9 hd9 hl hF s
      have h:=cb [(27,_),(23,_)] h hs9 hd9 ⟨aS hl 27 12 (by kernel_rfl) (hF 12 (by decide)),aS hl 23 8 (by kernel_rfl) (hF 8 (by decide)),trivial⟩
      refine bF h rfl (bB h s S8 (zi _ _) rfl rfl ?_);rintro f w1 v28 ⟨bx,rfl,hS⟩ hE h sq;replace s:=s.add hS;clear hS
      exact aw ⟨_,aV 28 h rfl rfl,rfl,s⟩
     ·intro f9 w2 vl6 E9 hs9 hd9 hl hF s
      have h:=cb [(26,_),(28,.func (.func 182) #[] #[.pointer (some ⟨VO (vl6 13),0,none⟩)]),(23,_)] h hs9 hd9 ⟨aS hl 26 11 (by kernel_rfl) (hF 11 (by decide)),aS hl 28 13 (by kernel_rfl) (hF 13 (by decide)),aS hl 23 8 (by kernel_rfl) (hF 8 (by decide)),trivial⟩
      refine bF h rfl ?_
      have hbx:=iX.of_own s 0 rfl
      refine dM h s LH (mx (l.take k) (jK vh k) 182 [.pointer (some ⟨VO (vl6 13),0,none⟩)] (kT (l.getD k bz)) _ (De (hR.keep s.ext) k (by omega)) (by rw [av5];omega) R7 (λw9 h9 x hx=>Bk x _ (VO (vl6 13)) w9 (hbx.keep h9))) rfl rfl λf w1 h s=>aw ⟨_,aV 29 h rfl rfl,rfl,(s.pick _ (ar3 _ (ar2 _ (List.Sublist.refl _))))⟩
     intro f w1 vl6 hs9 hd9 hv hr hF s
     replace h:=kj (ops:=_) [(15,_),(16,_),(17,_),(18,_),(19,_),(20,_),(21,_),(22,_),(23,_),(24,_),(25,_),(26,_),(27,_),(28,.func (.func 182) #[] #[.pointer (some ⟨VO (vl6 13),0,none⟩)]),(29,_),(30,_)] h hs9 hd9 hr ⟨(hv 0 15 rfl).trans (hF 0 rfl),(hv 1 16 rfl).trans (hF 1 rfl),(hv 2 17 rfl).trans (hF 2 rfl),(hv 3 18 rfl).trans (hF 3 rfl),(hv 4 19 rfl).trans (hF 4 rfl),(hv 5 20 rfl).trans (hF 5 rfl),(hv 6 21 rfl).trans (hF 6 rfl),(hv 7 22 rfl).trans (hF 7 rfl),(hv 8 23 rfl).trans (hF 8 rfl),(hv 9 24 rfl).trans (hF 9 rfl),(hv 10 25 rfl).trans (hF 10 rfl),(hv 11 26 rfl).trans (hF 11 rfl),(hv 12 27 rfl).trans (hF 12 rfl),(hv 13 28 rfl).trans (hF 13 rfl),(hv 14 29 rfl).trans (hF 14 rfl),(hv 15 30 rfl).trans (hF 15 rfl),trivial⟩ (by kernel_rfl)
     refine aK (cr h rfl (λhc=>?_) (λhc=>?_))
     ·refine bJ ac 1 h rfl λf h=>av8 (bh (aU (aU (bh (aU (aA rfl h s rfl (by show _=_;rw [lA hkl ((Hw k0 k1).trans hc)]<;>rfl)))))))
     ·refine wpIn_skip (bo (aK (aG (am h (bY (h.ev rfl) (h.ev rfl) (by omega)) rfl λf h=>e9 ac 1 h rfl λf h=>?_))))
      have hb9:nr l k=false:=(Hw k0 k1).trans hc
      exact ⟨_,by omega,⟨k+1,h.only ⟨rfl,rfl,rfl,aD rfl (by omega),trivial⟩,St.as (s.pick _ (at3 [_] _)) trivial,rfl,by omega,gY hp1 hb9⟩⟩
    ·refine cQ 16 h (by kernel_rfl) (ar ac 1 h rfl λf h=>ao (ae (aF.of_own s 0 rfl) 0 (cf _)) h bu rfl rfl λf h=>zC ac h rfl k0 λf h=>ar ac 2 h rfl λf h=>bD h rfl (ao (ae (aF.of_own s 0 rfl) 0 (cf _)) h bu rfl rfl λf h=>bD h rfl (ot ac h rfl k1 λf h=>ar ac 9 h rfl λf h=>bK s λw1 s=>gh h rfl (bJ ac 1 h rfl λf h=>av8 (bh (aU (aU (bh (aU (aA rfl h s rfl (by show _=_;rw [lA hkl (Sf k1)]<;>rfl)))))))))))
   ·refine cQ 16 h (by kernel_rfl) (ar ac 1 h rfl λf h=>ao (ae (aF.of_own s 0 rfl) 0 (cf _)) h bu rfl rfl λf h=>ot ac h rfl k0 λf h=>ar ac 13 h rfl λf h=>bK s λw1 s=>gh h rfl (bJ ac 1 h rfl λf h=>av8 (bh (aU (aU (bh (aU (aA rfl h s rfl (by show _=_;rw [lA hkl (SW k0)]<;>rfl)))))))))
  ·refine aw0 (ba (ba (cj (aK (bJ ac 1 h rfl λf h=>av8 (aA rfl h s rfl (by show _=_;rw [yT hl16 (λj hj=>hp1 j (by omega))]<;>rfl)))))))
theorem jb (a b:Id) (w:World):Calls Tryz.prog 195 [kF a,kF b].toArray w (cd w (is (.int .i64 (gr a b)))):=by
 refine bN Tryz.func195 rfl Tryz.ntmps195 rfl λf h s=>qr (aZ (aI a) h s rfl rfl rfl λf w1 b2 h s=>aZ (aI b) h s rfl rfl rfl λf w1 b3 h s=>e9 ac 1 h rfl λf h=>ah (bJ ac 1 h rfl λf h=>av9 (aw1 (λnn aa ww=>∃ k:Nat,Sl 24 aa [(0,kF a),(1,kF b),(2,.pointer (some ⟨b2,0,none⟩)),(3,.pointer (some ⟨b3,0,none⟩)),(6,.int .i64 (k:Int))]/\St w [.blk b3 (.cells (aI b) 33),.blk b2 (.cells (aI a) 33)] ww/\nn=32 - k/\k<=32/\a.toNat / 256 ^ (32 - k)=b.toNat / 256 ^ (32 - k)) (32 - (0)) ⟨0,h.only ⟨rfl,rfl,rfl,rfl,aD rfl (by omega),trivial⟩,s.as ⟨rfl,rfl,trivial⟩,rfl,by omega,GU a b⟩ ?_)))
 rintro _ f w1 ⟨k,h,s,hnn,hp0,hp1⟩
 refine bJ ac 1 h rfl λf h=>ah (dA h rfl (λhc=>?_) (λhc=>?_))
 ·refine kt (ah (av9 (bJ ac 2 h rfl λf h=>ah (cQ 7 h (by kernel_rfl) (ar ac 1 h rfl λf h=>av h (mu (k) az3 i4 (h.ev rfl) (h.ev rfl) (by omega) (by omega)) rfl λf h=>fA 1 h s qV rfl rfl (er _ _ (by omega)) rfl λf h=>ar ac 1 h rfl λf h=>av h (mu (k) az3 i4 (h.ev rfl) (h.ev rfl) (by omega) (by omega)) rfl λf h=>fA 0 h s qV rfl rfl (er _ _ (by omega)) rfl λf h=>ar ac 1 h rfl λf h=>bK s λw1 s=>nt (dA h rfl (λhc=>?_) (λhc=>?_)))))))
  ·refine ah (cQ 8 h (by kernel_rfl) (ar ac 1 h rfl λf h=>av h (mu (k) az3 i4 (h.ev rfl) (h.ev rfl) (by omega) (by omega)) rfl λf h=>fA 1 h s qV rfl rfl (er _ _ (by omega)) rfl λf h=>ar ac 1 h rfl λf h=>av h (mu (k) az3 i4 (h.ev rfl) (h.ev rfl) (by omega) (by omega)) rfl λf h=>fA 0 h s qV rfl rfl (er _ _ (by omega)) rfl λf h=>bj h TD (λw9 hE9=>HQ _ _ w9) rfl rfl λf h=>ar ac 1 h rfl λf h=>bK s λw1 s=>nt (av8 (bh (aU (aU (bh (aU (aA rfl h s rfl (by show _=_;rw [Tb a b k (by omega) hp1 hc]))))))))))
  ·refine wpIn_skip (bo (aK (aG (am h (bY (h.ev rfl) (h.ev rfl) (by omega)) rfl λf h=>e9 ac 1 h rfl λf h=>?_))))
   exact ⟨_,by omega,⟨k+1,h.only ⟨rfl,rfl,rfl,rfl,aD rfl (by omega),trivial⟩,St.as s ⟨rfl,rfl,trivial⟩,rfl,by omega,HZ a b k (by omega) hp1 (by omega)⟩⟩
 ·refine aw0 (ba (ba (cj (aK (bJ ac 1 h rfl λf h=>av8 (aA rfl h s rfl (by show _=_;rw [Qd a b k (by omega) hp1,Fa])))))))
theorem AY (x y:Mb) (x9:Id) (bx:Nat) (w:World) (hb:iX w bx (aI x9)):Calls Tryz.prog 194 [.agg (ay x),.agg (ay y),.pointer (some ⟨bx,0,none⟩)].toArray w (cd w (is (.int .i64 (gr (x.2 - x9) (y.2 - x9))))):=by
 refine bN Tryz.func194 rfl Tryz.ntmps194 rfl λf h s=>qr (aZ ((ay x)) h s rfl rfl rfl λf w1 b3 h s=>aZ ((ay y)) h s rfl rfl rfl λf w1 b4 h s=>e9 ac 1 h rfl λf h=>ah (cQ 10 h (by kernel_rfl) (aE (aF.subL (aF.of_tab (hb.keep s.ext)) 0 32 (D:=aI x9) (uC _)) h ca rfl (by first|exact aC _|exact aB _ _) rfl λf h=>ar ac 1 h rfl λf h=>aE (aF.subL (aF.of_own s 1 rfl) 1 32 (D:=aI (_)) (c8 _)) h ca rfl (by first|exact aC _|exact aB _ _) rfl λf h=>bj h xd (λw9 hE9=>qD _ _ w9) rfl rfl λf h=>aE (aF.subL (aF.of_tab (hb.keep s.ext)) 0 32 (D:=aI x9) (uC _)) h ca rfl (by first|exact aC _|exact aB _ _) rfl λf h=>ar ac 1 h rfl λf h=>aE (aF.subL (aF.of_own s 0 rfl) 1 32 (D:=aI (_)) (c8 _)) h ca rfl (by first|exact aC _|exact aB _ _) rfl λf h=>bj h xd (λw9 hE9=>qD _ _ w9) rfl rfl λf h=>bj h vv (λw9 hE9=>jb _ _ w9) rfl rfl λf h=>ar ac 1 h rfl λf h=>bK s λw1 s=>nt (av8 (aA rfl h s rfl (rfl))))))
theorem LR (l:List Mb) (vh:Value) (x9:Id) (bx:Nat) (w:World) (hR:br w vh 33 l.length (ap l)) (hln:l.length<=1000) (hb:iX w bx (aI x9)) (h0:0<l.length):Calls Tryz.prog 123 [vh,.func (.func 194) #[] #[.pointer (some ⟨bx,0,none⟩)]].toArray w (cd w (is (.agg (ay (kr (yB x9) l (l.length - 1)))))):=by
 refine bN Tryz.func123 rfl Tryz.ntmps123 rfl λf h s=>qr (aO (ay bz) h s eV rfl rfl λf w1 b4 h s=>nt (ah (cw ac 1 h rfl λf h=>bT h (hR.keep s.ext) aD1 rfl rfl λf h=>e9 ac 1 h rfl λf h=>cr h rfl (λhc=>?_) (λhc=>?_))))
 ·replace hc:=ar4 hc
  exfalso;omega
 ·refine kt (cw ac 1 h rfl λf h=>am h (bg (hR.keep s.ext) (0) aD1 ed (h.ev rfl) (h.ev rfl) (by omega) (by omega)) rfl λf h=>az ((hR.keep s.ext).el (0) (by omega) (by decide) (D:=ay (l.getD 0 bz)) (fu l 0 h0)) h aY rfl (ai _) rfl λf h=>aO (ay bz) h s eV rfl rfl λf w1 b5 h s=>aj 0 h s aY rfl rfl rfl (ai _) (ai _) (bI _) λw1 s=>nt (ah (bJ ac 1 h rfl λf h=>av9 (aw1 (λnn aa ww=>∃ k:Nat,Sl 33 aa [(0,vh),(4,.pointer (some ⟨b4,0,none⟩)),(5,.pointer (some ⟨b5,0,none⟩)),(1,.func (.func 194) #[] #[.pointer (some ⟨bx,0,none⟩)]),(6,.int .i64 ((k:Int)+1))]/\St w [.blk b5 (.cells (ay (kr (yB x9) l k)) 69),.blk b4 (.cells (ay bz) 69)] ww/\nn=l.length - k/\k+1<=l.length) (l.length - (0)) ⟨0,h.only ⟨rfl,rfl,rfl,rfl,rfl,trivial⟩,s.as ⟨rfl,rfl,trivial⟩,rfl,by omega⟩ ?_))))
  rintro _ f w1 ⟨k,h,s,hnn,hp0⟩
  refine ah (cw ac 2 h rfl λf h=>bT h (hR.keep s.ext) aD1 rfl rfl λf h=>e9 ac 1 h rfl λf h=>dA h rfl (λhc=>?_) (λhc=>?_))
  ·refine kt (ah (av9 (ah (cQ 8 h (by kernel_rfl) (ar ac 2 h rfl λf h=>?_)))))
   have hkl:k+1<l.length:=by omega
   refine ar ac 1 h rfl λf h=>av h (bg (hR.keep s.ext) (k+1) aD1 ed (h.ev rfl) (h.ev rfl) (by omega) (by omega)) rfl λf h=>aE ((hR.keep s.ext).el (k+1) (by omega) (by decide) (D:=ay (l.getD (k+1) bz)) (fu l (k+1) hkl)) h aY rfl (ai _) rfl λf h=>aX 0 h s aY rfl rfl (ai _) rfl λf h=>vE [.agg (ay (l.getD (k+1) bz)),.agg (ay (kr (yB x9) l k))] (caps:=[.pointer (some ⟨bx,0,none⟩)]) h Uw rfl (λw9 h9=>AY _ _ x9 bx w9 (hb.keep (s.ext.trans h9))) rfl rfl ?_;intro f h
   refine av h (a8 (.bool (decide (fd x9 (l.getD (k+1) bz).2<fd x9 (kr (yB x9) l k).2))) (KO (h.ev rfl) (h.ev rfl)) (ar8 Value.bool (NR _ _ _))) rfl λf h=>bK s λw1 s=>nt (dA h rfl (λhc=>?_) (λhc=>?_))
   ·refine rs ac 2 h rfl λf h=>am h (bg (hR.keep s.ext) (k+1) aD1 ed (h.ev rfl) (h.ev rfl) (by omega) (by omega)) rfl λf h=>az ((hR.keep s.ext).el (k+1) (by omega) (by decide) (D:=ay (l.getD (k+1) bz)) (fu l (k+1) hkl)) h aY rfl (ai _) rfl λf h=>aj 0 h s aY rfl rfl rfl (ai _) (ai _) (bI _) λw1 s=>aw (bo (aK (rs ac 1 h rfl λf h=>am h (bY (h.ev rfl) (h.ev rfl) (by omega)) rfl λf h=>e9 ac 1 h rfl λf h=>?_)))
    exact ⟨_,by omega,⟨k+1,h.only ⟨rfl,rfl,rfl,rfl,aD rfl (by omega),trivial⟩,St.as s ⟨gF (ar8 ay (G2 (f:=yB x9) hc).symm),rfl,trivial⟩,rfl,by omega⟩⟩
   ·refine wpIn_skip (bo (aK (rs ac 1 h rfl λf h=>am h (bY (h.ev rfl) (h.ev rfl) (by omega)) rfl λf h=>e9 ac 1 h rfl λf h=>?_)))
    exact ⟨_,by omega,⟨k+1,h.only ⟨rfl,rfl,rfl,rfl,aD rfl (by omega),trivial⟩,St.as s ⟨gF (ar8 ay (PI (f:=yB x9) hc).symm),rfl,trivial⟩,rfl,by omega⟩⟩
  ·refine aw0 (ba (ba (cj (aK (qr (ak 0 h s aY rfl rfl (ai _) rfl λf h=>aj 1 h s aY rfl rfl rfl (ai _) (ai _) (bI _) λw1 s=>nt (av8 (iP 1 rfl h s aY rfl rfl (ai _) ((by obtain rfl:k=l.length - 1:=(by omega);exact rfl))))))))))
theorem FI (l:List Mb) (vh:Value) (x9:Id) (w:World) (hR:br w vh 33 l.length (ap l)) (hln:l.length<=1000):Calls Tryz.prog 71 [vh,kF x9].toArray w (cd w (is (.tuple #[.agg (ay (fl l x9)),.int .i64 (u0 l)]))):=by
 refine bN Tryz.func71 rfl Tryz.ntmps71 rfl λf h s=>qr (aZ (aI x9) h s rfl rfl rfl λf w1 b3 h s=>aO (ay bz) h s eV rfl rfl λf w1 b4 h s=>e9 ac 1 h rfl λf h=>ah (ah ?_))
 refine rs ac 1 h rfl λf h=>eC h s Re (uF l vh _ (hR.keep s.ext) hln) rfl rfl (λhr f w1 h s=>?_) (λhr f w1 h s=>?_)
 ·refine e9 ac 1 h rfl λf h=>dw h rfl (qr (am h (oo AK) rfl λf h=>aj 0 h s aY rfl rfl rfl (ai _) (ai _) (bI _) λw1 s=>e9 ac 1 h rfl λf h=>rt (bL 0 rfl h s aY rfl rfl (ai _) rfl (by show _=_;rw [(DX x9 hr).1,(DX x9 hr).2]<;>rfl))))
 ·refine e9 ac 1 h rfl λf h=>mQ h rfl (ah (cw ac 1 h rfl λf h=>bT h (hR.keep s.ext) aD1 rfl rfl λf h=>e9 ac 1 h rfl λf h=>dA h rfl (λhc=>?_) (λhc=>?_)))
  ·have h0:l.length=0:=by omega
   refine qr (am h (oo AK) rfl λf h=>aj 0 h s aY rfl rfl rfl (ai _) (ai _) (bI _) λw1 s=>e9 ac 1 h rfl λf h=>rt (bL 0 rfl h s aY rfl rfl (ai _) rfl (by show _=_;rw [(zO x9 hr h0).1,(zO x9 hr h0).2]<;>rfl)))
  ·have h0:¬ l.length=0:=by omega
   refine kt (cw ac 1 h rfl λf h=>ak 1 h s ca rfl rfl (by first|exact aC _|exact aB _ _) rfl λf h=>bB h s UG (F6 x9 _) rfl rfl ?_);rintro f w1 v16 ⟨bx,rfl,hbx⟩ hE h s
   refine dM h s U4 (LR l vh x9 bx _ (hR.keep s.ext) hln hbx (by omega)) rfl rfl λf w1 h s=>aj 0 h s aY rfl rfl rfl (ai _) (ai _) (bI _) λw1 s=>e9 ac 1 h rfl λf h=>av8 (bL 0 rfl h s aY rfl rfl (ai _) rfl (by show _=_;rw [(Ji x9 hr h0).1,(Ji x9 hr h0).2]<;>rfl))
theorem A4 (x a b:Id) (w:World):Calls Tryz.prog 250 [kF x,kF a,kF b].toArray w (cd w (is (.bool (x8 x a b)))):=by
 refine bN Tryz.func250 rfl Tryz.ntmps250 rfl λf h s=>qr (aZ (aI x) h s rfl rfl rfl λf w1 b3 h s=>aZ (aI a) h s rfl rfl rfl λf w1 b4 h s=>aZ (aI b) h s rfl rfl rfl λf w1 b5 h s=>e9 ac 1 h rfl λf h=>ah (qr (ak 1 h s ca rfl rfl (by first|exact aC _|exact aB _ _) rfl λf h=>ak 0 h s ca rfl rfl (by first|exact aC _|exact aB _ _) rfl λf h=>am h (cZ fE (h.ev rfl) (h.ev rfl)) rfl λf h=>nt (cr h rfl (λhc=>?_) (λhc=>?_)))))
 ·have hc:=ar4 hc
  refine bJ ac 1 h rfl λf h=>rt (aA rfl h s rfl (by show _=_;subst hc;rw [Ku]))
 ·have hc:=ar5 hc
  refine kt (ah ?_)
  cases hx:(decide (x≠a):Bool)
  ·refine cQ 14 h (by kernel_rfl) (aX 2 h s ca rfl rfl (by first|exact aC _|exact aB _ _) rfl λf h=>aX 1 h s ca rfl rfl (by first|exact aC _|exact aB _ _) rfl λf h=>av h (a8 (.bool false) (lW fE (h.ev rfl) (h.ev rfl)) (ar8 Value.bool hx)) rfl λf h=>ar ac 11 h rfl λf h=>bK s λw1 s=>nt (av8 (aA rfl h s rfl (by show _=_;unfold x8;rw [hx];simp [hc]))))
  ·refine cQ 14 h (by kernel_rfl) (aX 2 h s ca rfl rfl (by first|exact aC _|exact aB _ _) rfl λf h=>aX 1 h s ca rfl rfl (by first|exact aC _|exact aB _ _) rfl λf h=>av h (a8 (.bool true) (lW fE (h.ev rfl) (h.ev rfl)) (ar8 Value.bool hx)) rfl λf h=>ar ac 1 h rfl λf h=>bD h rfl (aX 1 h s ca rfl rfl (by first|exact aC _|exact aB _ _) rfl λf h=>bD h rfl (aX 2 h s ca rfl rfl (by first|exact aC _|exact aB _ _) rfl λf h=>bD h rfl (bj h xd (λw9 hE9=>qD _ _ w9) rfl rfl λf h=>bD h rfl (aX 1 h s ca rfl rfl (by first|exact aC _|exact aB _ _) rfl λf h=>bD h rfl (aX 0 h s ca rfl rfl (by first|exact aC _|exact aB _ _) rfl λf h=>bD h rfl (bj h xd (λw9 hE9=>qD _ _ w9) rfl rfl λf h=>bD h rfl (bj h vv (λw9 hE9=>jb _ _ w9) rfl rfl λf h=>bD h rfl (av h (a8 (.bool (decide ((x - a).toNat<=(b - a).toNat))) (wq (h.ev rfl) (h.ev rfl)) (ar8 Value.bool (OF _ _))) rfl λf h=>ar ac 2 h rfl λf h=>bK s λw1 s=>nt (av8 (aA rfl h s rfl (by show _=_;unfold x8;rw [hx];simp [hc]))))))))))))
end Go.Proofs.YtkhepdpfdhdlaaaGreatDoor
