/- Package ring and what it stands on, so far as it is wanted: what each function answers. -/
import Derived.Test.YthmlflaiidhoiaaGreatDoorZl
import Derived.Test.YthmlflaiidhoiaaGreatDoorZe
import Derived.Test.YthmlflaiidhoiaaGreatDoorZo
import Derived.Test.YthmlflaiidhoiaaGreatDoorZa
set_option linter.unusedVariables false
set_option linter.unusedSimpArgs false
set_option linter.unusedSectionVars false
namespace Go.Proofs.YthmlflaiidhoiaaGreatDoor
open Go.RowKit
theorem BC (l:List Mb) (vh:Value) (no:Int) (w:World) (hR:a7 w vh 33 l.length (aj l)) (hln:l.length<=1000):Calls Tryz.prog 83 [vh,.int .i64 no].toArray w (bW w (is (.tuple #[.agg (ar (F3 l no)),.int .i64 (iy l no)]))):=by
 refine bG Tryz.func83 rfl Tryz.ntmps83 rfl λf h s=>qr (aK (ar aS) h s cQ rfl rfl λf w1 b4 h s=>e9 ac 1 h rfl λf h=>cw ac 2 h rfl λf h=>fP h s IB (yV l vh no _ (hR.keep s.ext) hln) rfl rfl λf w1 h s=>ap ac 3 h rfl λf h=>aK (ar aS) h s cQ rfl rfl λf w1 b6 h s=>am 0 h s aI rfl rfl rfl (ae _) (ae _) (aP _) λw1 s=>e9 ac 1 h rfl λf h=>ag (bD ac 2 h rfl λf h=>cT h rfl (λhc=>?_) (λhc=>?_)))
 ·have h0:¬ iy l no=0:=by simpa using hc
  refine qr (ak h (gm sO) rfl λf h=>ap ac 1 h rfl λf h=>am 1 h s aI rfl rfl rfl (ae _) (ae _) (aP _) λw1 s=>e9 ac 1 h rfl λf h=>rt (cc 1 rfl h s aI rfl rfl (ae _) rfl (by show _=_;rw [Sk h0]<;>rfl)))
 ·have h0:iy l no=0:=by simpa using hc
  obtain ⟨hr,hg,hf,hm,hno⟩:=LN h0
  refine kt (cw ac 2 h rfl λf h=>ax (aX.subL (aX.of_own s 0 rfl) 1 32 (D:=aJ (_)) (cz _)) h bO rfl (by first|exact az _|exact ay _ _) rfl λf h=>bg h s La (pN (fJ l no).2 _) rfl rfl ?_);rintro f w1 v21 ⟨bx,rfl,hbx⟩ hE h s
  refine fP h s Ur (JL l vh (fJ l no).2 bx _ (hR.keep s.ext) hln hbx (gP hm)) rfl rfl λf w1 h s=>am 1 h s aI rfl rfl rfl (ae _) (ae _) (aP _) λw1 s=>e9 ac 1 h rfl λf h=>au3 (cc 1 rfl h s aI rfl rfl (ae _) rfl (by show _=_;rw [Ht h0,h0]<;>rfl))
theorem GW (x9:Id) (l:List Mb) (vh:Value) (w:World) (hR:a7 w vh 33 l.length (aj l)) (hln:l.length<=1000) (hg:Rg l):Calls Tryz.prog 138 [kL x9,vh].toArray w (bW w (λv w'=>cd w' w.heap.size 60 33 v l.length (aj (fW x9 l)))):=by
 refine bG Tryz.func138 rfl Tryz.ntmps138 rfl λf h s=>qr (ba (aJ x9) h s rfl rfl rfl λf w1 b2 h s=>e9 ac 1 h rfl λf h=>ag (jC 0 3 [[],[0],[],[0,1,2],[0,1,2,3],[0,1,2,3,4]] [[],[],[],[],[],[]] [] [.v _,.r (λv=>[.blk (LD (v 1)) (.cells #[vh] 61)]) (λv=>v 1=.func (.func 243) #[] #[.pointer (some ⟨LD (v 1),0,none⟩)]),.v (.agg (aJ x9)),.n,.n,.n] _ h s rfl (by kernel_rfl) (by kernel_rfl) (by kernel_rfl) (iG ac h rfl rfl rfl (cq ?_ (cq ?_ (trivial)))) [0,1,2] (by kernel_rfl) ?_))
 ·intro f9 w2 vl1 E9 hs9 hd9 hl hF s
  have h:=cJ [(5,_)] h hs9 hd9 ⟨bp hl 5 0 (by kernel_rfl) (hF 0 (by decide)),trivial⟩
  refine df [vh] h Io (qA l vh _ _ _ s (hR.keep s.ext)) rfl rfl ?_;rintro f w1 r ⟨bx,rfl,s⟩ h
  exact aE ⟨_,bq 6 h rfl rfl,rfl,s⟩
 ·intro f9 w2 vl1 E9 hs9 hd9 hl hF s
  have h:=cJ [(2,_)] h hs9 hd9 ⟨gp hl 2 (by kernel_rfl) (h.holds 2 _ rfl),trivial⟩
  refine al 0 h s bO rfl rfl (by first|exact az _|exact ay _ _) rfl λf h=>aE ⟨_,bq 7 h rfl rfl,rfl,s⟩
 intro f w1 vl1 hs9 hd9 hv hr hF s
 replace hv:=λi d h9=>hv i d (show Nat.blt i 3=true from h9)
 replace h:=jx 3 (ops:=_) [(5,_),(6,.func (.func 243) #[] #[.pointer (some ⟨LD (vl1 1),0,none⟩)]),(7,_)] h hs9 hd9 hr ⟨(hv 0 5 rfl rfl).trans (hF 0 rfl),(hv 1 6 rfl rfl).trans (hF 1 rfl),(hv 2 7 rfl rfl).trans (hF 2 rfl),trivial⟩ (by kernel_rfl)
 replace s:St w [.blk (LD (vl1 1)) (.cells #[vh] 61),.blk b2 (.cells (aJ x9) 42)] _:=s
 refine bg h s La (pN x9 _) rfl rfl ?_;rintro f w1 v8 ⟨bx,rfl,hbx⟩ hE h s
 refine bg h s TA (AX l vh (LD (vl1 1)) bx x9 _ (hR.keep s.ext) hln hg (jA.of_own s 0 rfl) hbx) rfl rfl ?_;intro f w1 vr hT hE h sq;replace s:=s.sl_new hE hT
 refine e9 ac 1 h rfl λf h=>au3 (aA rfl h s rfl ((s.getSl 0 rfl)))
theorem Fm (l:List Mb) (vh:Value) (no many:Int) (w:World) (hR:a7 w vh 33 l.length (aj l)) (hln:l.length<=1000):Calls Tryz.prog 84 [vh,.int .i64 no,.int .i64 many].toArray w (bW w (λv w'=>∃ v8,v=.tuple #[v8,.int .i64 (q8 l no many)]/\cd w' w.heap.size 60 33 v8 (uD l no many).length (aj (uD l no many)))):=by
 refine bG Tryz.func84 rfl Tryz.ntmps84 rfl λf h s=>bD ac 2 h rfl λf h=>ag (ag ?_)
 refine rs ac 1 h rfl λf h=>kJ ac h rfl (λm0 f h=>?_) (λm0 f h=>?_)
 ·skip
  refine ap ac 2 h rfl λf h=>cg h rfl (kJ ac h rfl (λm1 f h=>?_) (λm1 f h=>?_))
  ·refine e9 ac 1 h rfl λf h=>ry h rfl (qr ?_)
   have hm0:=aq0 m0
   have hm1:=aq0 m1
   obtain ⟨m9,hm9⟩:∃ m9:Nat,many=(m9:Int):=⟨many.toNat,by omega⟩
   have hae:=zb (l:=l) (no:=no) (show 0<=many by omega) (show many<=16 by omega)
   refine ap ac 2 h rfl λf h=>bg h s IB (yV l vh no _ (hR.keep s.ext) hln) rfl rfl ?_;intro f w1 v9 hT hE h s;obtain rfl:=hT
   refine ap ac 3 h rfl λf h=>aK (ar aS) h s cQ rfl rfl λf w1 b8 h s=>am 0 h s aI rfl rfl rfl (ae _) (ae _) (aP _) λw1 s=>e9 ac 1 h rfl λf h=>ag (bD ac 2 h rfl λf h=>cT h rfl (λhc=>?_) (λhc=>?_))
   ·have h0:¬ iy l no=0:=by simpa using hc
    refine bD ac 3 h rfl λf h=>rt (gC rfl h s rfl rfl (ri (MO (λh9=>h0 (hae▸h9))) hae (dT _ _ _ _)))
   ·have h0:iy l no=0:=by simpa using hc
    obtain ⟨hr,hg,hf,hm,hno⟩:=LN h0
    refine kt (cw ac 1 h rfl λf h=>ax (aX.subL (aX.of_own s 0 rfl) 1 32 (D:=aJ (_)) (cz _)) h bO rfl (by first|exact az _|exact ay _ _) rfl λf h=>ap ac 1 h rfl λf h=>bg h s VA (GW (fJ l no).2 l vh _ (hR.keep s.ext) hln hg) rfl rfl ?_);intro f w1 vr hT hE h sq;replace s:=s.sl_new hE (hT.seq (ky (fJ l no).2 l).symm rfl)
    refine e9 ac 1 h rfl λf h=>cw ac 1 h rfl λf h=>FH (n:=m9) (xs:=aj (r4 l (fJ l no) m9 0)) h s aA6 im cQ rfl rfl (hm9) (by omega) (by unfold maxLen;omega) ((Ms _).trans (by rw [FB])) (by rw [fo,um _ _ (as3 _)]) rfl ?_;intro f w1 v33 h s
    refine e9 ac 1 h rfl λf h=>ag (cw ac 1 h rfl λf h=>eF 0 h s aA6 rfl rfl rfl λf h=>e9 ac 1 h rfl λf h=>au4 (au6 (λnn aa ww=>∃ k:Nat,Sl 52 aa [(0,vh),(1,.int .i64 no),(2,.int .i64 many),(8,.pointer (some ⟨b8,0,none⟩)),(31,vr),(33,v33),(10,vr),(11,v33),(34,v33),(35,.int .i64 (m9:Int)),(36,.int .i64 (k:Int))]/\St w [.sl v33 60 33 m9 (aj (r4 l (fJ l no) m9 k)),.sl vr 60 33 (fW (fJ l no).2 l).length (aj (fW (fJ l no).2 l)),.blk b8 (.cells (ar (fJ l no)) 60)] ww/\nn=m9 - k/\k<=m9) (m9 - (0)) ⟨0,h.only ⟨rfl,rfl,rfl,rfl,rfl,rfl,rfl,rfl,rfl,rfl,rfl,trivial⟩,s.as ⟨rfl,rfl,rfl,trivial⟩,rfl,as3 _⟩ ?_))
    rintro _ f w1 ⟨k,h,s,hnn,hp0⟩
    refine bD ac 1 h rfl λf h=>ag (cZ h rfl (λhc=>?_) (λhc=>?_))
    ·refine kt (ag (au4 (bD ac 2 h rfl λf h=>rs ac 4 h rfl λf h=>?_)))
     have hkl:k<m9:=by omega
     have hpos:=gP hm
     have hml:=ax6 (k+1) hpos
     have hrl:=ky (fJ l no).2 l
     refine ak h (bk (.int .i64 ((k+1:Nat):Int)) (bB (h.ev rfl) (h.ev rfl) (by omega)) (aq3 (Value.int .i64) (by omega))) rfl λf h=>ap ac 1 h rfl λf h=>eF 1 h s aA6 rfl rfl rfl λf h=>ak h (bk (.int .i64 (((k+1) % l.length:Nat):Int)) (HL (h.ev rfl) (h.ev rfl) (by omega)) (aq3 (Value.int .i64) (by rw [ky];exact(Int.natCast_emod _ _).symm))) rfl λf h=>ak h (bj (a7.of_own (s.getSl 1 rfl)) ((k+1) % l.length) aA6 dd (h.ev rfl) (h.ev rfl) (rfl) (by omega)) rfl λf h=>ax ((a7.of_own (s.getSl 1 rfl)).el ((k+1) % l.length) (by omega) (by decide) (D:=ar (jz l (fJ l no) (k+1))) ((dI _ _ (by omega)).trans (by rw [kY hg hm]))) h aI rfl (ae _) rfl λf h=>ak h (bj (a7.of_own (s.getSl 0 rfl)) (k) aA6 dd (h.ev rfl) (h.ev rfl) (rfl) (by omega)) rfl λf h=>fX 0 (k) h s aI rfl rfl rfl (ae _) (by omega) (aP _) ((ID (l:=(r4 l (fJ l no) m9 k)) _ (by rw [um _ _ (by omega)];exact hkl)).trans (by rw [GQ _ _ hkl])) λw1 s=>aE (aW (aG (aC (ak h (bB (h.ev rfl) (h.ev rfl) (by omega)) rfl λf h=>e9 ac 1 h rfl λf h=>?_))))
     exact ⟨_,by omega,⟨k+1,h.only ⟨rfl,rfl,rfl,rfl,rfl,rfl,rfl,rfl,rfl,rfl,aw rfl (by omega),trivial⟩,St.as s ⟨rfl,rfl,rfl,trivial⟩,rfl,by omega⟩⟩
    ·refine au5 (aT (aT (bS (aG (bD ac 3 h rfl λf h=>au3 (gC rfl h s rfl rfl (ri (NB hm9 hae h0) (hae.trans h0) (by obtain rfl:k=m9:=(by omega);rw [← KX,um _ _ (as1 _)];exact(s.getSl 0 rfl)))))))))
  ·refine e9 ac 1 h rfl λf h=>dF h rfl (bD ac 2 h rfl λf h=>rt (gC rfl h s rfl rfl (ri (rC (.inr (ap9 m1))).2 (rC (.inr (ap9 m1))).1 (dT _ _ _ _))))
 ·refine e9 ac 4 h rfl λf h=>dF h rfl (bD ac 2 h rfl λf h=>rt (gC rfl h s rfl rfl (ri (rC (.inl (ap9 m0))).2 (rC (.inl (ap9 m0))).1 (dT _ _ _ _))))
end Go.Proofs.YthmlflaiidhoiaaGreatDoor
