/- Package ring and what it stands on, so far as it is wanted: what each function answers. -/
import Derived.Test.YthmlflaiidhoiaaGreatDoorZe
import Derived.Test.YthmlflaiidhoiaaGreatDoorZa
set_option linter.unusedVariables false
set_option linter.unusedSimpArgs false
set_option linter.unusedSectionVars false
namespace Go.Proofs.YthmlflaiidhoiaaGreatDoor
open Go.RowKit
theorem qe (l:List Mb) (vh:Value) (w:World) (hR:a7 w vh 33 l.length (aj l)) (hln:l.length<=1000):Calls Tryz.prog 37 [vh].toArray w (bW w (is (.bool (c8 l)))):=by
 refine bG Tryz.func37 rfl Tryz.ntmps37 rfl λf h s=>bD ac 1 h rfl λf h=>ag (cw ac 1 h rfl λf h=>cb h (hR.keep s.ext) aA6 rfl rfl λf h=>e9 ac 1 h rfl λf h=>cZ h rfl (λhc=>?_) (λhc=>?_))
 ·refine bD ac 1 h rfl λf h=>rt (aA rfl h s rfl (by show _=_;rw [yA (by omega)]<;>rfl))
 ·have hl16:l.length<=16:=by omega
  refine kt (ag (cw ac 1 h rfl λf h=>cb h (hR.keep s.ext) aA6 rfl rfl λf h=>e9 ac 1 h rfl λf h=>au4 (au6 (λnn aa ww=>∃ k:Nat,Sl 32 aa [(0,vh),(8,vh),(9,.int .i64 (l.length:Int)),(10,.int .i64 (k:Int))]/\St w [] ww/\nn=l.length - k/\k<=l.length/\∀ j,j<k->oC l j=false) (l.length - (0)) ⟨0,h.only ⟨rfl,rfl,rfl,aw rfl (by omega),trivial⟩,s.as trivial,rfl,as3 _,λj hj=>ax7 hj (av6 _)⟩ ?_)))
  rintro _ f w1 ⟨k,h,s,hnn,hp0,hp1⟩
  refine bD ac 1 h rfl λf h=>ag (cZ h rfl (λhc=>?_) (λhc=>?_))
  ·refine kt (ag (au4 (cw ac 1 h rfl λf h=>?_)))
   have hkl:k<l.length:=by omega
   refine ak h (bj (hR.keep s.ext) (k) aA6 dd (h.ev rfl) (h.ev rfl) (by omega) (by omega)) rfl λf h=>ax ((hR.keep s.ext).el (k) (by omega) (by decide) (D:=ar (l.getD k aS)) (dI l k hkl)) h aI rfl (ae _) rfl λf h=>aK (ar aS) h s cQ rfl rfl λf w1 b4 h s=>ap ac 1 h rfl λf h=>am 0 h s aI rfl rfl rfl (ae _) (ae _) (aP _) λw1 s=>nt (ag ?_)
   cases k0:(decide ((l.getD k aS).1<0):Bool)
   ·skip
    cases k1:(decide (16<=(l.getD k aS).1):Bool)
    ·skip
     refine nI 0 [[],[0],[0,1],[0,1,2],[0,1,2,3],[0,1,2,3,4],[0,1,2,3,4,5],[0,1,2,3,4,5,6],[0,1,2,3,4,5,6,7],[0,1,2,3,4,5,6,7,8],[0,1,2,3,4,5,6,7,8],[0,1,2,3,4,5,6,7,8,9,10],[0,1,2,3,4,5,6,7,8],[0,1,2,3,4,5,6,7,8,12],[0,1,2,3,4,5,6,7,8,9,10,11,12,13],[0,1,2,3,4,5,6,7,8,9,10,11,12,13,14]] [[],[],[],[],[],[],[],[],[],[],[],[],[],[],[13],[]] [] [.v _,.v (.int .i64 (l.getD k aS).1),.v (.bool false),.v _,.v (.pointer (some ⟨b4,0,none⟩)),.v (.int .i64 (l.getD k aS).1),.v (.bool false),.v _,.v _,.v vh,.v (.int .i64 (k:Int)),.v (gG vh k),.v (.agg (ar (l.getD k aS))),.r (λv=>[.blk (LD (v 13)) (.cells (ar (l.getD k aS)) 60)]) (λv=>v 13=.func (.func 140) #[] #[.pointer (some ⟨LD (v 13),0,none⟩)]),.v (.bool ((l.take k).any (li (l.getD k aS)))),.v _] _ h s rfl (by kernel_rfl) (by kernel_rfl) (by kernel_rfl) (iG ac h rfl rfl rfl (cq ?_ (cq ?_ (iG ac h rfl rfl rfl (cq ?_ (cq ?_ (cq ?_ (iG ac h rfl rfl rfl (iG ac h rfl rfl rfl (cq ?_ (cq ?_ (cq ?_ (cq ?_ (cq ?_ (cq ?_ (iG ac h rfl rfl rfl (trivial))))))))))))))))) [0,1,2,3,4,5,6,7,8,9,10,11,12,14,15] (by kernel_rfl) ?_
     ·intro f9 w2 vl6 E9 hs9 hd9 hl hF s
      have h:=cJ [(15,_)] h hs9 hd9 ⟨bp hl 15 0 (by kernel_rfl) (hF 0 (by decide)),trivial⟩
      refine ai (ah (aX.of_own s 0 rfl) 0 (bH _)) h bQ rfl rfl λf h=>aE ⟨_,bq 16 h rfl rfl,rfl,s⟩
     ·intro f9 w2 vl6 E9 hs9 hd9 hl hF s
      have h:=cJ [(16,_)] h hs9 hd9 ⟨bp hl 16 1 (by kernel_rfl) (hF 1 (by decide)),trivial⟩
      refine jd ac h rfl k0 λf h=>aE ⟨_,bq 17 h rfl rfl,rfl,s⟩
     ·intro f9 w2 vl6 E9 hs9 hd9 hl hF s
      have h:=cJ [(4,_),(18,_)] h hs9 hd9 ⟨gp hl 4 (by kernel_rfl) (h.holds 4 _ rfl),bp hl 18 3 (by kernel_rfl) (hF 3 (by decide)),trivial⟩
      refine ap ac 1 h rfl λf h=>aE ⟨_,bq 19 h rfl rfl,rfl,s⟩
     ·intro f9 w2 vl6 E9 hs9 hd9 hl hF s
      have h:=cJ [(19,_),(18,_)] h hs9 hd9 ⟨bp hl 19 4 (by kernel_rfl) (hF 4 (by decide)),bp hl 18 3 (by kernel_rfl) (hF 3 (by decide)),trivial⟩
      refine cg h rfl (ai (ah (aX.of_own s 0 rfl) 0 (bH _)) h bQ rfl rfl λf h=>aE ⟨_,bq 20 h rfl rfl,rfl,s⟩)
     ·intro f9 w2 vl6 E9 hs9 hd9 hl hF s
      have h:=cJ [(20,_),(18,_)] h hs9 hd9 ⟨bp hl 20 5 (by kernel_rfl) (hF 5 (by decide)),bp hl 18 3 (by kernel_rfl) (hF 3 (by decide)),trivial⟩
      refine cg h rfl (jd ac h rfl k1 λf h=>aE ⟨_,bq 21 h rfl rfl,rfl,s⟩)
     ·intro f9 w2 vl6 E9 hs9 hd9 hl hF s
      have h:=cJ [(0,_),(23,_)] h hs9 hd9 ⟨gp hl 0 (by kernel_rfl) (h.holds 0 _ rfl),bp hl 23 8 (by kernel_rfl) (hF 8 (by decide)),trivial⟩
      refine ap ac 1 h rfl λf h=>aE ⟨_,bq 24 h rfl rfl,rfl,s⟩
     ·intro f9 w2 vl6 E9 hs9 hd9 hl hF s
      have h:=cJ [(3,_),(23,_)] h hs9 hd9 ⟨gp hl 3 (by kernel_rfl) (h.holds 3 _ rfl),bp hl 23 8 (by kernel_rfl) (hF 8 (by decide)),trivial⟩
      refine ap ac 1 h rfl λf h=>aE ⟨_,bq 25 h rfl rfl,rfl,s⟩
     ·intro f9 w2 vl6 E9 hs9 hd9 hl hF s
      have h:=cJ [(24,_),(25,_),(23,_)] h hs9 hd9 ⟨bp hl 24 9 (by kernel_rfl) (hF 9 (by decide)),bp hl 25 10 (by kernel_rfl) (hF 10 (by decide)),bp hl 23 8 (by kernel_rfl) (hF 8 (by decide)),trivial⟩
      refine cg h rfl (ak h (ei (hR.keep s.ext) (k) aA6 dd (h.ev rfl) (h.ev rfl) (rfl) (by omega)) rfl λf h=>aE ⟨_,bq 26 h rfl rfl,rfl,s⟩)
     ·intro f9 w2 vl6 E9 hs9 hd9 hl hF s
      have h:=cJ [(4,_),(23,_)] h hs9 hd9 ⟨gp hl 4 (by kernel_rfl) (h.holds 4 _ rfl),bp hl 23 8 (by kernel_rfl) (hF 8 (by decide)),trivial⟩
      refine cg h rfl (al 0 h s aI rfl rfl (ae _) rfl λf h=>aE ⟨_,bq 27 h rfl rfl,rfl,s⟩)
     ·intro f9 w2 vl6 E9 hs9 hd9 hl hF s
      have h:=cJ [(27,_),(23,_)] h hs9 hd9 ⟨bp hl 27 12 (by kernel_rfl) (hF 12 (by decide)),bp hl 23 8 (by kernel_rfl) (hF 8 (by decide)),trivial⟩
      refine cg h rfl (bg h s Zb (Af _ _) rfl rfl ?_);rintro f w1 v28 ⟨bx,rfl,hS⟩ hE h sq;replace s:=s.add hS;clear hS
      exact aE ⟨_,bq 28 h rfl rfl,rfl,s⟩
     ·intro f9 w2 vl6 E9 hs9 hd9 hl hF s
      have h:=cJ [(26,_),(28,.func (.func 140) #[] #[.pointer (some ⟨LD (vl6 13),0,none⟩)]),(23,_)] h hs9 hd9 ⟨bp hl 26 11 (by kernel_rfl) (hF 11 (by decide)),bp hl 28 13 (by kernel_rfl) (hF 13 (by decide)),bp hl 23 8 (by kernel_rfl) (hF 8 (by decide)),trivial⟩
      refine cg h rfl ?_
      have hbx:=jA.of_own s 0 rfl
      refine fP h s Ru (mJ (l.take k) (gG vh k) 140 [.pointer (some ⟨LD (vl6 13),0,none⟩)] (li (l.getD k aS)) _ (DB (hR.keep s.ext) k (by omega)) (by rw [au0];omega) Ud (λw9 h9 x hx=>B2 x _ (LD (vl6 13)) w9 (hbx.keep h9))) rfl rfl λf w1 h s=>aE ⟨_,bq 29 h rfl rfl,rfl,(s.pick _ (ap8 _ (ap7 _ (List.Sublist.refl _))))⟩
     intro f w1 vl6 hs9 hd9 hv hr hF s
     replace h:=mT (ops:=_) [(15,_),(16,_),(17,_),(18,_),(19,_),(20,_),(21,_),(22,_),(23,_),(24,_),(25,_),(26,_),(27,_),(28,.func (.func 140) #[] #[.pointer (some ⟨LD (vl6 13),0,none⟩)]),(29,_),(30,_)] h hs9 hd9 hr ⟨(hv 0 15 rfl).trans (hF 0 rfl),(hv 1 16 rfl).trans (hF 1 rfl),(hv 2 17 rfl).trans (hF 2 rfl),(hv 3 18 rfl).trans (hF 3 rfl),(hv 4 19 rfl).trans (hF 4 rfl),(hv 5 20 rfl).trans (hF 5 rfl),(hv 6 21 rfl).trans (hF 6 rfl),(hv 7 22 rfl).trans (hF 7 rfl),(hv 8 23 rfl).trans (hF 8 rfl),(hv 9 24 rfl).trans (hF 9 rfl),(hv 10 25 rfl).trans (hF 10 rfl),(hv 11 26 rfl).trans (hF 11 rfl),(hv 12 27 rfl).trans (hF 12 rfl),(hv 13 28 rfl).trans (hF 13 rfl),(hv 14 29 rfl).trans (hF 14 rfl),(hv 15 30 rfl).trans (hF 15 rfl),trivial⟩ (by kernel_rfl)
     refine aG (cT h rfl (λhc=>?_) (λhc=>?_))
     ·refine bD ac 1 h rfl λf h=>au3 (aY (aQ (aQ (aY (aQ (aA rfl h s rfl (by show _=_;rw [lh hkl ((L9 k0 k1).trans hc)]<;>rfl)))))))
     ·refine wpIn_skip (aW (aG (aC (ak h (bB (h.ev rfl) (h.ev rfl) (by omega)) rfl λf h=>e9 ac 1 h rfl λf h=>?_))))
      have hb9:oC l k=false:=(L9 k0 k1).trans hc
      exact ⟨_,by omega,⟨k+1,h.only ⟨rfl,rfl,rfl,aw rfl (by omega),trivial⟩,St.as (s.pick _ (ar8 [_] _)) trivial,rfl,by omega,eM hp1 hb9⟩⟩
    ·refine cK 16 h (by kernel_rfl) (aD ac 1 h rfl λf h=>bw (ah (aX.of_own s 0 rfl) 0 (bH _)) h bQ rfl rfl λf h=>sT ac h rfl k0 λf h=>aD ac 2 h rfl λf h=>cj h rfl (bw (ah (aX.of_own s 0 rfl) 0 (bH _)) h bQ rfl rfl λf h=>cj h rfl (ql ac h rfl k1 λf h=>aD ac 9 h rfl λf h=>bF s λw1 s=>iz h rfl (bD ac 1 h rfl λf h=>au3 (aY (aQ (aQ (aY (aQ (aA rfl h s rfl (by show _=_;rw [lh hkl (SR k1)]<;>rfl)))))))))))
   ·refine cK 16 h (by kernel_rfl) (aD ac 1 h rfl λf h=>bw (ah (aX.of_own s 0 rfl) 0 (bH _)) h bQ rfl rfl λf h=>ql ac h rfl k0 λf h=>aD ac 13 h rfl λf h=>bF s λw1 s=>iz h rfl (bD ac 1 h rfl λf h=>au3 (aY (aQ (aQ (aY (aQ (aA rfl h s rfl (by show _=_;rw [lh hkl (UL k0)]<;>rfl)))))))))
  ·refine au5 (aT (aT (bS (aG (bD ac 1 h rfl λf h=>au3 (aA rfl h s rfl (by show _=_;rw [zn hl16 (λj hj=>hp1 j (by omega))]<;>rfl)))))))
theorem jm (a b:Id) (w:World):Calls Tryz.prog 88 [kL a,kL b].toArray w (bW w (is (.int .i64 (eW a b)))):=by
 refine bG Tryz.func88 rfl Tryz.ntmps88 rfl λf h s=>qr (ba (aJ a) h s rfl rfl rfl λf w1 b2 h s=>ba (aJ b) h s rfl rfl rfl λf w1 b3 h s=>e9 ac 1 h rfl λf h=>ag (bD ac 1 h rfl λf h=>au4 (au6 (λnn aa ww=>∃ k:Nat,Sl 24 aa [(0,kL a),(1,kL b),(2,.pointer (some ⟨b2,0,none⟩)),(3,.pointer (some ⟨b3,0,none⟩)),(6,.int .i64 (k:Int))]/\St w [.blk b3 (.cells (aJ b) 42),.blk b2 (.cells (aJ a) 42)] ww/\nn=32 - k/\k<=32/\a.toNat / 256 ^ (32 - k)=b.toNat / 256 ^ (32 - k)) (32 - (0)) ⟨0,h.only ⟨rfl,rfl,rfl,rfl,aw rfl (by omega),trivial⟩,s.as ⟨rfl,rfl,trivial⟩,rfl,by omega,LY a b⟩ ?_)))
 rintro _ f w1 ⟨k,h,s,hnn,hp0,hp1⟩
 refine bD ac 1 h rfl λf h=>ag (cZ h rfl (λhc=>?_) (λhc=>?_))
 ·refine kt (ag (au4 (bD ac 2 h rfl λf h=>ag (cK 7 h (by kernel_rfl) (aD ac 1 h rfl λf h=>aF h (qF (k) ax8 pc (h.ev rfl) (h.ev rfl) (by omega) (by omega)) rfl λf h=>fk 1 h s x6 rfl rfl (ed _ _ (by omega)) rfl λf h=>aD ac 1 h rfl λf h=>aF h (qF (k) ax8 pc (h.ev rfl) (h.ev rfl) (by omega) (by omega)) rfl λf h=>fk 0 h s x6 rfl rfl (ed _ _ (by omega)) rfl λf h=>aD ac 1 h rfl λf h=>bF s λw1 s=>nt (cZ h rfl (λhc=>?_) (λhc=>?_)))))))
  ·refine ag (cK 8 h (by kernel_rfl) (aD ac 1 h rfl λf h=>aF h (qF (k) ax8 pc (h.ev rfl) (h.ev rfl) (by omega) (by omega)) rfl λf h=>fk 1 h s x6 rfl rfl (ed _ _ (by omega)) rfl λf h=>aD ac 1 h rfl λf h=>aF h (qF (k) ax8 pc (h.ev rfl) (h.ev rfl) (by omega) (by omega)) rfl λf h=>fk 0 h s x6 rfl rfl (ed _ _ (by omega)) rfl λf h=>bR h Sz (λw9 hE9=>IX _ _ w9) rfl rfl λf h=>aD ac 1 h rfl λf h=>bF s λw1 s=>nt (au3 (aY (aQ (aQ (aY (aQ (aA rfl h s rfl (by show _=_;rw [SB a b k (by omega) hp1 hc]))))))))))
  ·refine wpIn_skip (aW (aG (aC (ak h (bB (h.ev rfl) (h.ev rfl) (by omega)) rfl λf h=>e9 ac 1 h rfl λf h=>?_))))
   exact ⟨_,by omega,⟨k+1,h.only ⟨rfl,rfl,rfl,rfl,aw rfl (by omega),trivial⟩,St.as s ⟨rfl,rfl,trivial⟩,rfl,by omega,Ha a b k (by omega) hp1 (by omega)⟩⟩
 ·refine au5 (aT (aT (bS (aG (bD ac 1 h rfl λf h=>au3 (aA rfl h s rfl (by show _=_;rw [ON a b k (by omega) hp1,FK])))))))
theorem yV (l:List Mb) (vh:Value) (no:Int) (w:World) (hR:a7 w vh 33 l.length (aj l)) (hln:l.length<=1000):Calls Tryz.prog 136 [vh,.int .i64 no].toArray w (bW w (is (.tuple #[.agg (ar (fJ l no)),.int .i64 (iy l no)]))):=by
 refine bG Tryz.func136 rfl Tryz.ntmps136 rfl λf h s=>qr (aK (ar aS) h s cQ rfl rfl λf w1 b4 h s=>e9 ac 1 h rfl λf h=>ag (ag ?_))
 refine rs ac 1 h rfl λf h=>fx h s L0 (qe l vh _ (hR.keep s.ext) hln) rfl rfl (λhr f w1 h s=>?_) (λhr f w1 h s=>?_)
 ·refine e9 ac 1 h rfl λf h=>dF h rfl (qr (ak h (gm sO) rfl λf h=>am 0 h s aI rfl rfl rfl (ae _) (ae _) (aP _) λw1 s=>e9 ac 1 h rfl λf h=>rt (cc 0 rfl h s aI rfl rfl (ae _) rfl (by show _=_;rw [(wj no hr).1,(wj no hr).2]<;>rfl))))
 ·refine e9 ac 1 h rfl λf h=>ry h rfl (ag (cw ac 1 h rfl λf h=>cb h (hR.keep s.ext) aA6 rfl rfl λf h=>e9 ac 1 h rfl λf h=>au4 (au6 (λnn aa ww=>∃ k:Nat,Sl 25 aa [(0,vh),(1,.int .i64 no),(4,.pointer (some ⟨b4,0,none⟩)),(12,vh),(13,.int .i64 (l.length:Int)),(14,.int .i64 (k:Int))]/\St w [.blk b4 (.cells (ar aS) 60)] ww/\nn=l.length - k/\k<=l.length/\∀ j,j<k->decide ((l.getD j aS).1=no)=false) (l.length - (0)) ⟨0,h.only ⟨rfl,rfl,rfl,rfl,rfl,aw rfl (by omega),trivial⟩,s.as ⟨rfl,trivial⟩,rfl,as3 _,λj hj=>ax7 hj (av6 _)⟩ ?_)))
  rintro _ f w1 ⟨k,h,s,hnn,hp0,hp1⟩
  refine bD ac 1 h rfl λf h=>ag (cZ h rfl (λhc=>?_) (λhc=>?_))
  ·refine kt (ag (au4 (qr ?_)))
   have hkl:k<l.length:=by omega
   refine ak h (bj (hR.keep s.ext) (k) aA6 dd (h.ev rfl) (h.ev rfl) (by omega) (by omega)) rfl λf h=>ax ((hR.keep s.ext).el (k) (by omega) (by decide) (D:=ar (l.getD k aS)) (dI l k hkl)) h aI rfl (ae _) rfl λf h=>aK (ar aS) h s cQ rfl rfl λf w1 b7 h s=>am 0 h s aI rfl rfl rfl (ae _) (ae _) (aP _) λw1 s=>nt (cw ac 1 h rfl λf h=>ai (ah (aX.of_own s 0 rfl) 0 (bH _)) h bQ rfl rfl λf h=>e9 ac 2 h rfl λf h=>cT h rfl (λhc=>?_) (λhc=>?_))
   ·refine qr (al 0 h s aI rfl rfl (ae _) rfl λf h=>am 1 h s aI rfl rfl rfl (ae _) (ae _) (aP _) λw1 s=>e9 ac 1 h rfl λf h=>au3 (aY (aQ (aQ (aY (aQ (cc 1 rfl h s aI rfl rfl (ae _) rfl (by show _=_;rw [(oL hr (xV hkl hp1 hc)).1,(oL hr (xV hkl hp1 hc)).2]<;>rfl))))))))
   ·refine wpIn_skip (aW (aG (aC (ak h (bB (h.ev rfl) (h.ev rfl) (by omega)) rfl λf h=>e9 ac 1 h rfl λf h=>?_))))
    exact ⟨_,by omega,⟨k+1,h.only ⟨rfl,rfl,rfl,rfl,rfl,aw rfl (by omega),trivial⟩,St.as (s.pick _ (ar8 [_] _)) ⟨rfl,trivial⟩,rfl,by omega,eM (q:=λj=>decide ((l.getD j aS).1=no)) hp1 hc⟩⟩
  ·refine au5 (aT (aT (bS (aG (qr (ak h (gm sO) rfl λf h=>am 0 h s aI rfl rfl rfl (ae _) (ae _) (aP _) λw1 s=>e9 ac 1 h rfl λf h=>au3 (cc 0 rfl h s aI rfl rfl (ae _) rfl (by show _=_;rw [(uv hr (wS (by omega) hp1)).1,(uv hr (wS (by omega) hp1)).2]<;>rfl))))))))
theorem nK (x y:Mb) (x9:Id) (bx:Nat) (w:World) (hb:jA w bx (aJ x9)):Calls Tryz.prog 87 [.agg (ar x),.agg (ar y),.pointer (some ⟨bx,0,none⟩)].toArray w (bW w (is (.int .i64 (eW (x.2 - x9) (y.2 - x9))))):=by
 refine bG Tryz.func87 rfl Tryz.ntmps87 rfl λf h s=>qr (ba ((ar x)) h s rfl rfl rfl λf w1 b3 h s=>ba ((ar y)) h s rfl rfl rfl λf w1 b4 h s=>e9 ac 1 h rfl λf h=>ag (cK 10 h (by kernel_rfl) (aU (aX.subL (aX.of_tab (hb.keep s.ext)) 0 32 (D:=aJ x9) (wc _)) h bO rfl (by first|exact az _|exact ay _ _) rfl λf h=>aD ac 1 h rfl λf h=>aU (aX.subL (aX.of_own s 1 rfl) 1 32 (D:=aJ (_)) (cz _)) h bO rfl (by first|exact az _|exact ay _ _) rfl λf h=>bR h D1 (λw9 hE9=>rl _ _ w9) rfl rfl λf h=>aU (aX.subL (aX.of_tab (hb.keep s.ext)) 0 32 (D:=aJ x9) (wc _)) h bO rfl (by first|exact az _|exact ay _ _) rfl λf h=>aD ac 1 h rfl λf h=>aU (aX.subL (aX.of_own s 0 rfl) 1 32 (D:=aJ (_)) (cz _)) h bO rfl (by first|exact az _|exact ay _ _) rfl λf h=>bR h D1 (λw9 hE9=>rl _ _ w9) rfl rfl λf h=>bR h Do (λw9 hE9=>jm _ _ w9) rfl rfl λf h=>aD ac 1 h rfl λf h=>bF s λw1 s=>nt (au3 (aA rfl h s rfl (rfl))))))
theorem Jy (l:List Mb) (vh:Value) (x9:Id) (bx:Nat) (w:World) (hR:a7 w vh 33 l.length (aj l)) (hln:l.length<=1000) (hb:jA w bx (aJ x9)) (h0:0<l.length):Calls Tryz.prog 38 [vh,.func (.func 87) #[] #[.pointer (some ⟨bx,0,none⟩)]].toArray w (bW w (is (.agg (ar (gc (ld x9) l (l.length - 1)))))):=by
 refine bG Tryz.func38 rfl Tryz.ntmps38 rfl λf h s=>qr (aK (ar aS) h s cQ rfl rfl λf w1 b4 h s=>nt (ag (cw ac 1 h rfl λf h=>cb h (hR.keep s.ext) aA6 rfl rfl λf h=>e9 ac 1 h rfl λf h=>cT h rfl (λhc=>?_) (λhc=>?_))))
 ·replace hc:=ap9 hc
  exfalso;omega
 ·refine kt (cw ac 1 h rfl λf h=>ak h (bj (hR.keep s.ext) (0) aA6 dd (h.ev rfl) (h.ev rfl) (by omega) (by omega)) rfl λf h=>ax ((hR.keep s.ext).el (0) (by omega) (by decide) (D:=ar (l.getD 0 aS)) (dI l 0 h0)) h aI rfl (ae _) rfl λf h=>aK (ar aS) h s cQ rfl rfl λf w1 b5 h s=>am 0 h s aI rfl rfl rfl (ae _) (ae _) (aP _) λw1 s=>nt (ag (bD ac 1 h rfl λf h=>au4 (au6 (λnn aa ww=>∃ k:Nat,Sl 33 aa [(0,vh),(4,.pointer (some ⟨b4,0,none⟩)),(5,.pointer (some ⟨b5,0,none⟩)),(1,.func (.func 87) #[] #[.pointer (some ⟨bx,0,none⟩)]),(6,.int .i64 ((k:Int)+1))]/\St w [.blk b5 (.cells (ar (gc (ld x9) l k)) 60),.blk b4 (.cells (ar aS) 60)] ww/\nn=l.length - k/\k+1<=l.length) (l.length - (0)) ⟨0,h.only ⟨rfl,rfl,rfl,rfl,rfl,trivial⟩,s.as ⟨rfl,rfl,trivial⟩,rfl,by omega⟩ ?_))))
  rintro _ f w1 ⟨k,h,s,hnn,hp0⟩
  refine ag (cw ac 2 h rfl λf h=>cb h (hR.keep s.ext) aA6 rfl rfl λf h=>e9 ac 1 h rfl λf h=>cZ h rfl (λhc=>?_) (λhc=>?_))
  ·refine kt (ag (au4 (ag (cK 8 h (by kernel_rfl) (aD ac 2 h rfl λf h=>?_)))))
   have hkl:k+1<l.length:=by omega
   refine aD ac 1 h rfl λf h=>aF h (bj (hR.keep s.ext) (k+1) aA6 dd (h.ev rfl) (h.ev rfl) (by omega) (by omega)) rfl λf h=>aU ((hR.keep s.ext).el (k+1) (by omega) (by decide) (D:=ar (l.getD (k+1) aS)) (dI l (k+1) hkl)) h aI rfl (ae _) rfl λf h=>aH 0 h s aI rfl rfl (ae _) rfl λf h=>je [.agg (ar (l.getD (k+1) aS)),.agg (ar (gc (ld x9) l k))] (caps:=[.pointer (some ⟨bx,0,none⟩)]) h QK rfl (λw9 h9=>nK _ _ x9 bx w9 (hb.keep (s.ext.trans h9))) rfl rfl ?_;intro f h
   refine aF h (bk (.bool (decide (fd x9 (l.getD (k+1) aS).2<fd x9 (gc (ld x9) l k).2))) (HD (h.ev rfl) (h.ev rfl)) (aq3 Value.bool (Ej _ _ _))) rfl λf h=>bF s λw1 s=>nt (cZ h rfl (λhc=>?_) (λhc=>?_))
   ·refine rs ac 2 h rfl λf h=>ak h (bj (hR.keep s.ext) (k+1) aA6 dd (h.ev rfl) (h.ev rfl) (by omega) (by omega)) rfl λf h=>ax ((hR.keep s.ext).el (k+1) (by omega) (by decide) (D:=ar (l.getD (k+1) aS)) (dI l (k+1) hkl)) h aI rfl (ae _) rfl λf h=>am 0 h s aI rfl rfl rfl (ae _) (ae _) (aP _) λw1 s=>aE (aW (aG (rs ac 1 h rfl λf h=>ak h (bB (h.ev rfl) (h.ev rfl) (by omega)) rfl λf h=>e9 ac 1 h rfl λf h=>?_)))
    exact ⟨_,by omega,⟨k+1,h.only ⟨rfl,rfl,rfl,rfl,aw rfl (by omega),trivial⟩,St.as s ⟨iR (aq3 ar (Ju (f:=ld x9) hc).symm),rfl,trivial⟩,rfl,by omega⟩⟩
   ·refine wpIn_skip (aW (aG (rs ac 1 h rfl λf h=>ak h (bB (h.ev rfl) (h.ev rfl) (by omega)) rfl λf h=>e9 ac 1 h rfl λf h=>?_)))
    exact ⟨_,by omega,⟨k+1,h.only ⟨rfl,rfl,rfl,rfl,aw rfl (by omega),trivial⟩,St.as s ⟨iR (aq3 ar (P3 (f:=ld x9) hc).symm),rfl,trivial⟩,rfl,by omega⟩⟩
  ·refine au5 (aT (aT (bS (aG (qr (al 0 h s aI rfl rfl (ae _) rfl λf h=>am 1 h s aI rfl rfl rfl (ae _) (ae _) (aP _) λw1 s=>nt (au3 (g7 1 rfl h s aI rfl rfl (ae _) ((by obtain rfl:k=l.length - 1:=(by omega);exact rfl))))))))))
theorem GV (l:List Mb) (vh:Value) (x9:Id) (w:World) (hR:a7 w vh 33 l.length (aj l)) (hln:l.length<=1000):Calls Tryz.prog 20 [vh,kL x9].toArray w (bW w (is (.tuple #[.agg (ar (wC l x9)),.int .i64 (Bm l)]))):=by
 refine bG Tryz.func20 rfl Tryz.ntmps20 rfl λf h s=>qr (ba (aJ x9) h s rfl rfl rfl λf w1 b3 h s=>aK (ar aS) h s cQ rfl rfl λf w1 b4 h s=>e9 ac 1 h rfl λf h=>ag (ag ?_))
 refine rs ac 1 h rfl λf h=>fx h s L0 (qe l vh _ (hR.keep s.ext) hln) rfl rfl (λhr f w1 h s=>?_) (λhr f w1 h s=>?_)
 ·refine e9 ac 1 h rfl λf h=>dF h rfl (qr (ak h (gm sO) rfl λf h=>am 0 h s aI rfl rfl rfl (ae _) (ae _) (aP _) λw1 s=>e9 ac 1 h rfl λf h=>rt (cc 0 rfl h s aI rfl rfl (ae _) rfl (by show _=_;rw [(Db x9 hr).1,(Db x9 hr).2]<;>rfl))))
 ·refine e9 ac 1 h rfl λf h=>ry h rfl (ag (cw ac 1 h rfl λf h=>cb h (hR.keep s.ext) aA6 rfl rfl λf h=>e9 ac 1 h rfl λf h=>cZ h rfl (λhc=>?_) (λhc=>?_)))
  ·have h0:l.length=0:=by omega
   refine qr (ak h (gm sO) rfl λf h=>am 0 h s aI rfl rfl rfl (ae _) (ae _) (aP _) λw1 s=>e9 ac 1 h rfl λf h=>rt (cc 0 rfl h s aI rfl rfl (ae _) rfl (by show _=_;rw [(Az x9 hr h0).1,(Az x9 hr h0).2]<;>rfl)))
  ·have h0:¬ l.length=0:=by omega
   refine kt (cw ac 1 h rfl λf h=>al 1 h s bO rfl rfl (by first|exact az _|exact ay _ _) rfl λf h=>bg h s La (pN x9 _) rfl rfl ?_);rintro f w1 v16 ⟨bx,rfl,hbx⟩ hE h s
   refine fP h s XZ (Jy l vh x9 bx _ (hR.keep s.ext) hln hbx (by omega)) rfl rfl λf w1 h s=>am 0 h s aI rfl rfl rfl (ae _) (ae _) (aP _) λw1 s=>e9 ac 1 h rfl λf h=>au3 (cc 0 rfl h s aI rfl rfl (ae _) rfl (by show _=_;rw [(B7 x9 hr h0).1,(B7 x9 hr h0).2]<;>rfl))
theorem CQ (x a b:Id) (w:World):Calls Tryz.prog 258 [kL x,kL a,kL b].toArray w (bW w (is (.bool (xq x a b)))):=by
 refine bG Tryz.func258 rfl Tryz.ntmps258 rfl λf h s=>qr (ba (aJ x) h s rfl rfl rfl λf w1 b3 h s=>ba (aJ a) h s rfl rfl rfl λf w1 b4 h s=>ba (aJ b) h s rfl rfl rfl λf w1 b5 h s=>e9 ac 1 h rfl λf h=>ag (qr (al 1 h s bO rfl rfl (by first|exact az _|exact ay _ _) rfl λf h=>al 0 h s bO rfl rfl (by first|exact az _|exact ay _ _) rfl λf h=>ak h (dQ jr (h.ev rfl) (h.ev rfl)) rfl λf h=>nt (cT h rfl (λhc=>?_) (λhc=>?_)))))
 ·have hc:=ap9 hc
  refine bD ac 1 h rfl λf h=>rt (aA rfl h s rfl (by show _=_;subst hc;rw [HU]))
 ·have hc:=aq0 hc
  refine kt (ag ?_)
  cases hx:(decide (x≠a):Bool)
  ·refine cK 14 h (by kernel_rfl) (aH 2 h s bO rfl rfl (by first|exact az _|exact ay _ _) rfl λf h=>aH 1 h s bO rfl rfl (by first|exact az _|exact ay _ _) rfl λf h=>aF h (bk (.bool false) (l6 jr (h.ev rfl) (h.ev rfl)) (aq3 Value.bool hx)) rfl λf h=>aD ac 11 h rfl λf h=>bF s λw1 s=>nt (au3 (aA rfl h s rfl (by show _=_;unfold xq;rw [hx];simp [hc]))))
  ·refine cK 14 h (by kernel_rfl) (aH 2 h s bO rfl rfl (by first|exact az _|exact ay _ _) rfl λf h=>aH 1 h s bO rfl rfl (by first|exact az _|exact ay _ _) rfl λf h=>aF h (bk (.bool true) (l6 jr (h.ev rfl) (h.ev rfl)) (aq3 Value.bool hx)) rfl λf h=>aD ac 1 h rfl λf h=>cj h rfl (aH 1 h s bO rfl rfl (by first|exact az _|exact ay _ _) rfl λf h=>cj h rfl (aH 2 h s bO rfl rfl (by first|exact az _|exact ay _ _) rfl λf h=>cj h rfl (bR h D1 (λw9 hE9=>rl _ _ w9) rfl rfl λf h=>cj h rfl (aH 1 h s bO rfl rfl (by first|exact az _|exact ay _ _) rfl λf h=>cj h rfl (aH 0 h s bO rfl rfl (by first|exact az _|exact ay _ _) rfl λf h=>cj h rfl (bR h D1 (λw9 hE9=>rl _ _ w9) rfl rfl λf h=>cj h rfl (bR h Do (λw9 hE9=>jm _ _ w9) rfl rfl λf h=>cj h rfl (aF h (bk (.bool (decide ((x - a).toNat<=(b - a).toNat))) (Lf (h.ev rfl) (h.ev rfl)) (aq3 Value.bool (Pw _ _))) rfl λf h=>aD ac 2 h rfl λf h=>bF s λw1 s=>nt (au3 (aA rfl h s rfl (by show _=_;unfold xq;rw [hx];simp [hc]))))))))))))
end Go.Proofs.YthmlflaiidhoiaaGreatDoor
