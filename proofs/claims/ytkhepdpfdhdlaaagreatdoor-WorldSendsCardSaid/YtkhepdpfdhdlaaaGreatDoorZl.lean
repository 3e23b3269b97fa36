/- Package ring and what it stands on, so far as it is wanted: what each function answers. -/
import Derived.Test.YtkhepdpfdhdlaaaGreatDoorZe
import Derived.Test.YtkhepdpfdhdlaaaGreatDoorZa
set_option linter.unusedVariables false
set_option linter.unusedSimpArgs false
set_option linter.unusedSectionVars false
namespace Go.Proofs.YtkhepdpfdhdlaaaGreatDoor
open Go.RowKit
theorem rX (l:List Mb) (vh:Value) (w:World) (hR:bp w vh 33 l.length (aw l)) (hln:l.length<=1000):Calls Tryz.prog 61 [vh].toArray w (bW w (is (.bool (eo l)))):=by
 refine bG Tryz.func61 rfl Tryz.ntmps61 rfl λf h s=>bF ac 1 h rfl λf h=>ah (cu ac 1 h rfl λf h=>ce h (hR.keep s.ext) aa8 rfl rfl λf h=>e9 ac 1 h rfl λf h=>dq h rfl (λhc=>?_) (λhc=>?_))
 ·refine bF ac 1 h rfl λf h=>rt (au rfl h s rfl (by show _=_;rw [xA (by omega)]<;>rfl))
 ·have hl16:l.length<=16:=by omega
  refine kt (ah (cu ac 1 h rfl λf h=>ce h (hR.keep s.ext) aa8 rfl rfl λf h=>e9 ac 1 h rfl λf h=>Y9 (Zb (λnn aa ww=>∃ k:Nat,Sl 32 aa [(0,vh),(8,vh),(9,.int .i64 (l.length:Int)),(10,.int .i64 (k:Int))]/\St w [] ww/\nn=l.length - k/\k<=l.length/\∀ j,j<k->mo l j=false) (l.length - (0)) ⟨0,h.only ⟨rfl,rfl,rfl,av rfl (by omega),trivial⟩,s.as trivial,rfl,YO _,λj hj=>ZF hj (Zl _)⟩ ?_)))
  rintro _ f w1 ⟨k,h,s,hnn,hp0,hp1⟩
  refine bF ac 1 h rfl λf h=>ah (dq h rfl (λhc=>?_) (λhc=>?_))
  ·refine kt (ah (Y9 (cu ac 1 h rfl λf h=>?_)))
   have hkl:k<l.length:=by omega
   refine ai h (bz (hR.keep s.ext) (k) aa8 fp (h.ev rfl) (h.ev rfl) (by omega) (by omega)) rfl λf h=>aB ((hR.keep s.ext).el (k) (by omega) (by decide) (D:=az (l.getD k bE)) (fL l k hkl)) h bH rfl (am _) rfl λf h=>aS (az bE) h s gI rfl rfl λf w1 b4 h s=>ap ac 1 h rfl λf h=>ak 0 h s bH rfl rfl rfl (am _) (am _) (cz _) λw1 s=>nt (ah ?_)
   cases k0:(decide ((l.getD k bE).1<0):Bool)
   ·skip
    cases k1:(decide (16<=(l.getD k bE).1):Bool)
    ·skip
     refine Qw 0 [[],[0],[0,1],[0,1,2],[0,1,2,3],[0,1,2,3,4],[0,1,2,3,4,5],[0,1,2,3,4,5,6],[0,1,2,3,4,5,6,7],[0,1,2,3,4,5,6,7,8],[0,1,2,3,4,5,6,7,8],[0,1,2,3,4,5,6,7,8,9,10],[0,1,2,3,4,5,6,7,8],[0,1,2,3,4,5,6,7,8,12],[0,1,2,3,4,5,6,7,8,9,10,11,12,13],[0,1,2,3,4,5,6,7,8,9,10,11,12,13,14]] [[],[],[],[],[],[],[],[],[],[],[],[],[],[],[13],[]] [] [.v _,.v (.int .i64 (l.getD k bE).1),.v (.bool false),.v _,.v (.pointer (some ⟨b4,0,none⟩)),.v (.int .i64 (l.getD k bE).1),.v (.bool false),.v _,.v _,.v vh,.v (.int .i64 (k:Int)),.v (fI vh k),.v (.agg (az (l.getD k bE))),.r (λv=>[.blk (Q4 (v 13)) (.cells (az (l.getD k bE)) 69)]) (λv=>v 13=.func (.func 182) #[] #[.pointer (some ⟨Q4 (v 13),0,none⟩)]),.v (.bool ((l.take k).any (jF (l.getD k bE)))),.v _] _ h s rfl (by kernel_rfl) (by kernel_rfl) (by kernel_rfl) (fB ac h rfl rfl rfl (cp ?_ (cp ?_ (fB ac h rfl rfl rfl (cp ?_ (cp ?_ (cp ?_ (fB ac h rfl rfl rfl (fB ac h rfl rfl rfl (cp ?_ (cp ?_ (cp ?_ (cp ?_ (cp ?_ (cp ?_ (fB ac h rfl rfl rfl (trivial))))))))))))))))) [0,1,2,3,4,5,6,7,8,9,10,11,12,14,15] (by kernel_rfl) ?_
     ·intro f9 w2 vl6 E9 hs9 hd9 hl hF s
      have h:=cG [(15,_)] h hs9 hd9 ⟨bg hl 15 0 (by kernel_rfl) (hF 0 (by decide)),trivial⟩
      refine ag (ae (aJ.of_own s 0 rfl) 0 (cg _)) h bs rfl rfl λf h=>ay ⟨_,bk 16 h rfl rfl,rfl,s⟩
     ·intro f9 w2 vl6 E9 hs9 hd9 hl hF s
      have h:=cG [(16,_)] h hs9 hd9 ⟨bg hl 16 1 (by kernel_rfl) (hF 1 (by decide)),trivial⟩
      refine kw ac h rfl k0 λf h=>ay ⟨_,bk 17 h rfl rfl,rfl,s⟩
     ·intro f9 w2 vl6 E9 hs9 hd9 hl hF s
      have h:=cG [(4,_),(18,_)] h hs9 hd9 ⟨fh hl 4 (by kernel_rfl) (h.holds 4 _ rfl),bg hl 18 3 (by kernel_rfl) (hF 3 (by decide)),trivial⟩
      refine ap ac 1 h rfl λf h=>ay ⟨_,bk 19 h rfl rfl,rfl,s⟩
     ·intro f9 w2 vl6 E9 hs9 hd9 hl hF s
      have h:=cG [(19,_),(18,_)] h hs9 hd9 ⟨bg hl 19 4 (by kernel_rfl) (hF 4 (by decide)),bg hl 18 3 (by kernel_rfl) (hF 3 (by decide)),trivial⟩
      refine bX h rfl (ag (ae (aJ.of_own s 0 rfl) 0 (cg _)) h bs rfl rfl λf h=>ay ⟨_,bk 20 h rfl rfl,rfl,s⟩)
     ·intro f9 w2 vl6 E9 hs9 hd9 hl hF s
      have h:=cG [(20,_),(18,_)] h hs9 hd9 ⟨bg hl 20 5 (by kernel_rfl) (hF 5 (by decide)),bg hl 18 3 (by kernel_rfl) (hF 3 (by decide)),trivial⟩
      refine bX h rfl (kw ac h rfl k1 λf h=>ay ⟨_,bk 21 h rfl rfl,rfl,s⟩)
     ·intro f9 w2 vl6 E9 hs9 hd9 hl hF s
      have h:=cG [(0,_),(23,_)] h hs9 hd9 ⟨fh hl 0 (by kernel_rfl) (h.holds 0 _ rfl),bg hl 23 8 (by kernel_rfl) (hF 8 (by decide)),trivial⟩
      refine ap ac 1 h rfl λf h=>ay ⟨_,bk 24 h rfl rfl,rfl,s⟩
     ·intro f9 w2 vl6 E9 hs9 hd9 hl hF s
      have h:=cG [(3,_),(23,_)] h hs9 hd9 ⟨fh hl 3 (by kernel_rfl) (h.holds 3 _ rfl),bg hl 23 8 (by kernel_rfl) (hF 8 (by decide)),trivial⟩
      refine ap ac 1 h rfl λf h=>ay ⟨_,bk 25 h rfl rfl,rfl,s⟩
     ·intro f9 w2 vl6 E9 hs9 hd9 hl hF s
      have h:=cG [(24,_),(25,_),(23,_)] h hs9 hd9 ⟨bg hl 24 9 (by kernel_rfl) (hF 9 (by decide)),bg hl 25 10 (by kernel_rfl) (hF 10 (by decide)),bg hl 23 8 (by kernel_rfl) (hF 8 (by decide)),trivial⟩
      refine bX h rfl (ai h (dL (hR.keep s.ext) (k) aa8 fp (h.ev rfl) (h.ev rfl) (rfl) (by omega)) rfl λf h=>ay ⟨_,bk 26 h rfl rfl,rfl,s⟩)
     ·intro f9 w2 vl6 E9 hs9 hd9 hl hF s
      have h:=cG [(4,_),(23,_)] h hs9 hd9 ⟨fh hl 4 (by kernel_rfl) (h.holds 4 _ rfl),bg hl 23 8 (by kernel_rfl) (hF 8 (by decide)),trivial⟩
      refine bX h rfl (al 0 h s bH rfl rfl (am _) rfl λf h=>ay ⟨_,bk 27 h rfl rfl,rfl,s⟩)
     ·intro f9 w2 vl6 E9 hs9 hd9 hl hF s
      have h:=cG [(27,_),(23,_)] h hs9 hd9 ⟨bg hl 27 12 (by kernel_rfl) (hF 12 (by decide)),bg hl 23 8 (by kernel_rfl) (hF 8 (by decide)),trivial⟩
      refine bX h rfl (bB h s NH (vg _ _) rfl rfl ?_);rintro f w1 v28 ⟨bx,rfl,hS⟩ hE h sq;replace s:=s.add hS;clear hS
      exact ay ⟨_,bk 28 h rfl rfl,rfl,s⟩
     ·intro f9 w2 vl6 E9 hs9 hd9 hl hF s
      have h:=cG [(26,_),(28,.func (.func 182) #[] #[.pointer (some ⟨Q4 (vl6 13),0,none⟩)]),(23,_)] h hs9 hd9 ⟨bg hl 26 11 (by kernel_rfl) (hF 11 (by decide)),bg hl 28 13 (by kernel_rfl) (hF 13 (by decide)),bg hl 23 8 (by kernel_rfl) (hF 8 (by decide)),trivial⟩
      refine bX h rfl ?_
      have hbx:=iF.of_own s 0 rfl
      refine da h s F5 (kK (l.take k) (fI vh k) 182 [.pointer (some ⟨Q4 (vl6 13),0,none⟩)] (jF (l.getD k bE)) _ (AT (hR.keep s.ext) k (by omega)) (by rw [Y5];omega) Pq (λw9 h9 x hx=>yg x _ (Q4 (vl6 13)) w9 (hbx.keep h9))) rfl rfl λf w1 h s=>ay ⟨_,bk 29 h rfl rfl,rfl,(s.pick _ (Yp _ (Yo _ (List.Sublist.refl _))))⟩
     intro f w1 vl6 hs9 hd9 hv hr hF s
     replace h:=G9 (ops:=_) [(15,_),(16,_),(17,_),(18,_),(19,_),(20,_),(21,_),(22,_),(23,_),(24,_),(25,_),(26,_),(27,_),(28,.func (.func 182) #[] #[.pointer (some ⟨Q4 (vl6 13),0,none⟩)]),(29,_),(30,_)] h hs9 hd9 hr ⟨(hv 0 15 rfl).trans (hF 0 rfl),(hv 1 16 rfl).trans (hF 1 rfl),(hv 2 17 rfl).trans (hF 2 rfl),(hv 3 18 rfl).trans (hF 3 rfl),(hv 4 19 rfl).trans (hF 4 rfl),(hv 5 20 rfl).trans (hF 5 rfl),(hv 6 21 rfl).trans (hF 6 rfl),(hv 7 22 rfl).trans (hF 7 rfl),(hv 8 23 rfl).trans (hF 8 rfl),(hv 9 24 rfl).trans (hF 9 rfl),(hv 10 25 rfl).trans (hF 10 rfl),(hv 11 26 rfl).trans (hF 11 rfl),(hv 12 27 rfl).trans (hF 12 rfl),(hv 13 28 rfl).trans (hF 13 rfl),(hv 14 29 rfl).trans (hF 14 rfl),(hv 15 30 rfl).trans (hF 15 rfl),trivial⟩ (by kernel_rfl)
     refine aO (cA h rfl (λhc=>?_) (λhc=>?_))
     ·refine bF ac 1 h rfl λf h=>Y8 (bo (aV (aV (bo (aV (au rfl h s rfl (by show _=_;rw [jx hkl ((Fx k0 k1).trans hc)]<;>rfl)))))))
     ·refine wpIn_skip (bw (aO (aG (ai h (bS (h.ev rfl) (h.ev rfl) (by omega)) rfl λf h=>e9 ac 1 h rfl λf h=>?_))))
      have hb9:mo l k=false:=(Fx k0 k1).trans hc
      exact ⟨_,by omega,⟨k+1,h.only ⟨rfl,rfl,rfl,av rfl (by omega),trivial⟩,St.as (s.pick _ (YJ [_] _)) trivial,rfl,by omega,gX hp1 hb9⟩⟩
    ·refine dF 16 h (by kernel_rfl) (aq ac 1 h rfl λf h=>ao (ae (aJ.of_own s 0 rfl) 0 (cg _)) h bs rfl rfl λf h=>jf ac h rfl k0 λf h=>aq ac 2 h rfl λf h=>a6 h rfl (ao (ae (aJ.of_own s 0 rfl) 0 (cg _)) h bs rfl rfl λf h=>a6 h rfl (je ac h rfl k1 λf h=>aq ac 9 h rfl λf h=>bQ s λw1 s=>ie h rfl (bF ac 1 h rfl λf h=>Y8 (bo (aV (aV (bo (aV (au rfl h s rfl (by show _=_;rw [jx hkl (OI k1)]<;>rfl)))))))))))
   ·refine dF 16 h (by kernel_rfl) (aq ac 1 h rfl λf h=>ao (ae (aJ.of_own s 0 rfl) 0 (cg _)) h bs rfl rfl λf h=>je ac h rfl k0 λf h=>aq ac 13 h rfl λf h=>bQ s λw1 s=>ie h rfl (bF ac 1 h rfl λf h=>Y8 (bo (aV (aV (bo (aV (au rfl h s rfl (by show _=_;rw [jx hkl (Qg k0)]<;>rfl)))))))))
  ·refine Za (a7 (a7 (cd (aO (bF ac 1 h rfl λf h=>Y8 (au rfl h s rfl (by show _=_;rw [xJ hl16 (λj hj=>hp1 j (by omega))]<;>rfl)))))))
theorem jL (a b:Id) (w:World):Calls Tryz.prog 195 [lx a,lx b].toArray w (bW w (is (.int .i64 (fA a b)))):=by
 refine bG Tryz.func195 rfl Tryz.ntmps195 rfl λf h s=>qr (bh (aA a) h s rfl rfl rfl λf w1 b2 h s=>bh (aA b) h s rfl rfl rfl λf w1 b3 h s=>e9 ac 1 h rfl λf h=>ah (bF ac 1 h rfl λf h=>Y9 (Zb (λnn aa ww=>∃ k:Nat,Sl 24 aa [(0,lx a),(1,lx b),(2,.pointer (some ⟨b2,0,none⟩)),(3,.pointer (some ⟨b3,0,none⟩)),(6,.int .i64 (k:Int))]/\St w [.blk b3 (.cells (aA b) 33),.blk b2 (.cells (aA a) 33)] ww/\nn=32 - k/\k<=32/\a.toNat / 256 ^ (32 - k)=b.toNat / 256 ^ (32 - k)) (32 - (0)) ⟨0,h.only ⟨rfl,rfl,rfl,rfl,av rfl (by omega),trivial⟩,s.as ⟨rfl,rfl,trivial⟩,rfl,by omega,Gx a b⟩ ?_)))
 rintro _ f w1 ⟨k,h,s,hnn,hp0,hp1⟩
 refine bF ac 1 h rfl λf h=>ah (dq h rfl (λhc=>?_) (λhc=>?_))
 ·refine kt (ah (Y9 (bF ac 2 h rfl λf h=>ah (dF 7 h (by kernel_rfl) (aq ac 1 h rfl λf h=>ar h (kG (k) ZG gW (h.ev rfl) (h.ev rfl) (by omega) (by omega)) rfl λf h=>eU 1 h s oJ rfl rfl (dK _ _ (by omega)) rfl λf h=>aq ac 1 h rfl λf h=>ar h (kG (k) ZG gW (h.ev rfl) (h.ev rfl) (by omega) (by omega)) rfl λf h=>eU 0 h s oJ rfl rfl (dK _ _ (by omega)) rfl λf h=>aq ac 1 h rfl λf h=>bQ s λw1 s=>nt (dq h rfl (λhc=>?_) (λhc=>?_)))))))
  ·refine ah (dF 8 h (by kernel_rfl) (aq ac 1 h rfl λf h=>ar h (kG (k) ZG gW (h.ev rfl) (h.ev rfl) (by omega) (by omega)) rfl λf h=>eU 1 h s oJ rfl rfl (dK _ _ (by omega)) rfl λf h=>aq ac 1 h rfl λf h=>ar h (kG (k) ZG gW (h.ev rfl) (h.ev rfl) (by omega) (by omega)) rfl λf h=>eU 0 h s oJ rfl rfl (dK _ _ (by omega)) rfl λf h=>bj h Ow (λw9 hE9=>Ib _ _ w9) rfl rfl λf h=>aq ac 1 h rfl λf h=>bQ s λw1 s=>nt (Y8 (bo (aV (aV (bo (aV (au rfl h s rfl (by show _=_;rw [NG a b k (by omega) hp1 hc]))))))))))
  ·refine wpIn_skip (bw (aO (aG (ai h (bS (h.ev rfl) (h.ev rfl) (by omega)) rfl λf h=>e9 ac 1 h rfl λf h=>?_))))
   exact ⟨_,by omega,⟨k+1,h.only ⟨rfl,rfl,rfl,rfl,av rfl (by omega),trivial⟩,St.as s ⟨rfl,rfl,trivial⟩,rfl,by omega,HU a b k (by omega) hp1 (by omega)⟩⟩
 ·refine Za (a7 (a7 (cd (aO (bF ac 1 h rfl λf h=>Y8 (au rfl h s rfl (by show _=_;rw [JR a b k (by omega) hp1,Cm])))))))
theorem zp (x y:Mb) (x9:Id) (bx:Nat) (w:World) (hb:iF w bx (aA x9)):Calls Tryz.prog 194 [.agg (az x),.agg (az y),.pointer (some ⟨bx,0,none⟩)].toArray w (bW w (is (.int .i64 (fA (x.2 - x9) (y.2 - x9))))):=by
 refine bG Tryz.func194 rfl Tryz.ntmps194 rfl λf h s=>qr (bh ((az x)) h s rfl rfl rfl λf w1 b3 h s=>bh ((az y)) h s rfl rfl rfl λf w1 b4 h s=>e9 ac 1 h rfl λf h=>ah (dF 10 h (by kernel_rfl) (aY (aJ.subL (aJ.of_tab (hb.keep s.ext)) 0 32 (D:=aA x9) (q7 _)) h cJ rfl (by first|exact aF _|exact aE _ _) rfl λf h=>aq ac 1 h rfl λf h=>aY (aJ.subL (aJ.of_own s 1 rfl) 1 32 (D:=aA (_)) (fl _)) h cJ rfl (by first|exact aF _|exact aE _ _) rfl λf h=>bj h HJ (λw9 hE9=>AQ _ _ w9) rfl rfl λf h=>aY (aJ.subL (aJ.of_tab (hb.keep s.ext)) 0 32 (D:=aA x9) (q7 _)) h cJ rfl (by first|exact aF _|exact aE _ _) rfl λf h=>aq ac 1 h rfl λf h=>aY (aJ.subL (aJ.of_own s 0 rfl) 1 32 (D:=aA (_)) (fl _)) h cJ rfl (by first|exact aF _|exact aE _ _) rfl λf h=>bj h HJ (λw9 hE9=>AQ _ _ w9) rfl rfl λf h=>bj h zl (λw9 hE9=>jL _ _ w9) rfl rfl λf h=>aq ac 1 h rfl λf h=>bQ s λw1 s=>nt (Y8 (au rfl h s rfl (rfl))))))
theorem DT (l:List Mb) (vh:Value) (x9:Id) (bx:Nat) (w:World) (hR:bp w vh 33 l.length (aw l)) (hln:l.length<=1000) (hb:iF w bx (aA x9)) (h0:0<l.length):Calls Tryz.prog 123 [vh,.func (.func 194) #[] #[.pointer (some ⟨bx,0,none⟩)]].toArray w (bW w (is (.agg (az (jb (w5 x9) l (l.length - 1)))))):=by
 refine bG Tryz.func123 rfl Tryz.ntmps123 rfl λf h s=>qr (aS (az bE) h s gI rfl rfl λf w1 b4 h s=>nt (ah (cu ac 1 h rfl λf h=>ce h (hR.keep s.ext) aa8 rfl rfl λf h=>e9 ac 1 h rfl λf h=>cA h rfl (λhc=>?_) (λhc=>?_))))
 ·replace hc:=Yq hc
  exfalso;omega
 ·refine kt (cu ac 1 h rfl λf h=>ai h (bz (hR.keep s.ext) (0) aa8 fp (h.ev rfl) (h.ev rfl) (by omega) (by omega)) rfl λf h=>aB ((hR.keep s.ext).el (0) (by omega) (by decide) (D:=az (l.getD 0 bE)) (fL l 0 h0)) h bH rfl (am _) rfl λf h=>aS (az bE) h s gI rfl rfl λf w1 b5 h s=>ak 0 h s bH rfl rfl rfl (am _) (am _) (cz _) λw1 s=>nt (ah (bF ac 1 h rfl λf h=>Y9 (Zb (λnn aa ww=>∃ k:Nat,Sl 33 aa [(0,vh),(4,.pointer (some ⟨b4,0,none⟩)),(5,.pointer (some ⟨b5,0,none⟩)),(1,.func (.func 194) #[] #[.pointer (some ⟨bx,0,none⟩)]),(6,.int .i64 ((k:Int)+1))]/\St w [.blk b5 (.cells (az (jb (w5 x9) l k)) 69),.blk b4 (.cells (az bE) 69)] ww/\nn=l.length - k/\k+1<=l.length) (l.length - (0)) ⟨0,h.only ⟨rfl,rfl,rfl,rfl,rfl,trivial⟩,s.as ⟨rfl,rfl,trivial⟩,rfl,by omega⟩ ?_))))
  rintro _ f w1 ⟨k,h,s,hnn,hp0⟩
  refine ah (cu ac 2 h rfl λf h=>ce h (hR.keep s.ext) aa8 rfl rfl λf h=>e9 ac 1 h rfl λf h=>dq h rfl (λhc=>?_) (λhc=>?_))
  ·refine kt (ah (Y9 (ah (dF 8 h (by kernel_rfl) (aq ac 2 h rfl λf h=>?_)))))
   have hkl:k+1<l.length:=by omega
   refine aq ac 1 h rfl λf h=>ar h (bz (hR.keep s.ext) (k+1) aa8 fp (h.ev rfl) (h.ev rfl) (by omega) (by omega)) rfl λf h=>aY ((hR.keep s.ext).el (k+1) (by omega) (by decide) (D:=az (l.getD (k+1) bE)) (fL l (k+1) hkl)) h bH rfl (am _) rfl λf h=>ba 0 h s bH rfl rfl (am _) rfl λf h=>uP [.agg (az (l.getD (k+1) bE)),.agg (az (jb (w5 x9) l k))] (caps:=[.pointer (some ⟨bx,0,none⟩)]) h Pp rfl (λw9 h9=>zp _ _ x9 bx w9 (hb.keep (s.ext.trans h9))) rfl rfl ?_;intro f h
   refine ar h (bq (.bool (decide (fd x9 (l.getD (k+1) bE).2<fd x9 (jb (w5 x9) l k).2))) (FD (h.ev rfl) (h.ev rfl)) (Yu Value.bool (Iw _ _ _))) rfl λf h=>bQ s λw1 s=>nt (dq h rfl (λhc=>?_) (λhc=>?_))
   ·refine rs ac 2 h rfl λf h=>ai h (bz (hR.keep s.ext) (k+1) aa8 fp (h.ev rfl) (h.ev rfl) (by omega) (by omega)) rfl λf h=>aB ((hR.keep s.ext).el (k+1) (by omega) (by decide) (D:=az (l.getD (k+1) bE)) (fL l (k+1) hkl)) h bH rfl (am _) rfl λf h=>ak 0 h s bH rfl rfl rfl (am _) (am _) (cz _) λw1 s=>ay (bw (aO (rs ac 1 h rfl λf h=>ai h (bS (h.ev rfl) (h.ev rfl) (by omega)) rfl λf h=>e9 ac 1 h rfl λf h=>?_)))
    exact ⟨_,by omega,⟨k+1,h.only ⟨rfl,rfl,rfl,rfl,av rfl (by omega),trivial⟩,St.as s ⟨ff (Yu az (DY (f:=w5 x9) hc).symm),rfl,trivial⟩,rfl,by omega⟩⟩
   ·refine wpIn_skip (bw (aO (rs ac 1 h rfl λf h=>ai h (bS (h.ev rfl) (h.ev rfl) (by omega)) rfl λf h=>e9 ac 1 h rfl λf h=>?_)))
    exact ⟨_,by omega,⟨k+1,h.only ⟨rfl,rfl,rfl,rfl,av rfl (by omega),trivial⟩,St.as s ⟨ff (Yu az (Kz (f:=w5 x9) hc).symm),rfl,trivial⟩,rfl,by omega⟩⟩
  ·refine Za (a7 (a7 (cd (aO (qr (al 0 h s bH rfl rfl (am _) rfl λf h=>ak 1 h s bH rfl rfl rfl (am _) (am _) (cz _) λw1 s=>nt (Y8 (nq 1 rfl h s bH rfl rfl (am _) ((by obtain rfl:k=l.length - 1:=(by omega);exact rfl))))))))))
theorem CG (l:List Mb) (vh:Value) (x9:Id) (w:World) (hR:bp w vh 33 l.length (aw l)) (hln:l.length<=1000):Calls Tryz.prog 71 [vh,lx x9].toArray w (bW w (is (.tuple #[.agg (az (eh l x9)),.int .i64 (si l)]))):=by
 refine bG Tryz.func71 rfl Tryz.ntmps71 rfl λf h s=>qr (bh (aA x9) h s rfl rfl rfl λf w1 b3 h s=>aS (az bE) h s gI rfl rfl λf w1 b4 h s=>e9 ac 1 h rfl λf h=>ah (ah ?_))
 refine rs ac 1 h rfl λf h=>eK h s Mt (rX l vh _ (hR.keep s.ext) hln) rfl rfl (λhr f w1 h s=>?_) (λhr f w1 h s=>?_)
 ·refine e9 ac 1 h rfl λf h=>dQ h rfl (qr (ai h (lT AU) rfl λf h=>ak 0 h s bH rfl rfl rfl (am _) (am _) (cz _) λw1 s=>e9 ac 1 h rfl λf h=>rt (ct 0 rfl h s bH rfl rfl (am _) rfl (by show _=_;rw [(Bk x9 hr).1,(Bk x9 hr).2]<;>rfl))))
 ·refine e9 ac 1 h rfl λf h=>qC h rfl (ah (cu ac 1 h rfl λf h=>ce h (hR.keep s.ext) aa8 rfl rfl λf h=>e9 ac 1 h rfl λf h=>dq h rfl (λhc=>?_) (λhc=>?_)))
  ·have h0:l.length=0:=by omega
   refine qr (ai h (lT AU) rfl λf h=>ak 0 h s bH rfl rfl rfl (am _) (am _) (cz _) λw1 s=>e9 ac 1 h rfl λf h=>rt (ct 0 rfl h s bH rfl rfl (am _) rfl (by show _=_;rw [(wc x9 hr h0).1,(wc x9 hr h0).2]<;>rfl)))
  ·have h0:¬ l.length=0:=by omega
   refine kt (cu ac 1 h rfl λf h=>al 1 h s cJ rfl rfl (by first|exact aF _|exact aE _ _) rfl λf h=>bB h s P5 (CU x9 _) rfl rfl ?_);rintro f w1 v16 ⟨bx,rfl,hbx⟩ hE h s
   refine da h s NW (DT l vh x9 bx _ (hR.keep s.ext) hln hbx (by omega)) rfl rfl λf w1 h s=>ak 0 h s bH rfl rfl rfl (am _) (am _) (cz _) λw1 s=>e9 ac 1 h rfl λf h=>Y8 (ct 0 rfl h s bH rfl rfl (am _) rfl (by show _=_;rw [(Hk x9 hr h0).1,(Hk x9 hr h0).2]<;>rfl))
end Go.Proofs.YtkhepdpfdhdlaaaGreatDoor
