/- Package world and what it stands on, so far as it is wanted: what each function answers. -/
import Derived.Test.YtkhepdpfdhdlaaaGreatDoorZp
import Derived.Test.YtkhepdpfdhdlaaaGreatDoorZa
import Derived.Test.YtkhepdpfdhdlaaaGreatDoorZi
import Derived.Test.YtkhepdpfdhdlaaaGreatDoorZl
import Derived.Test.YtkhepdpfdhdlaaaGreatDoorZo
set_option linter.unusedVariables false
set_option linter.unusedSimpArgs false
set_option linter.unusedSectionVars false
namespace Go.Proofs.YtkhepdpfdhdlaaaGreatDoor
open Go.RowKit
theorem Dh (L:List N3) (vo:Value)  (w:World) (hO:kC w vo L) (hL:L.length<=40) (hb:RwB L):Calls Tryz.prog 14 [.agg #[vo]].toArray w (bW w (is (.bool (lU L)))):=by
 have hml:(aI L).length=L.length:=Y6 _
 refine bG Tryz.func14 rfl Tryz.ntmps14 rfl λf h s=>qr (bh (#[vo]) h s rfl rfl rfl λf w1 b1 h s=>e9 ac 1 h rfl λf h=>ah (ah ?_))
 cases r0:(lD L:Bool)
 ·refine aG (al 0 h s cv rfl rfl (rfl) rfl λf h=>m9 false h s Gj (kN L vo _ (hO.keep s.ext) hL hb) (r0) rfl rfl λf w1 h s=>e9 ac 1 h rfl λf h=>dQ h rfl (bF ac 1 h rfl λf h=>rt (au rfl h s rfl (by show _=_;rw [QK L r0]))))
 ·refine aG (al 0 h s cv rfl rfl (rfl) rfl λf h=>bB h s Gj (aX (.bool true) (kN L vo _ (hO.keep s.ext) hL hb) (Yu Value.bool r0)) rfl rfl ?_);intro f w1 v9 hT hE h s;obtain rfl:=hT
  refine e9 ac 1 h rfl λf h=>qC h rfl (ah (qr (al 0 h s cv rfl rfl (rfl) rfl λf h=>bB h s GY (iC L vo _ (hO.keep s.ext) hL) rfl rfl ?_)));intro f w1 v9 hT hE h sq;replace s:=s.sl_new hE hT
  refine jB 0 h s aa8 rfl rfl rfl λf h=>e9 ac 1 h rfl λf h=>Y9 (Zb (λnn aa ww=>∃ k:Nat,Sl 20 aa [(0,.agg #[vo]),(1,.pointer (some ⟨b1,0,none⟩)),(9,v9),(10,.int .i64 ((aI L).length:Int)),(11,.int .i64 (k:Int))]/\St w [.sl v9 69 33 (aI L).length (aw (aI L)),.blk b1 (.cells (#[vo]) 24)] ww/\nn=(aI L).length - k/\k<=(aI L).length/\∀ j,j<k->jh (L.getD j z3).1.me.2=true) ((aI L).length - (0)) ⟨0,h.only ⟨rfl,rfl,rfl,rfl,av rfl (by omega),trivial⟩,s.as ⟨rfl,rfl,trivial⟩,rfl,YO _,λj hj=>ZF hj (Zl _)⟩ ?_)
  rintro _ f w1 ⟨k,h,s,hnn,hp0,hp1⟩
  refine bF ac 1 h rfl λf h=>ah (dq h rfl (λhc=>?_) (λhc=>?_))
  ·refine kt (ah (Y9 (qr ?_)))
   have hkm:k<(aI L).length:=by omega
   have hkl:k<L.length:=by omega
   refine ai h (bz (bp.of_own (s.getSl 0 rfl)) (k) aa8 fp (h.ev rfl) (h.ev rfl) (by omega) (by omega)) rfl λf h=>aB ((bp.of_own (s.getSl 0 rfl)).el (k) (by omega) (by decide) (D:=az (L.getD k z3).1.me) ((fL (aI L) k hkm).trans (by rw [F8]))) h bH rfl (am _) rfl λf h=>aS (az bE) h s gI rfl rfl λf w1 b4 h s=>ak 0 h s bH rfl rfl rfl (am _) (am _) (cz _) λw1 s=>nt (ah ?_)
   refine rs ac 1 h rfl λf h=>aB (aJ.subL (aJ.of_own s 0 rfl) 1 32 (D:=aA (L.getD k z3).1.me.2) (fl _)) h cJ rfl (by first|exact aF _|exact aE _ _) rfl λf h=>eK h s FC (mL (L.getD k z3).1.me.2 _) rfl rfl (λe0 f w1 h s=>?_) (λe0 f w1 h s=>?_)
   ·refine e9 ac 1 h rfl λf h=>dQ h rfl (bF ac 1 h rfl λf h=>Y8 (bo (aV (aV (bo (aV (au rfl h s rfl (by show _=_;rw [GN hkl e0]))))))))
   ·refine e9 ac 1 h rfl λf h=>m4 h rfl (wpIn_skip (bw (aO (aG (ai h (bS (h.ev rfl) (h.ev rfl) (by omega)) rfl λf h=>e9 ac 1 h rfl λf h=>?_)))))
    exact ⟨_,by omega,⟨k+1,h.only ⟨rfl,rfl,rfl,rfl,av rfl (by omega),trivial⟩,St.as (s.pick _ (YJ [_] _)) ⟨rfl,rfl,trivial⟩,rfl,by omega,fm hp1 e0⟩⟩
  ·refine Za (a7 (a7 (cd (aO (bF ac 1 h rfl λf h=>Y8 (au rfl h s rfl (by show _=_;rw [FX r0 (λj hj=>hp1 j (by rw [hml] at *;omega))])))))))
set_option maxHeartbeats 4000000 in
theorem zu (vo vs vh vl vn:Value) (X:Wx) (kk:List Nat) (bc:Nat) (B9:List Own) (a:Ac) (va:Value)  (w0 w:World) (s:St w0 (.blk bc (.cells (ef vo vs vh vl X.M.last X.M.now vn) 83)::.sl vs 46 3 X.S.length (aQ X.S)::.sl vh 66 5 X.H.length (aC X.H)::.sl vn 59 74 ([]:List Nt).length (aH ([]:List Nt))::.grp kk (λw9=>RdC w9 vo vl X)::B9) w) (hbd:BdW (ax X)) (hL0:X.L=[]) (hS0:X.S=[]) (hU:∀ w9,St w0 B9 w9->ez w9 va a.l):Calls Tryz.prog 34 [.pointer (some ⟨bc,0,none⟩),.agg (bO a va)].toArray w (λe w9=>∃ v,e=.returned v/\Jd w0 bc 83 46 66 59 (mR (ax X) a) B9 v w9):=by
 have hml:(aI X.L).length<=1000:=by rw [hL0];exact YO _
 refine dG Tryz.func34 rfl Tryz.ntmps34 rfl [(0,.pointer (some ⟨bc,0,none⟩)),(1,.agg (bO a va))] (by simp) λf h=>?_
 refine qr (bh (bO a va) h s rfl rfl rfl λf w1 b3 h s=>e9 ac 1 h rfl λf h=>ah (ah ?_))
 refine rs ac 1 h rfl λf h=>ag (V:=.string a.d) (ae (aJ.of_own s 0 rfl) 37 (LQ _ _)) h hI rfl rfl λf h=>ai h (dd Z7 (h.ev rfl)) rfl λf h=>jo ac (decide (64<a.d.size)) h rfl ((YE.2 (by omega))) (λd0 f h=>?_) (λd0 f h=>?_)
 ·skip
  cases e0:(jh a.i:Bool)
  ·refine ap ac 2 h rfl λf h=>bX h rfl (aB (aJ.subL (aJ.of_own s 0 rfl) 4 32 (D:=aA a.i) (Ly _ _)) h cJ rfl (by first|exact aF _|exact aE _ _) rfl λf h=>bX h rfl (m9 false h s FC (mL a.i _) (e0) rfl rfl λf w1 h s=>e9 ac 2 h rfl λf h=>dQ h rfl (bF ac 1 h rfl λf h=>rt (d6 rfl h rfl (by replace s:=s.bring 5 rfl;replace s:=s.bring 5 rfl;replace s:=s.bring 5 rfl;replace s:=s.bring 5 rfl;replace s:=s.bring 5 rfl;exact ⟨_,rfl,iV (Gl (by rw [d0,e0];rfl)) (by decide) (s.pick _ (Yo _ (Yo _ (Yo _ (Yo _ (Yo _ (Yp _ (List.Sublist.refl _))))))))⟩)))))
  ·refine ap ac 2 h rfl λf h=>bX h rfl (aB (aJ.subL (aJ.of_own s 0 rfl) 4 32 (D:=aA a.i) (Ly _ _)) h cJ rfl (by first|exact aF _|exact aE _ _) rfl λf h=>bX h rfl (bB h s FC (aX (.bool true) (mL a.i _) (Yu Value.bool e0)) rfl rfl ?_));intro f w1 v9 hT hE h s;obtain rfl:=hT
   refine e9 ac 2 h rfl λf h=>qC h rfl (ah ?_)
   have hde:(decide (64<a.d.size) || !jh a.i)=false:=by rw [d0,e0];rfl
   refine eu 0 14 [[],[0],[0,1],[0,1,2],[0,1,2,3],[0,1,2,3,4],[],[6],[0,1,2,3,4,5,6,7],[0,1,2,3,4,5,6,7,8],[0,1,2,3,4,5,6,7,8,9],[0,1,2,3,4,5,6,7,8,9],[],[0,1,2,3,4,5,6,7,8,9,10,12],[0,1,2,3,4,5,6,7,8,9,10,11,12,13]] [[],[],[],[],[],[],[],[],[5],[],[],[],[],[12],[]] [] [.v _,.v _,.v _,.v _,.v (.agg (#[vo])),.m (λv=>[.sl (v 5) 69 33 (aI X.L).length (aw (aI X.L))]),.v _,.v (.agg (aA a.i)),.v (.tuple #[.agg (az (eh (aI X.L) a.i)),.int .i64 (si (aI X.L))]),.v _,.v _,.v _,.q (λv=>[.blk (tZ (v 12)) (.cells (az bE) 69)]),.m (λv=>[.blk (tZ (v 12)) (.cells (az (eh (aI X.L) a.i)) 69)]),.n] _ h s rfl (by kernel_rfl) (by kernel_rfl) (by kernel_rfl) (fB ac h rfl rfl rfl (fB ac h rfl rfl rfl (fB ac h rfl rfl rfl (fB ac h rfl rfl rfl (cp ?_ (cp ?_ (fB ac h rfl rfl rfl (cp ?_ (cp ?_ (fB ac h rfl rfl rfl (fB ac h rfl rfl rfl (fB ac h rfl rfl rfl (cp ?_ (cp ?_ (trivial))))))))))))))) [0,1,2,3,4,6,7,8,9,10,11,13] (by kernel_rfl) ?_
   ·intro f9 w2 vl3 E9 hs9 hd9 hl hF s
    have h:=cG [(24,_)] h hs9 hd9 ⟨bg hl 24 3 (by kernel_rfl) (hF 3 (by decide)),trivial⟩
    refine aB (aJ.subL (aJ.of_own s 1 rfl) 0 1 (D:=#[vo]) (Rp _ _ _ _ _ _ _)) h cv rfl (rfl) rfl λf h=>ay ⟨_,bk 25 h rfl rfl,rfl,s⟩
   ·intro f9 w2 vl3 E9 hs9 hd9 hl hF s
    have h:=cG [(25,_)] h hs9 hd9 ⟨bg hl 25 4 (by kernel_rfl) (hF 4 (by decide)),trivial⟩
    refine bB h s GY (iC X.L vo _ (s.getG 5 rfl).ov hbd.ox) rfl rfl ?_;intro f w1 v26 hT9 hE h sq;replace s:=s.sl_new hE hT9
    exact ay ⟨_,bk 26 h rfl rfl,trivial,s⟩
   ·intro f9 w2 vl3 E9 hs9 hd9 hl hF s
    have h:=cG [(27,_)] h hs9 hd9 ⟨bg hl 27 6 (by kernel_rfl) (hF 6 (by decide)),trivial⟩
    refine aB (aJ.subL (aJ.of_own s 0 rfl) 4 32 (D:=aA a.i) (Ly _ _)) h cJ rfl (by first|exact aF _|exact aE _ _) rfl λf h=>ay ⟨_,bk 28 h rfl rfl,rfl,s⟩
   ·intro f9 w2 vl3 E9 hs9 hd9 hl hF s
    have e26:f9.tmps.getD 26 undef=(vl3 5):=du hl 26 5 (by kernel_rfl) (by kernel_rfl)
    have e28:f9.tmps.getD 28 undef=.agg (aA a.i):=(du hl 28 7 (by kernel_rfl) (by kernel_rfl)).trans (hF 7 (by decide))
    have h:=cU [(26,(vl3 5)),(28,.agg (aA a.i))] (hs9.trans h.size) (hd9.trans h.defers) (holds_lk ⟨e26,e28,trivial⟩)
    refine da h s Sb (CG (aI X.L) (vl3 5) a.i _ (bp.of_own (s.getSl 0 rfl)) hml) rfl rfl λf w1 h s=>ay ⟨_,bk 29 h rfl rfl,rfl,(s.pick _ (Yp _ (Yo _ (Yo _ (Yo _ (Yo _ (Yo _ (Yo _ (List.Sublist.refl _)))))))))⟩
   ·intro f9 w2 vl3 E9 hs9 hd9 hl hF s
    have h:=cU [] (hs9.trans h.size) (hd9.trans h.defers) (holds_lk trivial)
    refine aS (az bE) h s gI rfl rfl λf w1 b5 h s=>ay ⟨_,bk 5 h rfl rfl,⟨_,rfl⟩,s⟩
   ·intro f9 w2 vl3 E9 hs9 hd9 hl hF s
    obtain ⟨b5,hb5⟩:∃ b,vl3 12=.pointer (some ⟨b,0,none⟩):=hF 12 (by decide)
    have e5:f9.tmps.getD 5 undef=.pointer (some ⟨b5,0,none⟩):=(du hl 5 12 (by kernel_rfl) (by kernel_rfl)).trans hb5
    have e30:f9.tmps.getD 30 undef=.agg (az (eh (aI X.L) a.i)):=(du hl 30 10 (by kernel_rfl) (by kernel_rfl)).trans (hF 10 (by decide))
    have h:=cU [(5,.pointer (some ⟨b5,0,none⟩)),(30,.agg (az (eh (aI X.L) a.i)))] (hs9.trans h.size) (hd9.trans h.defers) (holds_lk ⟨e5,e30,trivial⟩)
    replace s:St w0 (.blk (tZ (vl3 12)) (.cells (az bE) 69)::.blk b3 (.cells (bO a va) 36)::.blk bc (.cells (ef vo vs vh vl X.M.last X.M.now vn) 83)::.sl vs 46 3 X.S.length (aQ X.S)::.sl vh 66 5 X.H.length (aC X.H)::.sl vn 59 74 ([]:List Nt).length (aH ([]:List Nt))::(.grp kk (λw9=>RdC w9 vo vl X))::(B9++E9)) _:=s
    rw [hb5] at s
    replace s:St w0 (.blk b5 (.cells (az bE) 69)::.blk b3 (.cells (bO a va) 36)::.blk bc (.cells (ef vo vs vh vl X.M.last X.M.now vn) 83)::.sl vs 46 3 X.S.length (aQ X.S)::.sl vh 66 5 X.H.length (aC X.H)::.sl vn 59 74 ([]:List Nt).length (aH ([]:List Nt))::(.grp kk (λw9=>RdC w9 vo vl X))::(B9++E9)) _:=s
    refine ak 0 h s bH rfl rfl rfl (am _) (am _) (cz _) λw1 s=>ay ⟨undef,l8 rfl,trivial,?_⟩
    have z:=s
    rw [← show tZ (vl3 12)=b5 from by rw [hb5];rfl] at z
    exact z
   intro f w1 vl3 hs9 hd9 hv hr hF s
   replace hv:=λi d h9=>hv i d (show Nat.blt i 14=true from h9)
   obtain ⟨b5,hb5⟩:∃ b,vl3 12=.pointer (some ⟨b,0,none⟩):=hF 12 (by kernel_rfl)
   replace h:=dN 14 (ops:=_) [(21,_),(22,_),(23,_),(24,_),(25,_),(26,(vl3 5)),(27,_),(28,_),(29,_),(20,_),(30,_),(31,_),(5,.pointer (some ⟨b5,0,none⟩))] h hs9 hd9 hr ⟨(hv 0 21 rfl rfl).trans (hF 0 rfl),(hv 1 22 rfl rfl).trans (hF 1 rfl),(hv 2 23 rfl rfl).trans (hF 2 rfl),(hv 3 24 rfl rfl).trans (hF 3 rfl),(hv 4 25 rfl rfl).trans (hF 4 rfl),hv 5 26 rfl rfl,(hv 6 27 rfl rfl).trans (hF 6 rfl),(hv 7 28 rfl rfl).trans (hF 7 rfl),(hv 8 29 rfl rfl).trans (hF 8 rfl),(hv 9 20 rfl rfl).trans (hF 9 rfl),(hv 10 30 rfl rfl).trans (hF 10 rfl),(hv 11 31 rfl rfl).trans (hF 11 rfl),(hv 12 5 rfl rfl).trans hb5,trivial⟩ (by kernel_rfl)
   replace s:St w0 (.blk (tZ (vl3 12)) (.cells (az (eh (aI X.L) a.i)) 69)::.blk b3 (.cells (bO a va) 36)::.blk bc (.cells (ef vo vs vh vl X.M.last X.M.now vn) 83)::.sl vs 46 3 X.S.length (aQ X.S)::.sl vh 66 5 X.H.length (aC X.H)::.sl vn 59 74 ([]:List Nt).length (aH ([]:List Nt))::(.grp kk (λw9=>RdC w9 vo vl X))::B9) _:=s
   rw [hb5] at s
   replace s:St w0 (.blk b5 (.cells (az (eh (aI X.L) a.i)) 69)::.blk b3 (.cells (bO a va) 36)::.blk bc (.cells (ef vo vs vh vl X.M.last X.M.now vn) 83)::.sl vs 46 3 X.S.length (aQ X.S)::.sl vh 66 5 X.H.length (aC X.H)::.sl vn 59 74 ([]:List Nt).length (aH ([]:List Nt))::(.grp kk (λw9=>RdC w9 vo vl X))::B9) _:=s
   refine e9 ac 1 h rfl λf h=>ah (ow (γ:=List Nat × List N3) 0 18 [[],[0],[0,1],[0,1,2],[0,1,2,3],[],[5],[],[7],[5,6,7,8],[],[10],[0,1,2,3,4,5,6,7,8,9,10,11],[0,1,2,3,4,5,6,7,8,9,10,11,12],[0,1,2,3,4,5,6,7,8,9,10,11,12,13],[0,1,2,3,4,5,6,7,8,9,10,11,12,13],[],[0,1,2,3,4,5,6,7,8,9,10,11,12,13,14,16],[0,1,2,3,4,5,6,7,8,9,10,11,12,13,14,15,16,17]] [[],[],[],[],[],[],[],[],[],[],[],[],[],[],[],[],[],[16],[]] [] [.v _,.v _,.v _,.v _,.v (.agg (#[vo])),.v _,.v (.int .i64 a.no),.v _,.v (.agg (aA a.i)),.v (.agg (az (a.no,a.i))),.v _,.v (.int .i64 (eh (aI X.L) a.i).1),.r (λv=>[.grp (v 12).2.1 (λw9=>nds (v 12).2.2=(ra X.L (a.no,a.i) (eh (aI X.L) a.i).1)/\(Em vo X.L w9->kC w9 (lF (v 12).1) (v 12).2.2))]) (λv=>(v 12).1=.tuple #[.agg #[(lF (v 12).1)],.int .i64 (nQ X.L (a.no,a.i) (eh (aI X.L) a.i).1)]),.f (λv=>(v 13).1=.tuple #[.agg #[(lF (v 12).1)],.int .i64 (nQ X.L (a.no,a.i) (eh (aI X.L) a.i).1)]),.f (λv=>(v 14).1=.agg #[(lF (v 12).1)]),.v (.int .i64 (nQ X.L (a.no,a.i) (eh (aI X.L) a.i).1)),.q (λv=>[.blk (tZ (v 16).1) (.cells (#[aj]) 24)]),.m (λv=>[.blk (tZ (v 16).1) (.cells (#[(lF (v 12).1)]) 24)]),.n] _ h s rfl (by kernel_rfl) (by kernel_rfl) (by kernel_rfl) (kr ac h rfl rfl rfl (kr ac h rfl rfl rfl (kr ac h rfl rfl rfl (kr ac h rfl rfl rfl (cp ?_ (kr ac h rfl rfl rfl (cp ?_ (kr ac h rfl rfl rfl (cp ?_ (cp ?_ (kr ac h rfl rfl rfl (cp ?_ (cp ?_ (cp ?_ (cp ?_ (cp ?_ (cp ?_ (cp ?_ (trivial))))))))))))))))))) [0,1,2,3,4,5,6,7,8,9,10,11,12,13,14,15,17] (by kernel_rfl) ?_)
   ·intro f9 w2 vl4 E9 hs9 hd9 hl hF s
    have h:=cG [(36,_)] h hs9 hd9 ⟨bg hl 36 3 (by kernel_rfl) (hF 3 (by decide)),trivial⟩
    refine aB (aJ.subL (aJ.of_own s 2 rfl) 0 1 (D:=#[vo]) (Rp _ _ _ _ _ _ _)) h cv rfl (rfl) rfl λf h=>ay ⟨(_,default),bk 37 h rfl rfl,rfl,s⟩
   ·intro f9 w2 vl4 E9 hs9 hd9 hl hF s
    have h:=cG [(38,_)] h hs9 hd9 ⟨bg hl 38 5 (by kernel_rfl) (hF 5 (by decide)),trivial⟩
    refine ag (V:=.int .i64 a.no) (ae (aJ.of_own s 1 rfl) 1 (w6 _ _)) h bs rfl rfl λf h=>ay ⟨(_,default),bk 39 h rfl rfl,rfl,s⟩
   ·intro f9 w2 vl4 E9 hs9 hd9 hl hF s
    have h:=cG [(40,_)] h hs9 hd9 ⟨bg hl 40 7 (by kernel_rfl) (hF 7 (by decide)),trivial⟩
    refine aB (aJ.subL (aJ.of_own s 1 rfl) 4 32 (D:=aA a.i) (Ly _ _)) h cJ rfl (by first|exact aF _|exact aE _ _) rfl λf h=>ay ⟨(_,default),bk 41 h rfl rfl,rfl,s⟩
   ·intro f9 w2 vl4 E9 hs9 hd9 hl hF s
    have h:=cG [(39,_),(41,_)] h hs9 hd9 ⟨bg hl 39 6 (by kernel_rfl) (hF 6 (by decide)),bg hl 41 8 (by kernel_rfl) (hF 8 (by decide)),trivial⟩
    refine ai h (uv AU (h.ev rfl) (h.ev rfl)) rfl λf h=>ay ⟨(_,default),bk 42 h rfl rfl,rfl,s⟩
   ·intro f9 w2 vl4 E9 hs9 hd9 hl hF s
    have h:=cG [(43,_)] h hs9 hd9 ⟨bg hl 43 10 (by kernel_rfl) (hF 10 (by decide)),trivial⟩
    refine ag (ae (aJ.of_own s 0 rfl) 0 (cg _)) h bs rfl rfl λf h=>ay ⟨(_,default),bk 44 h rfl rfl,rfl,s⟩
   ·intro f9 w2 vl4 E9 hs9 hd9 hl hF s
    have h:=cG [(37,_),(42,_),(44,_)] h hs9 hd9 ⟨bg hl 37 4 (by kernel_rfl) (hF 4 (by decide)),bg hl 42 9 (by kernel_rfl) (hF 9 (by decide)),bg hl 44 11 (by kernel_rfl) (hF 11 (by decide)),trivial⟩
    have hcQ:=(s.getG 6 rfl)
    have hcR:=hcQ.ov
    refine bB h s R6 (Cz X.L vo (a.no,a.i) (eh (aI X.L) a.i).1 _ hcR hbd.ox hbd.oe) rfl rfl ?_;rintro f w1 v45 ⟨o9,hv9,vp,L1,k1,ho9,hnd,hG⟩ hE h sq;replace s:=s.add hG
    have hRn:=(s.getG 0 rfl) (RdC.keep hcQ hE).ov
    have h0v:vp=lF v45:=by rw [hv9,ho9];exact(yt hRn.1).symm
    clear hG hRn
    subst h0v
    replace s:=s.weak (S':=λw9=>nds L1=(ra X.L (a.no,a.i) (eh (aI X.L) a.i).1)/\(Em vo X.L w9->kC w9 (lF v45) L1)) (λw9 h9=>⟨hnd,h9⟩)
    have hvx:v45=.tuple #[.agg #[lF v45],.int .i64 (nQ X.L (a.no,a.i) (eh (aI X.L) a.i).1)]:=by rw [ho9] at hv9;exact hv9
    exact ay ⟨(_,(k1,L1)),bk 45 h rfl rfl,hvx,s⟩
   ·intro f9 w2 vl4 E9 hs9 hd9 hl hF s
    have h:=cG [(45,.tuple #[.agg #[(lF (vl4 12).1)],.int .i64 (nQ X.L (a.no,a.i) (eh (aI X.L) a.i).1)])] h hs9 hd9 ⟨bg hl 45 12 (by kernel_rfl) (hF 12 (by decide)),trivial⟩
    refine ap ac 1 h rfl λf h=>ay ⟨(_,default),bk 32 h rfl rfl,rfl,s⟩
   ·intro f9 w2 vl4 E9 hs9 hd9 hl hF s
    have h:=cG [(32,.tuple #[.agg #[(lF (vl4 12).1)],.int .i64 (nQ X.L (a.no,a.i) (eh (aI X.L) a.i).1)])] h hs9 hd9 ⟨bg hl 32 13 (by kernel_rfl) (hF 13 (by decide)),trivial⟩
    refine ap ac 1 h rfl λf h=>ay ⟨(_,default),bk 46 h rfl rfl,rfl,s⟩
   ·intro f9 w2 vl4 E9 hs9 hd9 hl hF s
    have h:=cG [(32,.tuple #[.agg #[(lF (vl4 12).1)],.int .i64 (nQ X.L (a.no,a.i) (eh (aI X.L) a.i).1)])] h hs9 hd9 ⟨bg hl 32 13 (by kernel_rfl) (hF 13 (by decide)),trivial⟩
    refine ap ac 1 h rfl λf h=>ay ⟨(_,default),bk 47 h rfl rfl,rfl,s⟩
   ·intro f9 w2 vl4 E9 hs9 hd9 hl hF s
    have h:=cU [] (hs9.trans h.size) (hd9.trans h.defers) (holds_lk trivial)
    refine aS (#[aj]) h s yH rfl rfl λf w1 b7 h s=>ay ⟨(_,default),bk 7 h rfl rfl,⟨_,rfl⟩,s⟩
   ·intro f9 w2 vl4 E9 hs9 hd9 hl hF s
    obtain ⟨b7,hb7⟩:∃ b,(vl4 16).1=.pointer (some ⟨b,0,none⟩):=hF 16 (by decide)
    have e7:f9.tmps.getD 7 undef=.pointer (some ⟨b7,0,none⟩):=(du hl 7 16 (by kernel_rfl) (by kernel_rfl)).trans hb7
    have e46:f9.tmps.getD 46 undef=.agg #[(lF (vl4 12).1)]:=(du hl 46 14 (by kernel_rfl) (by kernel_rfl)).trans (hF 14 (by decide))
    have h:=cU [(7,.pointer (some ⟨b7,0,none⟩)),(46,.agg #[(lF (vl4 12).1)])] (hs9.trans h.size) (hd9.trans h.defers) (holds_lk ⟨e7,e46,trivial⟩)
    replace s:St w0 (.blk (tZ (vl4 16).1) (.cells (#[aj]) 24)::.blk b5 (.cells (az (eh (aI X.L) a.i)) 69)::.blk b3 (.cells (bO a va) 36)::.blk bc (.cells (ef vo vs vh vl X.M.last X.M.now vn) 83)::.sl vs 46 3 X.S.length (aQ X.S)::.sl vh 66 5 X.H.length (aC X.H)::.sl vn 59 74 ([]:List Nt).length (aH ([]:List Nt))::(.grp kk (λw9=>RdC w9 vo vl X))::(B9++E9)) _:=s
    rw [hb7] at s
    replace s:St w0 (.blk b7 (.cells (#[aj]) 24)::.blk b5 (.cells (az (eh (aI X.L) a.i)) 69)::.blk b3 (.cells (bO a va) 36)::.blk bc (.cells (ef vo vs vh vl X.M.last X.M.now vn) 83)::.sl vs 46 3 X.S.length (aQ X.S)::.sl vh 66 5 X.H.length (aC X.H)::.sl vn 59 74 ([]:List Nt).length (aH ([]:List Nt))::(.grp kk (λw9=>RdC w9 vo vl X))::(B9++E9)) _:=s
    refine ak 0 h s cv rfl rfl rfl (rfl) (rfl) (fe (BI _)) λw1 s=>ay ⟨(undef,default),l8 rfl,trivial,?_⟩
    have z:=s
    rw [← show tZ (vl4 16).1=b7 from by rw [hb7];rfl] at z
    exact z
   intro f w1 vl4 hs9 hd9 hv hr hF s
   replace hv:=λi d h9=>hv i d (show Nat.blt i 18=true from h9)
   obtain ⟨b7,hb7⟩:∃ b,(vl4 16).1=.pointer (some ⟨b,0,none⟩):=hF 16 (by kernel_rfl)
   replace h:=dN 18 (ops:=_) [(33,_),(34,_),(35,_),(36,_),(37,_),(38,_),(39,_),(40,_),(41,_),(42,_),(43,_),(44,_),(45,.tuple #[.agg #[(lF (vl4 12).1)],.int .i64 (nQ X.L (a.no,a.i) (eh (aI X.L) a.i).1)]),(32,.tuple #[.agg #[(lF (vl4 12).1)],.int .i64 (nQ X.L (a.no,a.i) (eh (aI X.L) a.i).1)]),(46,.agg #[(lF (vl4 12).1)]),(47,_),(7,.pointer (some ⟨b7,0,none⟩))] h hs9 hd9 hr ⟨(hv 0 33 rfl rfl).trans (hF 0 rfl),(hv 1 34 rfl rfl).trans (hF 1 rfl),(hv 2 35 rfl rfl).trans (hF 2 rfl),(hv 3 36 rfl rfl).trans (hF 3 rfl),(hv 4 37 rfl rfl).trans (hF 4 rfl),(hv 5 38 rfl rfl).trans (hF 5 rfl),(hv 6 39 rfl rfl).trans (hF 6 rfl),(hv 7 40 rfl rfl).trans (hF 7 rfl),(hv 8 41 rfl rfl).trans (hF 8 rfl),(hv 9 42 rfl rfl).trans (hF 9 rfl),(hv 10 43 rfl rfl).trans (hF 10 rfl),(hv 11 44 rfl rfl).trans (hF 11 rfl),(hv 12 45 rfl rfl).trans (hF 12 rfl),(hv 13 32 rfl rfl).trans (hF 13 rfl),(hv 14 46 rfl rfl).trans (hF 14 rfl),(hv 15 47 rfl rfl).trans (hF 15 rfl),(hv 16 7 rfl rfl).trans hb7,trivial⟩ (by kernel_rfl)
   replace s:St w0 (.grp (vl4 12).2.1 (λw9=>nds (vl4 12).2.2=(ra X.L (a.no,a.i) (eh (aI X.L) a.i).1)/\(Em vo X.L w9->kC w9 (lF (vl4 12).1) (vl4 12).2.2))::.blk (tZ (vl4 16).1) (.cells (#[(lF (vl4 12).1)]) 24)::.blk b5 (.cells (az (eh (aI X.L) a.i)) 69)::.blk b3 (.cells (bO a va) 36)::.blk bc (.cells (ef vo vs vh vl X.M.last X.M.now vn) 83)::.sl vs 46 3 X.S.length (aQ X.S)::.sl vh 66 5 X.H.length (aC X.H)::.sl vn 59 74 ([]:List Nt).length (aH ([]:List Nt))::(.grp kk (λw9=>RdC w9 vo vl X))::B9) _:=s
   rw [hb7] at s
   replace s:St w0 (.grp (vl4 12).2.1 (λw9=>nds (vl4 12).2.2=(ra X.L (a.no,a.i) (eh (aI X.L) a.i).1)/\(Em vo X.L w9->kC w9 (lF (vl4 12).1) (vl4 12).2.2))::.blk b7 (.cells (#[(lF (vl4 12).1)]) 24)::.blk b5 (.cells (az (eh (aI X.L) a.i)) 69)::.blk b3 (.cells (bO a va) 36)::.blk bc (.cells (ef vo vs vh vl X.M.last X.M.now vn) 83)::.sl vs 46 3 X.S.length (aQ X.S)::.sl vh 66 5 X.H.length (aC X.H)::.sl vn 59 74 ([]:List Nt).length (aH ([]:List Nt))::(.grp kk (λw9=>RdC w9 vo vl X))::B9) _:=s
   refine e9 ac 1 h rfl λf h=>ah (bF ac 2 h rfl λf h=>cA h rfl (λhc=>?_) (λhc=>?_))
   ·have x0:¬ (nQ X.L (a.no,a.i) (eh (aI X.L) a.i).1)=0:=Yq hc
    refine bF ac 2 h rfl λf h=>rt (d6 rfl h rfl (by replace s:=s.bring 8 rfl;replace s:=s.bring 8 rfl;replace s:=s.bring 8 rfl;replace s:=s.bring 8 rfl;replace s:=s.bring 8 rfl;exact ⟨_,rfl,iV (R:=mR (ax X) a) (OQ hL0 hde _ x0) x0 (s.pick _ (Yo _ (Yo _ (Yo _ (Yo _ (Yo _ (Yp _ (Yp _ (Yp _ (Yp _ (List.Sublist.refl _)))))))))))⟩))
   ·have x0:(nQ X.L (a.no,a.i) (eh (aI X.L) a.i).1)=0:=Decidable.of_not_not (Yr hc)
    refine kt (cu ac 1 h rfl λf h=>ag (V:=.int .i64 a.no) (ae (aJ.of_own s 3 rfl) 1 (w6 _ _)) h bs rfl rfl λf h=>ap ac 1 h rfl λf h=>ag (V:=.string a.d) (ae (aJ.of_own s 3 rfl) 37 (LQ _ _)) h hI rfl rfl λf h=>ai h (sK TA (h.ev rfl) (h.ev rfl)) rfl λf h=>aS (de 0 ByteArray.empty aj) h s zD rfl rfl λf w1 b9 h s=>ak 0 h s i8 rfl rfl rfl (cB _ _ _) (cB _ _ _) (kR _ _ (rfl)) λw1 s=>nt (ah (cu ac 1 h rfl λf h=>lL ac (.bool false) h rfl (by rw [JM X.L hL0];rfl) rfl λf h=>f7 h rfl (cu ac 1 h rfl λf h=>al 2 h s cv rfl rfl (rfl) rfl λf h=>ap ac 3 h rfl λf h=>nO 5 h s cv rfl rfl rfl (rfl) (by rw [gx];omega) (fe (BI _)) λw1 s=>?_))))
    replace s:=s.recell (D:=ef ((lF (vl4 12).1)) vs vh vl X.M.last X.M.now vn) 5 rfl rfl
    refine nt (ah ?_)
    replace s:=s.bring 6 rfl
    replace s:St w0 (.sl vs 46 3 X.S.length (aQ X.S)::.blk b9 (.cells (de a.no a.d aj) 46)::(.grp (vl4 12).2.1 (λw9=>nds (vl4 12).2.2=(ra X.L (a.no,a.i) (eh (aI X.L) a.i).1)/\(Em vo X.L w9->kC w9 (lF (vl4 12).1) (vl4 12).2.2)))::.blk b7 (.cells (#[(lF (vl4 12).1)]) 24)::.blk b5 (.cells (az (eh (aI X.L) a.i)) 69)::.blk b3 (.cells (bO a va) 36)::.blk bc (.cells (ef ((lF (vl4 12).1)) vs vh vl X.M.last X.M.now vn) 83)::.sl vh 66 5 X.H.length (aC X.H)::.sl vn 59 74 ([]:List Nt).length (aH ([]:List Nt))::(.grp kk (λw9=>RdC w9 vo vl X))::B9) _:=s
    refine eu 1 8 [[],[],[1],[1,2],[1,2,3],[1,2,3,4],[],[1,2,3,4,5,6],[0,1,2,3,4,5,6,7],[0,1,2,3,4,5,6,7,8],[0,1,2,3,4,5,6,7,8,9],[0,1,2,3,4,5,6,7,8,9,10]] [[],[],[],[],[],[],[],[12],[],[],[],[]] [[_]] [.v _,.v _,.v _,.v _,.v _,.v vs,.v (.agg (de a.no a.d aj)),.m (λv=>[.sl (v 7) 46 3 1 (aQ [((⟨a.no,a.d,[]⟩:Sv),aj)])]),.n,.n,.n,.n] _ h s rfl (by kernel_rfl) (by kernel_rfl) (by kernel_rfl) (fB ac h rfl rfl rfl (fB ac h rfl rfl rfl (fB ac h rfl rfl rfl (fB ac h rfl rfl rfl (fB ac h rfl rfl rfl (cp ?_ (cp ?_ (cp ?_ (trivial))))))))) [0,1,2,3,4,5,6,7] (by kernel_rfl) ?_
    ·intro f9 w2 vl11 E9 hs9 hd9 hl hF s
     have h:=cG [(77,_)] h hs9 hd9 ⟨bg hl 77 4 (by kernel_rfl) (hF 4 (by decide)),trivial⟩
     refine ag (V:=vs) (ae (aJ.of_own s 5 rfl) 1 (Vp _ _ _ _ _ _ _)) h kL rfl rfl λf h=>ay ⟨_,bk 78 h rfl rfl,rfl,s⟩
    ·intro f9 w2 vl11 E9 hs9 hd9 hl hF s
     have h:=cG [(9,_)] h hs9 hd9 ⟨fh hl 9 (by kernel_rfl) (h.holds 9 _ rfl),trivial⟩
     refine al 0 h s i8 rfl rfl (cB _ _ _) rfl λf h=>ay ⟨_,bk 79 h rfl rfl,rfl,s⟩
    ·intro f9 w2 vl11 E9 hs9 hd9 hl hF s
     have h:=cG [(78,_),(79,_)] h hs9 hd9 ⟨bg hl 78 5 (by kernel_rfl) (hF 5 (by decide)),bg hl 79 6 (by kernel_rfl) (hF 6 (by decide)),trivial⟩
     replace s:=s.resl (m:=([]:List V2).length) (ys:=aQ []) 0 rfl (by rw [hS0]) (by rw [hS0])
     refine dI [vs,.agg (de a.no a.d aj),.func (.func 76) #[] #[]] h SN (tD [] ((⟨a.no,a.d,[]⟩:Sv),aj) vs _ _ _ s (YO _) (λx hx=>by cases hx) rfl (List.pairwise_singleton _ _)) rfl rfl ?_;rintro f w1 v80 ⟨K,hkp,hks,s⟩ h
     obtain rfl:=List.perm_singleton.1 hkp
     exact ay ⟨_,bk 80 h rfl rfl,trivial,s⟩
    intro f w1 vl11 hs9 hd9 hv hr hF s
    replace hv:=λi d h9=>hv i d (show Nat.blt i 8=true from h9)
    replace h:=dN 8 (ops:=_) [(73,_),(74,_),(75,_),(76,_),(77,_),(78,_),(79,_),(80,(vl11 7))] h hs9 hd9 hr ⟨(hv 0 73 rfl rfl).trans (hF 0 rfl),(hv 1 74 rfl rfl).trans (hF 1 rfl),(hv 2 75 rfl rfl).trans (hF 2 rfl),(hv 3 76 rfl rfl).trans (hF 3 rfl),(hv 4 77 rfl rfl).trans (hF 4 rfl),(hv 5 78 rfl rfl).trans (hF 5 rfl),(hv 6 79 rfl rfl).trans (hF 6 rfl),hv 7 80 rfl rfl,trivial⟩ (by kernel_rfl)
    replace s:St w0 (.sl (vl11 7) 46 3 1 (aQ [((⟨a.no,a.d,[]⟩:Sv),aj)])::.blk b9 (.cells (de a.no a.d aj) 46)::(.grp (vl4 12).2.1 (λw9=>nds (vl4 12).2.2=(ra X.L (a.no,a.i) (eh (aI X.L) a.i).1)/\(Em vo X.L w9->kC w9 (lF (vl4 12).1) (vl4 12).2.2)))::.blk b7 (.cells (#[(lF (vl4 12).1)]) 24)::.blk b5 (.cells (az (eh (aI X.L) a.i)) 69)::.blk b3 (.cells (bO a va) 36)::.blk bc (.cells (ef ((lF (vl4 12).1)) vs vh vl X.M.last X.M.now vn) 83)::.sl vh 66 5 X.H.length (aC X.H)::.sl vn 59 74 ([]:List Nt).length (aH ([]:List Nt))::(.grp kk (λw9=>RdC w9 vo vl X))::B9) _:=s
    refine ap ac 3 h rfl λf h=>aR 6 h s kL rfl rfl rfl (by rw [gx];omega) (bA (s.getSl 0 rfl)) λw1 s=>?_
    replace s:=s.recell (D:=ef ((lF (vl4 12).1)) (vl11 7) vh vl X.M.last X.M.now vn) 6 rfl (rfl)
    refine nt (bF ac 1 h rfl λf h=>Y8 (d6 rfl h rfl (by replace s:=s.bring 8 rfl;replace s:=s.bring 8 rfl;replace s:=s.bring 2 rfl;replace s:=s.bring 8 rfl;replace s:=s.bring 9 rfl;replace s:=s.bring 6 rfl;exact ⟨_,rfl,C7 (a:=a) hL0 hS0 hde x0 (s.pick _ (Yo _ (Yo _ (Yo _ (Yo _ (Yo _ (Yo _ (Yp _ (Yp _ (Yp _ (Yp _ (List.Sublist.refl _))))))))))))⟩)))
 ·refine e9 ac 6 h rfl λf h=>dQ h rfl (bF ac 1 h rfl λf h=>rt (d6 rfl h rfl (by replace s:=s.bring 5 rfl;replace s:=s.bring 5 rfl;replace s:=s.bring 5 rfl;replace s:=s.bring 5 rfl;replace s:=s.bring 5 rfl;exact ⟨_,rfl,iV (Gl (by rw [d0];rfl)) (by decide) (s.pick _ (Yo _ (Yo _ (Yo _ (Yo _ (Yo _ (Yp _ (List.Sublist.refl _))))))))⟩)))
end Go.Proofs.YtkhepdpfdhdlaaaGreatDoor
