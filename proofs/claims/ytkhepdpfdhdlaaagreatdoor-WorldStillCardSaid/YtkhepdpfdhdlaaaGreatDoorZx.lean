/- Package world and what it stands on, so far as it is wanted: what each function answers. -/
import Derived.Test.YtkhepdpfdhdlaaaGreatDoorZr
import Derived.Test.YtkhepdpfdhdlaaaGreatDoorZa
import Derived.Test.YtkhepdpfdhdlaaaGreatDoorZi
import Derived.Test.YtkhepdpfdhdlaaaGreatDoorZm
import Derived.Test.YtkhepdpfdhdlaaaGreatDoorZq
set_option linter.unusedVariables false
set_option linter.unusedSimpArgs false
set_option linter.unusedSectionVars false
namespace Go.Proofs.YtkhepdpfdhdlaaaGreatDoor
open Go.RowKit
theorem F0 (L:List N3) (vo:Value)  (w:World) (hO:kB w vo L) (hL:L.length<=40) (hb:RwB L):Calls Tryz.prog 14 [.agg #[vo]].toArray w (cd w (is (.bool (mi L)))):=by
 have hml:(aQ L).length=L.length:=av6 _
 refine bN Tryz.func14 rfl Tryz.ntmps14 rfl λf h s=>qr (aZ (#[vo]) h s rfl rfl rfl λf w1 b1 h s=>e9 ac 1 h rfl λf h=>ah (ah ?_))
 cases r0:(kH L:Bool)
 ·refine aG (ak 0 h s cc rfl rfl (rfl) rfl λf h=>jc false h s El (j9 L vo _ (hO.keep s.ext) hL hb) (r0) rfl rfl λf w1 h s=>e9 ac 1 h rfl λf h=>dw h rfl (bJ ac 1 h rfl λf h=>rt (aA rfl h s rfl (by show _=_;rw [S0 L r0]))))
 ·refine aG (ak 0 h s cc rfl rfl (rfl) rfl λf h=>bB h s El (a6 (.bool true) (j9 L vo _ (hO.keep s.ext) hL hb) (ar8 Value.bool r0)) rfl rfl ?_);intro f w1 v9 hT hE h s;obtain rfl:=hT
  refine e9 ac 1 h rfl λf h=>mQ h rfl (ah (qr (ak 0 h s cc rfl rfl (rfl) rfl λf h=>bB h s KE (j5 L vo _ (hO.keep s.ext) hL) rfl rfl ?_)));intro f w1 v9 hT hE h sq;replace s:=s.sl_new hE hT
  refine f7 0 h s aD1 rfl rfl rfl λf h=>e9 ac 1 h rfl λf h=>av9 (aw1 (λnn aa ww=>∃ k:Nat,Sl 20 aa [(0,.agg #[vo]),(1,.pointer (some ⟨b1,0,none⟩)),(9,v9),(10,.int .i64 ((aQ L).length:Int)),(11,.int .i64 (k:Int))]/\St w [.sl v9 69 33 (aQ L).length (ap (aQ L)),.blk b1 (.cells (#[vo]) 24)] ww/\nn=(aQ L).length - k/\k<=(aQ L).length/\∀ j,j<k->kC (L.getD j z3).1.me.2=true) ((aQ L).length - (0)) ⟨0,h.only ⟨rfl,rfl,rfl,rfl,aD rfl (by omega),trivial⟩,s.as ⟨rfl,rfl,trivial⟩,rfl,at8 _,λj hj=>az2 hj (ax1 _)⟩ ?_)
  rintro _ f w1 ⟨k,h,s,hnn,hp0,hp1⟩
  refine bJ ac 1 h rfl λf h=>ah (dA h rfl (λhc=>?_) (λhc=>?_))
  ·refine kt (ah (av9 (qr ?_)))
   have hkm:k<(aQ L).length:=by omega
   have hkl:k<L.length:=by omega
   refine am h (bg (br.of_own (s.getSl 0 rfl)) (k) aD1 ed (h.ev rfl) (h.ev rfl) (by omega) (by omega)) rfl λf h=>az ((br.of_own (s.getSl 0 rfl)).el (k) (by omega) (by decide) (D:=ay (L.getD k z3).1.me) ((fu (aQ L) k hkm).trans (by rw [J0]))) h aY rfl (ai _) rfl λf h=>aO (ay bz) h s eV rfl rfl λf w1 b4 h s=>aj 0 h s aY rfl rfl rfl (ai _) (ai _) (bI _) λw1 s=>nt (ah ?_)
   refine rs ac 1 h rfl λf h=>az (aF.subL (aF.of_own s 0 rfl) 1 32 (D:=aI (L.getD k z3).1.me.2) (c8 _)) h ca rfl (by first|exact aC _|exact aB _ _) rfl λf h=>eC h s Jo (oQ (L.getD k z3).1.me.2 _) rfl rfl (λe0 f w1 h s=>?_) (λe0 f w1 h s=>?_)
   ·refine e9 ac 1 h rfl λf h=>dw h rfl (bJ ac 1 h rfl λf h=>av8 (bh (aU (aU (bh (aU (aA rfl h s rfl (by show _=_;rw [I8 hkl e0]))))))))
   ·refine e9 ac 1 h rfl λf h=>mM h rfl (wpIn_skip (bo (aK (aG (am h (bY (h.ev rfl) (h.ev rfl) (by omega)) rfl λf h=>e9 ac 1 h rfl λf h=>?_)))))
    exact ⟨_,by omega,⟨k+1,h.only ⟨rfl,rfl,rfl,rfl,aD rfl (by omega),trivial⟩,St.as (s.pick _ (at3 [_] _)) ⟨rfl,rfl,trivial⟩,rfl,by omega,eu hp1 e0⟩⟩
  ·refine aw0 (ba (ba (cj (aK (bJ ac 1 h rfl λf h=>av8 (aA rfl h s rfl (by show _=_;rw [KI r0 (λj hj=>hp1 j (by rw [hml] at *;omega))])))))))
set_option maxHeartbeats 4000000 in
theorem BD (vo vs vh vl vn:Value) (X:Wx) (kk:List Nat) (bc:Nat) (B9:List Own) (a:Ac) (va:Value)  (w0 w:World) (s:St w0 (.blk bc (.cells (dZ vo vs vh vl X.M.last X.M.now vn) 83)::.sl vs 46 3 X.S.length (aR X.S)::.sl vh 66 5 X.H.length (aM X.H)::.sl vn 59 74 ([]:List Nt).length (aW ([]:List Nt))::.grp kk (λw9=>RdC w9 vo vl X)::B9) w) (hbd:BdW (aH X)) (hL0:X.L=[]) (hS0:X.S=[]) (hU:∀ w9,St w0 B9 w9->gf w9 va a.l):Calls Tryz.prog 34 [.pointer (some ⟨bc,0,none⟩),.agg (bM a va)].toArray w (λe w9=>∃ v,e=.returned v/\Cf w0 bc 83 46 66 59 (oI (aH X) a) B9 v w9):=by
 have hml:(aQ X.L).length<=1000:=by rw [hL0];exact at8 _
 refine cO Tryz.func34 rfl Tryz.ntmps34 rfl [(0,.pointer (some ⟨bc,0,none⟩)),(1,.agg (bM a va))] (by simp) λf h=>?_
 refine qr (aZ (bM a va) h s rfl rfl rfl λf w1 b3 h s=>e9 ac 1 h rfl λf h=>ah (ah ?_))
 refine rs ac 1 h rfl λf h=>ag (V:=.string a.d) (ae (aF.of_own s 0 rfl) 37 (M1 _ _)) h gK rfl rfl λf h=>am h (dX aB9 (h.ev rfl)) rfl λf h=>kE ac (decide (64<a.d.size)) h rfl ((as8.2 (by omega))) (λd0 f h=>?_) (λd0 f h=>?_)
 ·skip
  cases e0:(kC a.i:Bool)
  ·refine al ac 2 h rfl λf h=>bF h rfl (az (aF.subL (aF.of_own s 0 rfl) 4 32 (D:=aI a.i) (P2 _ _)) h ca rfl (by first|exact aC _|exact aB _ _) rfl λf h=>bF h rfl (jc false h s Jo (oQ a.i _) (e0) rfl rfl λf w1 h s=>e9 ac 2 h rfl λf h=>dw h rfl (bJ ac 1 h rfl λf h=>rt (dG rfl h rfl (by replace s:=s.bring 5 rfl;replace s:=s.bring 5 rfl;replace s:=s.bring 5 rfl;replace s:=s.bring 5 rfl;replace s:=s.bring 5 rfl;exact ⟨_,rfl,lR (JV (by rw [d0,e0];rfl)) (by decide) (s.pick _ (ar2 _ (ar2 _ (ar2 _ (ar2 _ (ar2 _ (ar3 _ (List.Sublist.refl _))))))))⟩)))))
  ·refine al ac 2 h rfl λf h=>bF h rfl (az (aF.subL (aF.of_own s 0 rfl) 4 32 (D:=aI a.i) (P2 _ _)) h ca rfl (by first|exact aC _|exact aB _ _) rfl λf h=>bF h rfl (bB h s Jo (a6 (.bool true) (oQ a.i _) (ar8 Value.bool e0)) rfl rfl ?_));intro f w1 v9 hT hE h s;obtain rfl:=hT
   refine e9 ac 2 h rfl λf h=>mQ h rfl (ah ?_)
   have hde:(decide (64<a.d.size) || !kC a.i)=false:=by rw [d0,e0];rfl
   refine fH 0 14 [[],[0],[0,1],[0,1,2],[0,1,2,3],[0,1,2,3,4],[],[6],[0,1,2,3,4,5,6,7],[0,1,2,3,4,5,6,7,8],[0,1,2,3,4,5,6,7,8,9],[0,1,2,3,4,5,6,7,8,9],[],[0,1,2,3,4,5,6,7,8,9,10,12],[0,1,2,3,4,5,6,7,8,9,10,11,12,13]] [[],[],[],[],[],[],[],[],[5],[],[],[],[],[12],[]] [] [.v _,.v _,.v _,.v _,.v (.agg (#[vo])),.m (λv=>[.sl (v 5) 69 33 (aQ X.L).length (ap (aQ X.L))]),.v _,.v (.agg (aI a.i)),.v (.tuple #[.agg (ay (fl (aQ X.L) a.i)),.int .i64 (u0 (aQ X.L))]),.v _,.v _,.v _,.q (λv=>[.blk (sO (v 12)) (.cells (ay bz) 69)]),.m (λv=>[.blk (sO (v 12)) (.cells (ay (fl (aQ X.L) a.i)) 69)]),.n] _ h s rfl (by kernel_rfl) (by kernel_rfl) (by kernel_rfl) (fJ ac h rfl rfl rfl (fJ ac h rfl rfl rfl (fJ ac h rfl rfl rfl (fJ ac h rfl rfl rfl (bW ?_ (bW ?_ (fJ ac h rfl rfl rfl (bW ?_ (bW ?_ (fJ ac h rfl rfl rfl (fJ ac h rfl rfl rfl (fJ ac h rfl rfl rfl (bW ?_ (bW ?_ (trivial))))))))))))))) [0,1,2,3,4,6,7,8,9,10,11,13] (by kernel_rfl) ?_
   ·intro f9 w2 vl3 E9 hs9 hd9 hl hF s
    have h:=cb [(24,_)] h hs9 hd9 ⟨aS hl 24 3 (by kernel_rfl) (hF 3 (by decide)),trivial⟩
    refine az (aF.subL (aF.of_own s 1 rfl) 0 1 (D:=#[vo]) (Vl _ _ _ _ _ _ _)) h cc rfl (rfl) rfl λf h=>aw ⟨_,aV 25 h rfl rfl,rfl,s⟩
   ·intro f9 w2 vl3 E9 hs9 hd9 hl hF s
    have h:=cb [(25,_)] h hs9 hd9 ⟨aS hl 25 4 (by kernel_rfl) (hF 4 (by decide)),trivial⟩
    refine bB h s KE (j5 X.L vo _ (s.getG 5 rfl).ov hbd.ox) rfl rfl ?_;intro f w1 v26 hT9 hE h sq;replace s:=s.sl_new hE hT9
    exact aw ⟨_,aV 26 h rfl rfl,trivial,s⟩
   ·intro f9 w2 vl3 E9 hs9 hd9 hl hF s
    have h:=cb [(27,_)] h hs9 hd9 ⟨aS hl 27 6 (by kernel_rfl) (hF 6 (by decide)),trivial⟩
    refine az (aF.subL (aF.of_own s 0 rfl) 4 32 (D:=aI a.i) (P2 _ _)) h ca rfl (by first|exact aC _|exact aB _ _) rfl λf h=>aw ⟨_,aV 28 h rfl rfl,rfl,s⟩
   ·intro f9 w2 vl3 E9 hs9 hd9 hl hF s
    have e26:f9.tmps.getD 26 undef=(vl3 5):=dO hl 26 5 (by kernel_rfl) (by kernel_rfl)
    have e28:f9.tmps.getD 28 undef=.agg (aI a.i):=(dO hl 28 7 (by kernel_rfl) (by kernel_rfl)).trans (hF 7 (by decide))
    have h:=dy [(26,(vl3 5)),(28,.agg (aI a.i))] (hs9.trans h.size) (hd9.trans h.defers) (holds_lk ⟨e26,e28,trivial⟩)
    refine dM h s V6 (FI (aQ X.L) (vl3 5) a.i _ (br.of_own (s.getSl 0 rfl)) hml) rfl rfl λf w1 h s=>aw ⟨_,aV 29 h rfl rfl,rfl,(s.pick _ (ar3 _ (ar2 _ (ar2 _ (ar2 _ (ar2 _ (ar2 _ (ar2 _ (List.Sublist.refl _)))))))))⟩
   ·intro f9 w2 vl3 E9 hs9 hd9 hl hF s
    have h:=dy [] (hs9.trans h.size) (hd9.trans h.defers) (holds_lk trivial)
    refine aO (ay bz) h s eV rfl rfl λf w1 b5 h s=>aw ⟨_,aV 5 h rfl rfl,⟨_,rfl⟩,s⟩
   ·intro f9 w2 vl3 E9 hs9 hd9 hl hF s
    obtain ⟨b5,hb5⟩:∃ b,vl3 12=.pointer (some ⟨b,0,none⟩):=hF 12 (by decide)
    have e5:f9.tmps.getD 5 undef=.pointer (some ⟨b5,0,none⟩):=(dO hl 5 12 (by kernel_rfl) (by kernel_rfl)).trans hb5
    have e30:f9.tmps.getD 30 undef=.agg (ay (fl (aQ X.L) a.i)):=(dO hl 30 10 (by kernel_rfl) (by kernel_rfl)).trans (hF 10 (by decide))
    have h:=dy [(5,.pointer (some ⟨b5,0,none⟩)),(30,.agg (ay (fl (aQ X.L) a.i)))] (hs9.trans h.size) (hd9.trans h.defers) (holds_lk ⟨e5,e30,trivial⟩)
    replace s:St w0 (.blk (sO (vl3 12)) (.cells (ay bz) 69)::.blk b3 (.cells (bM a va) 36)::.blk bc (.cells (dZ vo vs vh vl X.M.last X.M.now vn) 83)::.sl vs 46 3 X.S.length (aR X.S)::.sl vh 66 5 X.H.length (aM X.H)::.sl vn 59 74 ([]:List Nt).length (aW ([]:List Nt))::(.grp kk (λw9=>RdC w9 vo vl X))::(B9++E9)) _:=s
    rw [hb5] at s
    replace s:St w0 (.blk b5 (.cells (ay bz) 69)::.blk b3 (.cells (bM a va) 36)::.blk bc (.cells (dZ vo vs vh vl X.M.last X.M.now vn) 83)::.sl vs 46 3 X.S.length (aR X.S)::.sl vh 66 5 X.H.length (aM X.H)::.sl vn 59 74 ([]:List Nt).length (aW ([]:List Nt))::(.grp kk (λw9=>RdC w9 vo vl X))::(B9++E9)) _:=s
    refine aj 0 h s aY rfl rfl rfl (ai _) (ai _) (bI _) λw1 s=>aw ⟨undef,gd rfl,trivial,?_⟩
    have z:=s
    rw [← show sO (vl3 12)=b5 from by rw [hb5];rfl] at z
    exact z
   intro f w1 vl3 hs9 hd9 hv hr hF s
   replace hv:=λi d h9=>hv i d (show Nat.blt i 14=true from h9)
   obtain ⟨b5,hb5⟩:∃ b,vl3 12=.pointer (some ⟨b,0,none⟩):=hF 12 (by kernel_rfl)
   replace h:=eI 14 (ops:=_) [(21,_),(22,_),(23,_),(24,_),(25,_),(26,(vl3 5)),(27,_),(28,_),(29,_),(20,_),(30,_),(31,_),(5,.pointer (some ⟨b5,0,none⟩))] h hs9 hd9 hr ⟨(hv 0 21 rfl rfl).trans (hF 0 rfl),(hv 1 22 rfl rfl).trans (hF 1 rfl),(hv 2 23 rfl rfl).trans (hF 2 rfl),(hv 3 24 rfl rfl).trans (hF 3 rfl),(hv 4 25 rfl rfl).trans (hF 4 rfl),hv 5 26 rfl rfl,(hv 6 27 rfl rfl).trans (hF 6 rfl),(hv 7 28 rfl rfl).trans (hF 7 rfl),(hv 8 29 rfl rfl).trans (hF 8 rfl),(hv 9 20 rfl rfl).trans (hF 9 rfl),(hv 10 30 rfl rfl).trans (hF 10 rfl),(hv 11 31 rfl rfl).trans (hF 11 rfl),(hv 12 5 rfl rfl).trans hb5,trivial⟩ (by kernel_rfl)
   replace s:St w0 (.blk (sO (vl3 12)) (.cells (ay (fl (aQ X.L) a.i)) 69)::.blk b3 (.cells (bM a va) 36)::.blk bc (.cells (dZ vo vs vh vl X.M.last X.M.now vn) 83)::.sl vs 46 3 X.S.length (aR X.S)::.sl vh 66 5 X.H.length (aM X.H)::.sl vn 59 74 ([]:List Nt).length (aW ([]:List Nt))::(.grp kk (λw9=>RdC w9 vo vl X))::B9) _:=s
   rw [hb5] at s
   replace s:St w0 (.blk b5 (.cells (ay (fl (aQ X.L) a.i)) 69)::.blk b3 (.cells (bM a va) 36)::.blk bc (.cells (dZ vo vs vh vl X.M.last X.M.now vn) 83)::.sl vs 46 3 X.S.length (aR X.S)::.sl vh 66 5 X.H.length (aM X.H)::.sl vn 59 74 ([]:List Nt).length (aW ([]:List Nt))::(.grp kk (λw9=>RdC w9 vo vl X))::B9) _:=s
   refine e9 ac 1 h rfl λf h=>ah (wR (γ:=List Nat × List N3) 0 18 [[],[0],[0,1],[0,1,2],[0,1,2,3],[],[5],[],[7],[5,6,7,8],[],[10],[0,1,2,3,4,5,6,7,8,9,10,11],[0,1,2,3,4,5,6,7,8,9,10,11,12],[0,1,2,3,4,5,6,7,8,9,10,11,12,13],[0,1,2,3,4,5,6,7,8,9,10,11,12,13],[],[0,1,2,3,4,5,6,7,8,9,10,11,12,13,14,16],[0,1,2,3,4,5,6,7,8,9,10,11,12,13,14,15,16,17]] [[],[],[],[],[],[],[],[],[],[],[],[],[],[],[],[],[],[16],[]] [] [.v _,.v _,.v _,.v _,.v (.agg (#[vo])),.v _,.v (.int .i64 a.no),.v _,.v (.agg (aI a.i)),.v (.agg (ay (a.no,a.i))),.v _,.v (.int .i64 (fl (aQ X.L) a.i).1),.r (λv=>[.grp (v 12).2.1 (λw9=>nds (v 12).2.2=(um X.L (a.no,a.i) (fl (aQ X.L) a.i).1)/\(EY vo X.L w9->kB w9 (eL (v 12).1) (v 12).2.2))]) (λv=>(v 12).1=.tuple #[.agg #[(eL (v 12).1)],.int .i64 (p8 X.L (a.no,a.i) (fl (aQ X.L) a.i).1)]),.f (λv=>(v 13).1=.tuple #[.agg #[(eL (v 12).1)],.int .i64 (p8 X.L (a.no,a.i) (fl (aQ X.L) a.i).1)]),.f (λv=>(v 14).1=.agg #[(eL (v 12).1)]),.v (.int .i64 (p8 X.L (a.no,a.i) (fl (aQ X.L) a.i).1)),.q (λv=>[.blk (sO (v 16).1) (.cells (#[au]) 24)]),.m (λv=>[.blk (sO (v 16).1) (.cells (#[(eL (v 12).1)]) 24)]),.n] _ h s rfl (by kernel_rfl) (by kernel_rfl) (by kernel_rfl) (qz ac h rfl rfl rfl (qz ac h rfl rfl rfl (qz ac h rfl rfl rfl (qz ac h rfl rfl rfl (bW ?_ (qz ac h rfl rfl rfl (bW ?_ (qz ac h rfl rfl rfl (bW ?_ (bW ?_ (qz ac h rfl rfl rfl (bW ?_ (bW ?_ (bW ?_ (bW ?_ (bW ?_ (bW ?_ (bW ?_ (trivial))))))))))))))))))) [0,1,2,3,4,5,6,7,8,9,10,11,12,13,14,15,17] (by kernel_rfl) ?_)
   ·intro f9 w2 vl4 E9 hs9 hd9 hl hF s
    have h:=cb [(36,_)] h hs9 hd9 ⟨aS hl 36 3 (by kernel_rfl) (hF 3 (by decide)),trivial⟩
    refine az (aF.subL (aF.of_own s 2 rfl) 0 1 (D:=#[vo]) (Vl _ _ _ _ _ _ _)) h cc rfl (rfl) rfl λf h=>aw ⟨(_,default),aV 37 h rfl rfl,rfl,s⟩
   ·intro f9 w2 vl4 E9 hs9 hd9 hl hF s
    have h:=cb [(38,_)] h hs9 hd9 ⟨aS hl 38 5 (by kernel_rfl) (hF 5 (by decide)),trivial⟩
    refine ag (V:=.int .i64 a.no) (ae (aF.of_own s 1 rfl) 1 (FW _ _)) h bu rfl rfl λf h=>aw ⟨(_,default),aV 39 h rfl rfl,rfl,s⟩
   ·intro f9 w2 vl4 E9 hs9 hd9 hl hF s
    have h:=cb [(40,_)] h hs9 hd9 ⟨aS hl 40 7 (by kernel_rfl) (hF 7 (by decide)),trivial⟩
    refine az (aF.subL (aF.of_own s 1 rfl) 4 32 (D:=aI a.i) (P2 _ _)) h ca rfl (by first|exact aC _|exact aB _ _) rfl λf h=>aw ⟨(_,default),aV 41 h rfl rfl,rfl,s⟩
   ·intro f9 w2 vl4 E9 hs9 hd9 hl hF s
    have h:=cb [(39,_),(41,_)] h hs9 hd9 ⟨aS hl 39 6 (by kernel_rfl) (hF 6 (by decide)),aS hl 41 8 (by kernel_rfl) (hF 8 (by decide)),trivial⟩
    refine am h (xI AK (h.ev rfl) (h.ev rfl)) rfl λf h=>aw ⟨(_,default),aV 42 h rfl rfl,rfl,s⟩
   ·intro f9 w2 vl4 E9 hs9 hd9 hl hF s
    have h:=cb [(43,_)] h hs9 hd9 ⟨aS hl 43 10 (by kernel_rfl) (hF 10 (by decide)),trivial⟩
    refine ag (ae (aF.of_own s 0 rfl) 0 (cf _)) h bu rfl rfl λf h=>aw ⟨(_,default),aV 44 h rfl rfl,rfl,s⟩
   ·intro f9 w2 vl4 E9 hs9 hd9 hl hF s
    have h:=cb [(37,_),(42,_),(44,_)] h hs9 hd9 ⟨aS hl 37 4 (by kernel_rfl) (hF 4 (by decide)),aS hl 42 9 (by kernel_rfl) (hF 9 (by decide)),aS hl 44 11 (by kernel_rfl) (hF 11 (by decide)),trivial⟩
    have hcQ:=(s.getG 6 rfl)
    have hcR:=hcQ.ov
    refine bB h s Xh (F4 X.L vo (a.no,a.i) (fl (aQ X.L) a.i).1 _ hcR hbd.ox hbd.oe) rfl rfl ?_;rintro f w1 v45 ⟨o9,hv9,vp,L1,k1,ho9,hnd,hG⟩ hE h sq;replace s:=s.add hG
    have hRn:=(s.getG 0 rfl) (RdC.keep hcQ hE).ov
    have h0v:vp=eL v45:=by rw [hv9,ho9];exact(LO hRn.1).symm
    clear hG hRn
    subst h0v
    replace s:=s.weak (S':=λw9=>nds L1=(um X.L (a.no,a.i) (fl (aQ X.L) a.i).1)/\(EY vo X.L w9->kB w9 (eL v45) L1)) (λw9 h9=>⟨hnd,h9⟩)
    have hvx:v45=.tuple #[.agg #[eL v45],.int .i64 (p8 X.L (a.no,a.i) (fl (aQ X.L) a.i).1)]:=by rw [ho9] at hv9;exact hv9
    exact aw ⟨(_,(k1,L1)),aV 45 h rfl rfl,hvx,s⟩
   ·intro f9 w2 vl4 E9 hs9 hd9 hl hF s
    have h:=cb [(45,.tuple #[.agg #[(eL (vl4 12).1)],.int .i64 (p8 X.L (a.no,a.i) (fl (aQ X.L) a.i).1)])] h hs9 hd9 ⟨aS hl 45 12 (by kernel_rfl) (hF 12 (by decide)),trivial⟩
    refine al ac 1 h rfl λf h=>aw ⟨(_,default),aV 32 h rfl rfl,rfl,s⟩
   ·intro f9 w2 vl4 E9 hs9 hd9 hl hF s
    have h:=cb [(32,.tuple #[.agg #[(eL (vl4 12).1)],.int .i64 (p8 X.L (a.no,a.i) (fl (aQ X.L) a.i).1)])] h hs9 hd9 ⟨aS hl 32 13 (by kernel_rfl) (hF 13 (by decide)),trivial⟩
    refine al ac 1 h rfl λf h=>aw ⟨(_,default),aV 46 h rfl rfl,rfl,s⟩
   ·intro f9 w2 vl4 E9 hs9 hd9 hl hF s
    have h:=cb [(32,.tuple #[.agg #[(eL (vl4 12).1)],.int .i64 (p8 X.L (a.no,a.i) (fl (aQ X.L) a.i).1)])] h hs9 hd9 ⟨aS hl 32 13 (by kernel_rfl) (hF 13 (by decide)),trivial⟩
    refine al ac 1 h rfl λf h=>aw ⟨(_,default),aV 47 h rfl rfl,rfl,s⟩
   ·intro f9 w2 vl4 E9 hs9 hd9 hl hF s
    have h:=dy [] (hs9.trans h.size) (hd9.trans h.defers) (holds_lk trivial)
    refine aO (#[au]) h s qF rfl rfl λf w1 b7 h s=>aw ⟨(_,default),aV 7 h rfl rfl,⟨_,rfl⟩,s⟩
   ·intro f9 w2 vl4 E9 hs9 hd9 hl hF s
    obtain ⟨b7,hb7⟩:∃ b,(vl4 16).1=.pointer (some ⟨b,0,none⟩):=hF 16 (by decide)
    have e7:f9.tmps.getD 7 undef=.pointer (some ⟨b7,0,none⟩):=(dO hl 7 16 (by kernel_rfl) (by kernel_rfl)).trans hb7
    have e46:f9.tmps.getD 46 undef=.agg #[(eL (vl4 12).1)]:=(dO hl 46 14 (by kernel_rfl) (by kernel_rfl)).trans (hF 14 (by decide))
    have h:=dy [(7,.pointer (some ⟨b7,0,none⟩)),(46,.agg #[(eL (vl4 12).1)])] (hs9.trans h.size) (hd9.trans h.defers) (holds_lk ⟨e7,e46,trivial⟩)
    replace s:St w0 (.blk (sO (vl4 16).1) (.cells (#[au]) 24)::.blk b5 (.cells (ay (fl (aQ X.L) a.i)) 69)::.blk b3 (.cells (bM a va) 36)::.blk bc (.cells (dZ vo vs vh vl X.M.last X.M.now vn) 83)::.sl vs 46 3 X.S.length (aR X.S)::.sl vh 66 5 X.H.length (aM X.H)::.sl vn 59 74 ([]:List Nt).length (aW ([]:List Nt))::(.grp kk (λw9=>RdC w9 vo vl X))::(B9++E9)) _:=s
    rw [hb7] at s
    replace s:St w0 (.blk b7 (.cells (#[au]) 24)::.blk b5 (.cells (ay (fl (aQ X.L) a.i)) 69)::.blk b3 (.cells (bM a va) 36)::.blk bc (.cells (dZ vo vs vh vl X.M.last X.M.now vn) 83)::.sl vs 46 3 X.S.length (aR X.S)::.sl vh 66 5 X.H.length (aM X.H)::.sl vn 59 74 ([]:List Nt).length (aW ([]:List Nt))::(.grp kk (λw9=>RdC w9 vo vl X))::(B9++E9)) _:=s
    refine aj 0 h s cc rfl rfl rfl (rfl) (rfl) (ey (lT _)) λw1 s=>aw ⟨(undef,default),gd rfl,trivial,?_⟩
    have z:=s
    rw [← show sO (vl4 16).1=b7 from by rw [hb7];rfl] at z
    exact z
   intro f w1 vl4 hs9 hd9 hv hr hF s
   replace hv:=λi d h9=>hv i d (show Nat.blt i 18=true from h9)
   obtain ⟨b7,hb7⟩:∃ b,(vl4 16).1=.pointer (some ⟨b,0,none⟩):=hF 16 (by kernel_rfl)
   replace h:=eI 18 (ops:=_) [(33,_),(34,_),(35,_),(36,_),(37,_),(38,_),(39,_),(40,_),(41,_),(42,_),(43,_),(44,_),(45,.tuple #[.agg #[(eL (vl4 12).1)],.int .i64 (p8 X.L (a.no,a.i) (fl (aQ X.L) a.i).1)]),(32,.tuple #[.agg #[(eL (vl4 12).1)],.int .i64 (p8 X.L (a.no,a.i) (fl (aQ X.L) a.i).1)]),(46,.agg #[(eL (vl4 12).1)]),(47,_),(7,.pointer (some ⟨b7,0,none⟩))] h hs9 hd9 hr ⟨(hv 0 33 rfl rfl).trans (hF 0 rfl),(hv 1 34 rfl rfl).trans (hF 1 rfl),(hv 2 35 rfl rfl).trans (hF 2 rfl),(hv 3 36 rfl rfl).trans (hF 3 rfl),(hv 4 37 rfl rfl).trans (hF 4 rfl),(hv 5 38 rfl rfl).trans (hF 5 rfl),(hv 6 39 rfl rfl).trans (hF 6 rfl),(hv 7 40 rfl rfl).trans (hF 7 rfl),(hv 8 41 rfl rfl).trans (hF 8 rfl),(hv 9 42 rfl rfl).trans (hF 9 rfl),(hv 10 43 rfl rfl).trans (hF 10 rfl),(hv 11 44 rfl rfl).trans (hF 11 rfl),(hv 12 45 rfl rfl).trans (hF 12 rfl),(hv 13 32 rfl rfl).trans (hF 13 rfl),(hv 14 46 rfl rfl).trans (hF 14 rfl),(hv 15 47 rfl rfl).trans (hF 15 rfl),(hv 16 7 rfl rfl).trans hb7,trivial⟩ (by kernel_rfl)
   replace s:St w0 (.grp (vl4 12).2.1 (λw9=>nds (vl4 12).2.2=(um X.L (a.no,a.i) (fl (aQ X.L) a.i).1)/\(EY vo X.L w9->kB w9 (eL (vl4 12).1) (vl4 12).2.2))::.blk (sO (vl4 16).1) (.cells (#[(eL (vl4 12).1)]) 24)::.blk b5 (.cells (ay (fl (aQ X.L) a.i)) 69)::.blk b3 (.cells (bM a va) 36)::.blk bc (.cells (dZ vo vs vh vl X.M.last X.M.now vn) 83)::.sl vs 46 3 X.S.length (aR X.S)::.sl vh 66 5 X.H.length (aM X.H)::.sl vn 59 74 ([]:List Nt).length (aW ([]:List Nt))::(.grp kk (λw9=>RdC w9 vo vl X))::B9) _:=s
   rw [hb7] at s
   replace s:St w0 (.grp (vl4 12).2.1 (λw9=>nds (vl4 12).2.2=(um X.L (a.no,a.i) (fl (aQ X.L) a.i).1)/\(EY vo X.L w9->kB w9 (eL (vl4 12).1) (vl4 12).2.2))::.blk b7 (.cells (#[(eL (vl4 12).1)]) 24)::.blk b5 (.cells (ay (fl (aQ X.L) a.i)) 69)::.blk b3 (.cells (bM a va) 36)::.blk bc (.cells (dZ vo vs vh vl X.M.last X.M.now vn) 83)::.sl vs 46 3 X.S.length (aR X.S)::.sl vh 66 5 X.H.length (aM X.H)::.sl vn 59 74 ([]:List Nt).length (aW ([]:List Nt))::(.grp kk (λw9=>RdC w9 vo vl X))::B9) _:=s
   refine e9 ac 1 h rfl λf h=>ah (bJ ac 2 h rfl λf h=>cr h rfl (λhc=>?_) (λhc=>?_))
   ·have x0:¬ (p8 X.L (a.no,a.i) (fl (aQ X.L) a.i).1)=0:=ar4 hc
    refine bJ ac 2 h rfl λf h=>rt (dG rfl h rfl (by replace s:=s.bring 8 rfl;replace s:=s.bring 8 rfl;replace s:=s.bring 8 rfl;replace s:=s.bring 8 rfl;replace s:=s.bring 8 rfl;exact ⟨_,rfl,lR (R:=oI (aH X) a) (Ud hL0 hde _ x0) x0 (s.pick _ (ar2 _ (ar2 _ (ar2 _ (ar2 _ (ar2 _ (ar3 _ (ar3 _ (ar3 _ (ar3 _ (List.Sublist.refl _)))))))))))⟩))
   ·have x0:(p8 X.L (a.no,a.i) (fl (aQ X.L) a.i).1)=0:=Decidable.of_not_not (ar5 hc)
    refine kt (cw ac 1 h rfl λf h=>ag (V:=.int .i64 a.no) (ae (aF.of_own s 3 rfl) 1 (FW _ _)) h bu rfl rfl λf h=>al ac 1 h rfl λf h=>ag (V:=.string a.d) (ae (aF.of_own s 3 rfl) 37 (M1 _ _)) h gK rfl rfl λf h=>am h (vz W5 (h.ev rfl) (h.ev rfl)) rfl λf h=>aO (de 0 ByteArray.empty au) h s B7 rfl rfl λf w1 b9 h s=>aj 0 h s ip rfl rfl rfl (cD _ _ _) (cD _ _ _) (m7 _ _ (rfl)) λw1 s=>nt (ah (cw ac 1 h rfl λf h=>lr ac (.bool false) h rfl (by rw [NX X.L hL0];rfl) rfl λf h=>fL h rfl (cw ac 1 h rfl λf h=>ak 2 h s cc rfl rfl (rfl) rfl λf h=>al ac 3 h rfl λf h=>eg 5 h s cc rfl rfl rfl (rfl) (by rw [gH];omega) (ey (lT _)) λw1 s=>?_))))
    replace s:=s.recell (D:=dZ ((eL (vl4 12).1)) vs vh vl X.M.last X.M.now vn) 5 rfl rfl
    refine nt (ah ?_)
    replace s:=s.bring 6 rfl
    replace s:St w0 (.sl vs 46 3 X.S.length (aR X.S)::.blk b9 (.cells (de a.no a.d au) 46)::(.grp (vl4 12).2.1 (λw9=>nds (vl4 12).2.2=(um X.L (a.no,a.i) (fl (aQ X.L) a.i).1)/\(EY vo X.L w9->kB w9 (eL (vl4 12).1) (vl4 12).2.2)))::.blk b7 (.cells (#[(eL (vl4 12).1)]) 24)::.blk b5 (.cells (ay (fl (aQ X.L) a.i)) 69)::.blk b3 (.cells (bM a va) 36)::.blk bc (.cells (dZ ((eL (vl4 12).1)) vs vh vl X.M.last X.M.now vn) 83)::.sl vh 66 5 X.H.length (aM X.H)::.sl vn 59 74 ([]:List Nt).length (aW ([]:List Nt))::(.grp kk (λw9=>RdC w9 vo vl X))::B9) _:=s
    refine fH 1 8 [[],[],[1],[1,2],[1,2,3],[1,2,3,4],[],[1,2,3,4,5,6],[0,1,2,3,4,5,6,7],[0,1,2,3,4,5,6,7,8],[0,1,2,3,4,5,6,7,8,9],[0,1,2,3,4,5,6,7,8,9,10]] [[],[],[],[],[],[],[],[12],[],[],[],[]] [[_]] [.v _,.v _,.v _,.v _,.v _,.v vs,.v (.agg (de a.no a.d au)),.m (λv=>[.sl (v 7) 46 3 1 (aR [((⟨a.no,a.d,[]⟩:Sv),au)])]),.n,.n,.n,.n] _ h s rfl (by kernel_rfl) (by kernel_rfl) (by kernel_rfl) (fJ ac h rfl rfl rfl (fJ ac h rfl rfl rfl (fJ ac h rfl rfl rfl (fJ ac h rfl rfl rfl (fJ ac h rfl rfl rfl (bW ?_ (bW ?_ (bW ?_ (trivial))))))))) [0,1,2,3,4,5,6,7] (by kernel_rfl) ?_
    ·intro f9 w2 vl11 E9 hs9 hd9 hl hF s
     have h:=cb [(77,_)] h hs9 hd9 ⟨aS hl 77 4 (by kernel_rfl) (hF 4 (by decide)),trivial⟩
     refine ag (V:=vs) (ae (aF.of_own s 5 rfl) 1 (ad4 _ _ _ _ _ _ _)) h fB rfl rfl λf h=>aw ⟨_,aV 78 h rfl rfl,rfl,s⟩
    ·intro f9 w2 vl11 E9 hs9 hd9 hl hF s
     have h:=cb [(9,_)] h hs9 hd9 ⟨d5 hl 9 (by kernel_rfl) (h.holds 9 _ rfl),trivial⟩
     refine ak 0 h s ip rfl rfl (cD _ _ _) rfl λf h=>aw ⟨_,aV 79 h rfl rfl,rfl,s⟩
    ·intro f9 w2 vl11 E9 hs9 hd9 hl hF s
     have h:=cb [(78,_),(79,_)] h hs9 hd9 ⟨aS hl 78 5 (by kernel_rfl) (hF 5 (by decide)),aS hl 79 6 (by kernel_rfl) (hF 6 (by decide)),trivial⟩
     replace s:=s.resl (m:=([]:List V2).length) (ys:=aR []) 0 rfl (by rw [hS0]) (by rw [hS0])
     refine cF [vs,.agg (de a.no a.d au),.func (.func 76) #[] #[]] h YB (xH [] ((⟨a.no,a.d,[]⟩:Sv),au) vs _ _ _ s (at8 _) (λx hx=>by cases hx) rfl (List.pairwise_singleton _ _)) rfl rfl ?_;rintro f w1 v80 ⟨K,hkp,hks,s⟩ h
     obtain rfl:=List.perm_singleton.1 hkp
     exact aw ⟨_,aV 80 h rfl rfl,trivial,s⟩
    intro f w1 vl11 hs9 hd9 hv hr hF s
    replace hv:=λi d h9=>hv i d (show Nat.blt i 8=true from h9)
    replace h:=eI 8 (ops:=_) [(73,_),(74,_),(75,_),(76,_),(77,_),(78,_),(79,_),(80,(vl11 7))] h hs9 hd9 hr ⟨(hv 0 73 rfl rfl).trans (hF 0 rfl),(hv 1 74 rfl rfl).trans (hF 1 rfl),(hv 2 75 rfl rfl).trans (hF 2 rfl),(hv 3 76 rfl rfl).trans (hF 3 rfl),(hv 4 77 rfl rfl).trans (hF 4 rfl),(hv 5 78 rfl rfl).trans (hF 5 rfl),(hv 6 79 rfl rfl).trans (hF 6 rfl),hv 7 80 rfl rfl,trivial⟩ (by kernel_rfl)
    replace s:St w0 (.sl (vl11 7) 46 3 1 (aR [((⟨a.no,a.d,[]⟩:Sv),au)])::.blk b9 (.cells (de a.no a.d au) 46)::(.grp (vl4 12).2.1 (λw9=>nds (vl4 12).2.2=(um X.L (a.no,a.i) (fl (aQ X.L) a.i).1)/\(EY vo X.L w9->kB w9 (eL (vl4 12).1) (vl4 12).2.2)))::.blk b7 (.cells (#[(eL (vl4 12).1)]) 24)::.blk b5 (.cells (ay (fl (aQ X.L) a.i)) 69)::.blk b3 (.cells (bM a va) 36)::.blk bc (.cells (dZ ((eL (vl4 12).1)) vs vh vl X.M.last X.M.now vn) 83)::.sl vh 66 5 X.H.length (aM X.H)::.sl vn 59 74 ([]:List Nt).length (aW ([]:List Nt))::(.grp kk (λw9=>RdC w9 vo vl X))::B9) _:=s
    refine al ac 3 h rfl λf h=>aJ 6 h s fB rfl rfl rfl (by rw [gH];omega) (aT (s.getSl 0 rfl)) λw1 s=>?_
    replace s:=s.recell (D:=dZ ((eL (vl4 12).1)) (vl11 7) vh vl X.M.last X.M.now vn) 6 rfl (rfl)
    refine nt (bJ ac 1 h rfl λf h=>av8 (dG rfl h rfl (by replace s:=s.bring 8 rfl;replace s:=s.bring 8 rfl;replace s:=s.bring 2 rfl;replace s:=s.bring 8 rfl;replace s:=s.bring 9 rfl;replace s:=s.bring 6 rfl;exact ⟨_,rfl,FJ (a:=a) hL0 hS0 hde x0 (s.pick _ (ar2 _ (ar2 _ (ar2 _ (ar2 _ (ar2 _ (ar2 _ (ar3 _ (ar3 _ (ar3 _ (ar3 _ (List.Sublist.refl _))))))))))))⟩)))
 ·refine e9 ac 6 h rfl λf h=>dw h rfl (bJ ac 1 h rfl λf h=>rt (dG rfl h rfl (by replace s:=s.bring 5 rfl;replace s:=s.bring 5 rfl;replace s:=s.bring 5 rfl;replace s:=s.bring 5 rfl;replace s:=s.bring 5 rfl;exact ⟨_,rfl,lR (JV (by rw [d0];rfl)) (by decide) (s.pick _ (ar2 _ (ar2 _ (ar2 _ (ar2 _ (ar2 _ (ar3 _ (List.Sublist.refl _))))))))⟩)))
end Go.Proofs.YtkhepdpfdhdlaaaGreatDoor
