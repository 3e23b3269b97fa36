/- Package chord and what it stands on, so far as it is wanted: what each function answers. -/
import Derived.Test.YthmlflaiidhoiaaGreatDoorZa
import Derived.Test.YthmlflaiidhoiaaGreatDoorZo
import Derived.Test.YthmlflaiidhoiaaGreatDoorZp
set_option linter.unusedVariables false
set_option linter.unusedSimpArgs false
set_option linter.unusedSectionVars false
namespace Go.Proofs.YthmlflaiidhoiaaGreatDoor
open Go.RowKit
set_option maxHeartbeats 4000000 in
theorem BM (K:List N3) (ks:List Nat) (vq:Value) (kx:Nat) (B9:List Own) (w0 w:World) (s:St w0 (.sl vq 63 68 K.length (au K)::.grp ks (eI K)::B9) w) (hk:kx<K.length) (hRS:RS K):Calls Tryz.prog 162 [.agg #[vq],.pointer (some (bf vq (kx*68)))].toArray w (λe w9=>∃ r,e=.returned r/\∃ K9 kn,nds K9=fl (nds K) (K.getD kx z3).1.me.1/\St w0 (.sl vq 63 68 K9.length (au K9)::.grp kn (eI K9)::B9) w9):=by
 have hx0:RN (K.getD kx z3).1:=hRS.rn _ (bE hk)
 have hl16:=hRS.len
 refine da Tryz.func162 rfl Tryz.ntmps162 rfl [(0,.agg #[vq]),(1,.pointer (some (bf vq (kx*68))))] (by simp) λf h=>?_
 refine qr (ba (#[vq]) h s rfl rfl rfl λf w1 b2 h s=>nt (qr (al 0 h s cH rfl rfl (rfl) rfl λf h=>bg h s SN (CM K vq _ ⟨(a7.of_own (s.getSl 1 rfl)),λy hy=>(s.getG 2 rfl y hy)⟩ (by omega) (VC hRS.inc)) rfl rfl ?_)));rintro f w1 v8 ⟨bm,rfl,hS⟩ hE h sq;replace s:=s.add hS;clear hS
 refine e9 ac 1 h rfl λf h=>cw ac 2 h rfl λf h=>?_
 replace s:=s.bring 3 rfl
 replace s:=s.bring 3 rfl
 replace s:St w0 (.sl vq 63 68 K.length (au K)::(.grp ks (eI K))::.blk bm (jE (dc K))::.blk b2 (.cells (#[vq]) 24)::B9) _:=s
 refine df [.pointer (some (bf vq (kx*68))),.map (some bm)] h Sp (xn K ks (dc K) (av K) vq kx bm _ _ _ s hk (by omega) hx0 (by have:=hx0.len;have:=hx0.fg.1;omega) (vv hRS.nos)) rfl rfl ?_;rintro f w1 r ⟨du,dv,k1,s⟩ h
 obtain ⟨K1,hK1⟩:∃ x9,x9=K.set kx (((tA K kx),du,dv):N3):=⟨_,rfl⟩
 rw [← hK1] at s
 have hx1:K1.getD kx z3=((tA K kx),du,dv):=by rw [hK1];exact kZ hk _
 have hl1:K1.length=K.length:=by rw [hK1,List.length_set]
 have hT1:RN (tA K kx):=wE hx0
 obtain ⟨hp1,hR1,hm1⟩:=pm hRS hk (x:=((tA K kx),du,dv)) rfl hT1
 rw [← hK1] at hp1 hR1 hm1
 have hn1:nds K1=jI (nds K) (tA K kx):=by rw [hp1,ik]
 have hT1l:=hT1.len
 have hT1f:=hT1.fg.1
 have hf1:bu (av K1) ((tA K kx).sc.getD 0 aS).1=true:=by rw [hm1];exact lR hx0 (Ar hRS hk)
 obtain ⟨hi1,hg1,hgm1⟩:=lE hR1 hf1
 replace hg1:(tB K K1 kx)=_:=hg1
 have hsr:RN (tB K K1 kx).1:=by rw [hg1];exact hR1.rn _ hgm1
 have hsl:=hsr.len
 have hsf:=hsr.fg.1
 have hts:=ur (l:=av K1) hsr
 refine nt (ag (nI 0 [[],[],[1],[1,2],[1,2,3],[1,2,3,4],[1,2,3,4,5],[1,2,3,4,5,6],[0,1,2,3,4,5,6,7],[0,1,2,3,4,5,6,7,8],[0,1,2,3,4,5,6,7,8,9],[],[0,1,2,3,4,5,6,7,8,9,10,11]] [[],[],[],[],[],[],[],[],[],[],[],[],[11]] [] [.v (.agg (#[vq])),.v _,.v _,.v (.pointer (some (bf vq (kx*68+66)))),.v du,.v (.pointer (some (bf du (0*33)))),.v (.pointer (some (bf du (0*33+0)))),.v (.int .i64 (((tA K kx).sc.getD 0 aS).1)),.v (.pointer (some (bf vq ((tX K K1 kx)*68)))),.v _,.v (.agg (Ry (tB K K1 kx))),.q (λv=>[.blk (G4 (v 11)) (.cells (aR aS aS aq aq) 63)]),.m (λv=>[.blk (G4 (v 11)) (.cells (Ry (tB K K1 kx)) 63)])] _ h s rfl (by kernel_rfl) (by kernel_rfl) (by kernel_rfl) (cq ?_ (iG ac h rfl rfl rfl (iG ac h rfl rfl rfl (cq ?_ (cq ?_ (cq ?_ (cq ?_ (cq ?_ (cq ?_ (iG ac h rfl rfl rfl (cq ?_ (cq ?_ (cq ?_ (trivial)))))))))))))) [0,1,2,3,4,5,6,7,8,9,10,12] (by kernel_rfl) ?_))
 ·intro f9 w2 vl3 E9 hs9 hd9 hl hF s
  have h:=cJ [(2,_)] h hs9 hd9 ⟨gp hl 2 (by kernel_rfl) (h.holds 2 _ rfl),trivial⟩
  refine al 3 h s cH rfl rfl (rfl) rfl λf h=>aE ⟨_,bq 12 h rfl rfl,rfl,s⟩
 ·intro f9 w2 vl3 E9 hs9 hd9 hl hF s
  have h:=cJ [(14,_)] h hs9 hd9 ⟨bp hl 14 2 (by kernel_rfl) (hF 2 (by decide)),trivial⟩
  refine ak h (a6 fU (h.ev rfl) ((a7.of_own (s.getSl 0 rfl)).some (by omega))) rfl λf h=>aE ⟨_,bq 15 h rfl rfl,rfl,s⟩
 ·intro f9 w2 vl3 E9 hs9 hd9 hl hF s
  have h:=cJ [(15,_)] h hs9 hd9 ⟨bp hl 15 3 (by kernel_rfl) (hF 3 (by decide)),trivial⟩
  refine ai (V:=du) (dt (a7.of_own (s.getSl 0 rfl)) (kx*68+66) ((kc K1 kx (by omega)).trans (by rw [hx1]))) h ci rfl rfl λf h=>aE ⟨_,bq 16 h rfl rfl,rfl,s⟩
 ·intro f9 w2 vl3 E9 hs9 hd9 hl hF s
  have h:=cJ [(16,_)] h hs9 hd9 ⟨bp hl 16 4 (by kernel_rfl) (hF 4 (by decide)),trivial⟩
  refine ak h (bj ((eP (s.getG 1 rfl) (show kx<K1.length by omega) hx1).1) (0) aA6 dd (h.ev rfl) (h.ev rfl) (by omega) (by omega)) rfl λf h=>aE ⟨_,bq 17 h rfl rfl,rfl,s⟩
 ·intro f9 w2 vl3 E9 hs9 hd9 hl hF s
  have h:=cJ [(17,_)] h hs9 hd9 ⟨bp hl 17 5 (by kernel_rfl) (hF 5 (by decide)),trivial⟩
  refine ak h (a6 gS (h.ev rfl) (((eP (s.getG 1 rfl) (show kx<K1.length by omega) hx1).1).some (by omega))) rfl λf h=>aE ⟨_,bq 18 h rfl rfl,rfl,s⟩
 ·intro f9 w2 vl3 E9 hs9 hd9 hl hF s
  have h:=cJ [(18,_)] h hs9 hd9 ⟨bp hl 18 6 (by kernel_rfl) (hF 6 (by decide)),trivial⟩
  refine ai (V:=.int .i64 ((tA K kx).sc.getD 0 aS).1) (dt ((eP (s.getG 1 rfl) (show kx<K1.length by omega) hx1).1) (0*33+0) (z6 (tA K kx).sc 0 (by omega))) h bQ rfl rfl λf h=>aE ⟨_,bq 19 h rfl rfl,rfl,s⟩
 ·intro f9 w2 vl3 E9 hs9 hd9 hl hF s
  have h:=cJ [(12,_),(19,_)] h hs9 hd9 ⟨bp hl 12 0 (by kernel_rfl) (hF 0 (by decide)),bp hl 19 7 (by kernel_rfl) (hF 7 (by decide)),trivial⟩
  refine fP h s ny (bK (.pointer (some (bf vq ((tX K K1 kx)*68)))) (gK K1 vq (((tA K kx).sc.getD 0 aS).1) _ ⟨(a7.of_own (s.getSl 0 rfl)),λy hy=>(s.getG 1 rfl y hy)⟩ (by omega)) (yT hi1)) rfl rfl λf w1 h s=>aE ⟨_,bq 20 h rfl rfl,rfl,s⟩
 ·intro f9 w2 vl3 E9 hs9 hd9 hl hF s
  have h:=cJ [(21,_)] h hs9 hd9 ⟨bp hl 21 9 (by kernel_rfl) (hF 9 (by decide)),trivial⟩
  refine ax ((a7.of_own (s.getSl 0 rfl)).el ((tX K K1 kx)) (by omega) (by decide) (D:=aR (tB K K1 kx).1.me (tB K K1 kx).1.pr (tB K K1 kx).2.1 (tB K K1 kx).2.2) (eZ K1 _ hi1)) h bI rfl (ao _ _ _ _) rfl λf h=>aE ⟨_,bq 22 h rfl rfl,rfl,s⟩
 ·intro f9 w2 vl3 E9 hs9 hd9 hl hF s
  have h:=dU [] (hs9.trans h.size) (hd9.trans h.defers) (holds_lk trivial)
  refine aK (aR aS aS aq aq) h s pK rfl rfl λf w1 b5 h s=>aE ⟨_,bq 5 h rfl rfl,⟨_,rfl⟩,s⟩
 ·intro f9 w2 vl3 E9 hs9 hd9 hl hF s
  obtain ⟨b5,hb5⟩:∃ b,vl3 11=.pointer (some ⟨b,0,none⟩):=hF 11 (by decide)
  have e5:f9.tmps.getD 5 undef=.pointer (some ⟨b5,0,none⟩):=(eN hl 5 11 (by kernel_rfl) (by kernel_rfl)).trans hb5
  have e22:f9.tmps.getD 22 undef=.agg (Ry (tB K K1 kx)):=(eN hl 22 10 (by kernel_rfl) (by kernel_rfl)).trans (hF 10 (by decide))
  have h:=dU [(5,.pointer (some ⟨b5,0,none⟩)),(22,.agg (Ry (tB K K1 kx)))] (hs9.trans h.size) (hd9.trans h.defers) (holds_lk ⟨e5,e22,trivial⟩)
  replace s:St w0 (.blk (G4 (vl3 11)) (.cells (aR aS aS aq aq) 63)::.sl vq 63 68 K1.length (au K1)::(.grp k1 (eI K1))::.blk bm (jE (dc K))::.blk b2 (.cells (#[vq]) 24)::(B9++E9)) _:=s
  rw [hb5] at s
  replace s:St w0 (.blk b5 (.cells (aR aS aS aq aq) 63)::.sl vq 63 68 K1.length (au K1)::(.grp k1 (eI K1))::.blk bm (jE (dc K))::.blk b2 (.cells (#[vq]) 24)::(B9++E9)) _:=s
  refine am 0 h s bI rfl rfl rfl (ao _ _ _ _) (ao _ _ _ _) (bL (bJ ((s.getG 2 rfl _ (bE hi1)).1)) (bJ ((s.getG 2 rfl _ (bE hi1)).2))) λw1 s=>aE ⟨undef,gO rfl,trivial,?_⟩
  have z:=s
  rw [← show G4 (vl3 11)=b5 from by rw [hb5];rfl] at z
  exact z
 intro f w1 vl3 hs9 hd9 hv hr hF s
 obtain ⟨b5,hb5⟩:∃ b,vl3 11=.pointer (some ⟨b,0,none⟩):=hF 11 (by kernel_rfl)
 replace h:=mT (ops:=_) [(12,_),(13,_),(14,_),(15,_),(16,_),(17,_),(18,_),(19,_),(20,_),(21,_),(22,_),(5,.pointer (some ⟨b5,0,none⟩))] h hs9 hd9 hr ⟨(hv 0 12 rfl).trans (hF 0 rfl),(hv 1 13 rfl).trans (hF 1 rfl),(hv 2 14 rfl).trans (hF 2 rfl),(hv 3 15 rfl).trans (hF 3 rfl),(hv 4 16 rfl).trans (hF 4 rfl),(hv 5 17 rfl).trans (hF 5 rfl),(hv 6 18 rfl).trans (hF 6 rfl),(hv 7 19 rfl).trans (hF 7 rfl),(hv 8 20 rfl).trans (hF 8 rfl),(hv 9 21 rfl).trans (hF 9 rfl),(hv 10 22 rfl).trans (hF 10 rfl),(hv 11 5 rfl).trans hb5,trivial⟩ (by kernel_rfl)
 replace s:St w0 (.blk (G4 (vl3 11)) (.cells (Ry (tB K K1 kx)) 63)::.sl vq 63 68 K1.length (au K1)::(.grp k1 (eI K1))::.blk bm (jE (dc K))::.blk b2 (.cells (#[vq]) 24)::B9) _:=s
 rw [hb5] at s
 replace s:St w0 (.blk b5 (.cells (Ry (tB K K1 kx)) 63)::.sl vq 63 68 K1.length (au K1)::(.grp k1 (eI K1))::.blk bm (jE (dc K))::.blk b2 (.cells (#[vq]) 24)::B9) _:=s
 refine aG (ag (ag ?_))
 refine rs ac 3 h rfl λf h=>ai (ah (aX.of_own s 0 rfl) 33 (GA _ _ _ _)) h bQ rfl rfl λf h=>SW (bu (av K) (tB K K1 kx).1.pr.1) h s Lm (DQ (dc K) bm (tB K K1 kx).1.pr.1 _ (s.get 3 rfl)) ((vv hRS.nos _)) rfl rfl (λp0 f w1 h s=>?_) (λp0 f w1 h s=>?_)
 ·refine e9 ac 1 h rfl λf h=>dF h rfl (aC (fP h s Q7 (u4 _) rfl rfl λf w1 h s=>ap ac 1 h rfl λf h=>ga 0 h s aI rfl rfl rfl (ae _) (by rw [ao];omega) (aP _) λw1 s=>?_))
  replace s:=s.recell (D:=aR (tB K K1 kx).1.me fj (tB K K1 kx).2.1 (tB K K1 kx).2.2) 0 rfl (rh _ _ _ _ _)
  refine nt (ag ?_)
  replace s:=s.recell (D:=aR (tC K K1 kx).me (tC K K1 kx).pr (tB K K1 kx).2.1 (tB K K1 kx).2.2) 0 rfl (by show _=aR (tB K K1 kx).1.me (bif bu (av K1) (tB K K1 kx).1.pr.1 then (tB K K1 kx).1.pr else fj) _ _;rw [hm1,p0];rfl)
  replace s:=s.bring 1 rfl
  replace s:St w0 (.sl vq 63 68 K1.length (au K1)::.blk b5 (.cells (fQ (tC K K1 kx) (tB K K1 kx).2.1 (tB K K1 kx).2.2) 63)::(.grp k1 (eI K1))::.blk bm (jE (dc K))::.blk b2 (.cells (#[vq]) 24)::B9) _:=s
  have hfo:=DO (kl.2 hT1) (kl.2 hts)
  refine nI 1 [[],[],[1],[1,2],[],[1,2,3,4],[1,2,3,4,5],[1,2,3,4,5,6],[1,2,3,4,5,6],[0,1,2,3,4,5,6,7],[0,1,2,3,4,5,6,7,9]] [[],[],[],[11],[],[],[],[],[],[],[3]] [[_]] [.v _,.v _,.v _,.w (λv=>[.sl vq 63 68 K1.length (au K1)]) (.agg (fQ (tA K kx) du dv)),.v (.agg (fQ (tC K K1 kx) (tB K K1 kx).2.1 (tB K K1 kx).2.2)),.r (λv=>[.sl (bh 66 (v 5)) 60 33 (tD K K1 kx).sc.length (aj (tD K K1 kx).sc),.sl (bh 67 (v 5)) 60 33 (tD K K1 kx).fg.length (aj (tD K K1 kx).fg)]) (λv=>v 5=.tuple #[.agg (fQ (tD K K1 kx) (bh 66 (v 5)) (bh 67 (v 5))),.int .i64 0]),.f (λv=>v 6=.tuple #[.agg (fQ (tD K K1 kx) (bh 66 (v 5)) (bh 67 (v 5))),.int .i64 0]),.f (λv=>v 7=.agg (fQ (tD K K1 kx) (bh 66 (v 5)) (bh 67 (v 5)))),.v (.int .i64 0),.v _,.m (λv=>[.sl vq 63 68 (K1.set kx (((tD K K1 kx),(bh 66 (v 5)),(bh 67 (v 5))):N3)).length (au (K1.set kx (((tD K K1 kx),(bh 66 (v 5)),(bh 67 (v 5))):N3)))])] _ h s rfl (by kernel_rfl) (by kernel_rfl) (by kernel_rfl) (iG ac h rfl rfl rfl (iG ac h rfl rfl rfl (iG ac h rfl rfl rfl (cq ?_ (cq ?_ (cq ?_ (cq ?_ (cq ?_ (cq ?_ (iG ac h rfl rfl rfl (cq ?_ (trivial)))))))))))) [0,1,2,4,5,6,7,8,9,10] (by kernel_rfl) ?_
  ·intro f9 w2 vl6 E9 hs9 hd9 hl hF s
   have h:=cJ [(34,_)] h hs9 hd9 ⟨bp hl 34 2 (by kernel_rfl) (hF 2 (by decide)),trivial⟩
   refine ax ((a7.of_own (s.getSl 0 rfl)).el (kx) (by omega) (by decide) (D:=aR (tA K kx).me (tA K kx).pr du dv) ((eZ K1 kx (by omega)).trans (by rw [hx1]))) h bI rfl (ao _ _ _ _) rfl λf h=>aE ⟨_,bq 35 h rfl rfl,rfl,s⟩
  ·intro f9 w2 vl6 E9 hs9 hd9 hl hF s
   have h:=cJ [(5,_)] h hs9 hd9 ⟨gp hl 5 (by kernel_rfl) (h.holds 5 _ rfl),trivial⟩
   refine al 0 h s bI rfl rfl (ao _ _ _ _) rfl λf h=>aE ⟨_,bq 36 h rfl rfl,rfl,s⟩
  ·intro f9 w2 vl6 E9 hs9 hd9 hl hF s
   have h:=cJ [(35,_),(36,_)] h hs9 hd9 ⟨bp hl 35 3 (by kernel_rfl) (hF 3 (by decide)),bp hl 36 4 (by kernel_rfl) (hF 4 (by decide)),trivial⟩
   refine bg h s Js (qz (tA K kx) du dv (tC K K1 kx) (tB K K1 kx).2.1 (tB K K1 kx).2.2 _ (eP (s.getG 1 rfl) (show kx<K1.length by omega) hx1).1 (eP (s.getG 1 rfl) (show kx<K1.length by omega) hx1).2 (by omega) (by omega) (s.getG 1 rfl _ (bE hi1)).1 (s.getG 1 rfl _ (bE hi1)).2 (by show (tB K K1 kx).1.sc.length<=900;omega) (by show (tB K K1 kx).1.fg.length<=900;omega)) rfl rfl ?_;rintro f w1 v37 ⟨cu,cv,hv9,hS⟩ hE h sq;rw [hfo.1,hfo.2] at hv9;rw [hfo.1] at hS;replace s:=s.add hS
   have h66:cu=bh 66 v37:=by rw [hv9];exact(ud (a7.of_own (hS.getSl 0 rfl))).symm
   have h67:cv=bh 67 v37:=by rw [hv9];exact(sC (a7.of_own (hS.getSl 1 rfl))).symm
   clear hS
   subst h66;subst h67
   exact aE ⟨_,bq 37 h rfl rfl,hv9,s⟩
  ·intro f9 w2 vl6 E9 hs9 hd9 hl hF s
   have h:=cJ [(37,.tuple #[.agg (fQ (tD K K1 kx) (bh 66 (vl6 5)) (bh 67 (vl6 5))),.int .i64 0])] h hs9 hd9 ⟨bp hl 37 5 (by kernel_rfl) (hF 5 (by decide)),trivial⟩
   refine ap ac 1 h rfl λf h=>aE ⟨_,bq 31 h rfl rfl,rfl,s⟩
  ·intro f9 w2 vl6 E9 hs9 hd9 hl hF s
   have h:=cJ [(31,.tuple #[.agg (fQ (tD K K1 kx) (bh 66 (vl6 5)) (bh 67 (vl6 5))),.int .i64 0])] h hs9 hd9 ⟨bp hl 31 6 (by kernel_rfl) (hF 6 (by decide)),trivial⟩
   refine ap ac 1 h rfl λf h=>aE ⟨_,bq 38 h rfl rfl,rfl,s⟩
  ·intro f9 w2 vl6 E9 hs9 hd9 hl hF s
   have h:=cJ [(31,.tuple #[.agg (fQ (tD K K1 kx) (bh 66 (vl6 5)) (bh 67 (vl6 5))),.int .i64 0])] h hs9 hd9 ⟨bp hl 31 6 (by kernel_rfl) (hF 6 (by decide)),trivial⟩
   refine ap ac 1 h rfl λf h=>aE ⟨_,bq 39 h rfl rfl,rfl,s⟩
  ·intro f9 w2 vl6 E9 hs9 hd9 hl hF s
   have h:=cJ [(40,_),(38,.agg (fQ (tD K K1 kx) (bh 66 (vl6 5)) (bh 67 (vl6 5))))] h hs9 hd9 ⟨bp hl 40 9 (by kernel_rfl) (hF 9 (by decide)),bp hl 38 7 (by kernel_rfl) (hF 7 (by decide)),trivial⟩
   refine fX 0 (kx) h s bI rfl rfl rfl (ao _ _ _ _) (by omega) (bL (gT _ _) (gT _ _)) (show _=au (K1.set kx (((tD K K1 kx),(bh 66 (vl6 5)),(bh 67 (vl6 5))):N3)) from sJ (by omega) (((tD K K1 kx),(bh 66 (vl6 5)),(bh 67 (vl6 5))):N3)) λw1 s=>?_
   replace s:=s.resl (m:=(K1.set kx (((tD K K1 kx),(bh 66 (vl6 5)),(bh 67 (vl6 5))):N3)).length) (ys:=au (K1.set kx (((tD K K1 kx),(bh 66 (vl6 5)),(bh 67 (vl6 5))):N3))) 0 rfl (by rw [List.length_set]) rfl
   exact aE ⟨undef,gO rfl,trivial,s⟩
  intro f w1 vl6 hs9 hd9 hv hr hF s
  replace h:=mT (ops:=_) [(32,_),(33,_),(34,_),(35,_),(36,_),(37,.tuple #[.agg (fQ (tD K K1 kx) (bh 66 (vl6 5)) (bh 67 (vl6 5))),.int .i64 0]),(31,.tuple #[.agg (fQ (tD K K1 kx) (bh 66 (vl6 5)) (bh 67 (vl6 5))),.int .i64 0]),(38,.agg (fQ (tD K K1 kx) (bh 66 (vl6 5)) (bh 67 (vl6 5)))),(39,_),(40,_)] h hs9 hd9 hr ⟨(hv 0 32 rfl).trans (hF 0 rfl),(hv 1 33 rfl).trans (hF 1 rfl),(hv 2 34 rfl).trans (hF 2 rfl),(hv 3 35 rfl).trans (hF 3 rfl),(hv 4 36 rfl).trans (hF 4 rfl),(hv 5 37 rfl).trans (hF 5 rfl),(hv 6 31 rfl).trans (hF 6 rfl),(hv 7 38 rfl).trans (hF 7 rfl),(hv 8 39 rfl).trans (hF 8 rfl),(hv 9 40 rfl).trans (hF 9 rfl),trivial⟩ (by kernel_rfl)
  replace s:St w0 (.sl (bh 66 (vl6 5)) 60 33 (tD K K1 kx).sc.length (aj (tD K K1 kx).sc)::.sl (bh 67 (vl6 5)) 60 33 (tD K K1 kx).fg.length (aj (tD K K1 kx).fg)::.sl vq 63 68 (K1.set kx (((tD K K1 kx),(bh 66 (vl6 5)),(bh 67 (vl6 5))):N3)).length (au (K1.set kx (((tD K K1 kx),(bh 66 (vl6 5)),(bh 67 (vl6 5))):N3)))::.blk b5 (.cells (fQ (tC K K1 kx) (tB K K1 kx).2.1 (tB K K1 kx).2.2) 63)::(.grp k1 (eI K1))::.blk bm (jE (dc K))::.blk b2 (.cells (#[vq]) 24)::B9) _:=s
  replace s:=s.bring 4 rfl
  replace s:=s.bring 2 rfl
  replace s:=s.bring 2 rfl
  replace s:St w0 (.sl (bh 66 (vl6 5)) 60 33 (tD K K1 kx).sc.length (aj (tD K K1 kx).sc)::.sl (bh 67 (vl6 5)) 60 33 (tD K K1 kx).fg.length (aj (tD K K1 kx).fg)::(.grp k1 (eI K1))::.sl vq 63 68 (K1.set kx (((tD K K1 kx),(bh 66 (vl6 5)),(bh 67 (vl6 5))):N3)).length (au (K1.set kx (((tD K K1 kx),(bh 66 (vl6 5)),(bh 67 (vl6 5))):N3)))::.blk b5 (.cells (fQ (tC K K1 kx) (tB K K1 kx).2.1 (tB K K1 kx).2.2) 63)::.blk bm (jE (dc K))::.blk b2 (.cells (#[vq]) 24)::B9) _:=s
  obtain ⟨k2,s⟩:=s.grpR (S':=eI (K1.set kx (((tD K K1 kx),(bh 66 (vl6 5)),(bh 67 (vl6 5))):N3))) (λw9 h1 h2 h3=>ot h3 ⟨h1,h2⟩)
  obtain ⟨K2,hK2⟩:∃ x9,x9=(K1.set kx (((tD K K1 kx),(bh 66 (vl6 5)),(bh 67 (vl6 5))):N3)):=⟨_,rfl⟩
  rw [← hK2] at s
  have hx2:K2.getD kx z3=((tD K K1 kx),(bh 66 (vl6 5)),(bh 67 (vl6 5))):=by rw [hK2];exact kZ (by omega) _
  have hl2:K2.length=K1.length:=by rw [hK2,List.length_set]
  have hT2:RN (tD K K1 kx):=pJ hT1 hts
  obtain ⟨hp2,hR2,hm2⟩:=pm hR1 (by omega) (x:=(((tD K K1 kx),(bh 66 (vl6 5)),(bh 67 (vl6 5))):N3)) (show (K1.getD kx z3).1.me=_ by rw [hx1];rfl) hT2
  rw [← hK2] at hp2 hR2 hm2
  have hn2:nds K2=jI (nds K1) (tD K K1 kx):=by rw [hp2,ik]
  have hT2l:=hT2.len
  have hend:=Au hRS hk rfl hn1 (show (tD K K1 kx)=oz (tA K kx) (kw (av K1) (br K1 ((tA K kx).sc.getD 0 aS).1).1) by rw [← hg1]) hn2
  refine aG (ag ?_)
  cases p1:(bu (av K2) (((tD K K1 kx).sc.getD 0 aS).1):Bool)
  ·refine cK 10 h (by kernel_rfl) (aH 4 h s cH rfl rfl (rfl) rfl λf h=>aD ac 2 h rfl λf h=>aF h (a6 fU (h.ev rfl) ((a7.of_own (s.getSl 1 rfl)).some (by omega))) rfl λf h=>bw (V:=(bh 66 (vl6 5))) (dt (a7.of_own (s.getSl 1 rfl)) (kx*68+66) ((kc K2 kx (by omega)).trans (by rw [hx2]))) h ci rfl rfl λf h=>aF h (bj ((eP (s.getG 0 rfl) (show kx<K2.length by omega) hx2).1) (0) aA6 dd (h.ev rfl) (h.ev rfl) (by omega) (by omega)) rfl λf h=>aF h (a6 gS (h.ev rfl) (((eP (s.getG 0 rfl) (show kx<K2.length by omega) hx2).1).some (by omega))) rfl λf h=>bw (V:=.int .i64 ((tD K K1 kx).sc.getD 0 aS).1) (dt ((eP (s.getG 0 rfl) (show kx<K2.length by omega) hx2).1) (0*33+0) (z6 (tD K K1 kx).sc 0 (by omega))) h bQ rfl rfl λf h=>bR h ny (λw9 hE9=>bK (.pointer none) (gK K2 vq (((tD K K1 kx).sc.getD 0 aS).1) w9 ⟨(a7.of_own (s.getSl 1 rfl)).keep hE9,λy hy=>(s.getG 0 rfl y hy).keep hE9⟩ (by omega)) (DX (aq0 ((tM hR2.nos).trans p1)))) rfl rfl λf h=>aD ac 1 h rfl λf h=>bF s λw1 s=>nt (cw ac 1 h rfl λf h=>ak h (bk (.bool false) (fv aB0 (h.ev rfl) (h.ev rfl)) (rfl)) rfl λf h=>tS h rfl (wpIn_skip ?_)))
   replace s:=s.bring 1 rfl
   replace s:St w0 (.sl vq 63 68 K2.length (au K2)::(.grp k2 (eI K2))::.blk b5 (.cells (fQ (tC K K1 kx) (tB K K1 kx).2.1 (tB K K1 kx).2.2) 63)::.blk bm (jE (dc K))::.blk b2 (.cells (#[vq]) 24)::B9) _:=s
   exact dN rfl h (⟨_,rfl,K2,k2,(by rw [hend,p1];rfl),(s.pick _ (ap7 _ (ap7 _ (ap8 _ (ap8 _ (ap8 _ (List.Sublist.refl _)))))))⟩)
  ·refine cK 10 h (by kernel_rfl) (aH 4 h s cH rfl rfl (rfl) rfl λf h=>aD ac 2 h rfl λf h=>aF h (a6 fU (h.ev rfl) ((a7.of_own (s.getSl 1 rfl)).some (by omega))) rfl λf h=>bw (V:=(bh 66 (vl6 5))) (dt (a7.of_own (s.getSl 1 rfl)) (kx*68+66) ((kc K2 kx (by omega)).trans (by rw [hx2]))) h ci rfl rfl λf h=>aF h (bj ((eP (s.getG 0 rfl) (show kx<K2.length by omega) hx2).1) (0) aA6 dd (h.ev rfl) (h.ev rfl) (by omega) (by omega)) rfl λf h=>aF h (a6 gS (h.ev rfl) (((eP (s.getG 0 rfl) (show kx<K2.length by omega) hx2).1).some (by omega))) rfl λf h=>bw (V:=.int .i64 ((tD K K1 kx).sc.getD 0 aS).1) (dt ((eP (s.getG 0 rfl) (show kx<K2.length by omega) hx2).1) (0*33+0) (z6 (tD K K1 kx).sc 0 (by omega))) h bQ rfl rfl λf h=>bR h ny (λw9 hE9=>bK (.pointer (some (bf vq ((tY K K1 K2 kx)*68)))) (gK K2 vq (((tD K K1 kx).sc.getD 0 aS).1) w9 ⟨(a7.of_own (s.getSl 1 rfl)).keep hE9,λy hy=>(s.getG 0 rfl y hy).keep hE9⟩ (by omega)) (yT (lE hR2 p1).1)) rfl rfl λf h=>aD ac 1 h rfl λf h=>bF s λw1 s=>nt (cw ac 1 h rfl λf h=>ak h (bk (.bool true) (fv aB0 (h.ev rfl) (h.ev rfl)) (rfl)) rfl λf h=>iz h rfl ?_))
   replace s:=s.bring 1 rfl
   replace s:St w0 (.sl vq 63 68 K2.length (au K2)::(.grp k2 (eI K2))::.blk b5 (.cells (fQ (tC K K1 kx) (tB K K1 kx).2.1 (tB K K1 kx).2.2) 63)::.blk bm (jE (dc K))::.blk b2 (.cells (#[vq]) 24)::B9) _:=s
   obtain ⟨hi2,hg2,hgm2⟩:=lE hR2 p1
   replace hg2:(tE K K1 K2 kx)=_:=hg2
   have hzr:RN (tE K K1 K2 kx).1:=by rw [hg2];exact hR2.rn _ hgm2
   have hzl:=hzr.len
   have hzf:=hzr.fg.1
   have hnt:=kD (kl.2 hzr) (iE.2 hT2.me)
   refine BE 1 [[],[],[1],[1,2],[],[4],[4,5],[4,5,6],[1,2,3,4,5,6,7],[1,2,3,4,5,6,7,8],[1,2,3,4,5,6,7,8,9],[1,2,3,4,5,6,7,8,9],[0,1,2,3,4,5,6,7,8,9,10],[0,1,2,3,4,5,6,7,8,9,10,12]] [[],[],[],[],[],[],[],[],[],[],[],[],[],[14]] [[],[],[],[0],[],[],[0],[0],[],[],[],[],[],[]] [[_]] [.v (.pointer (some (bf vq ((tY K K1 K2 kx)*68)))),.v (.pointer (some (bf vq ((tY K K1 K2 kx)*68)))),.v (.pointer (some (bf vq ((tY K K1 K2 kx)*68)))),.v (.agg (Ry (tE K K1 K2 kx))),.v (.pointer (some (bf vq (kx*68)))),.v (.pointer (some (bf vq (kx*68)))),.v (.pointer (some (bf vq (kx*68+0)))),.v (.agg (ar (tD K K1 kx).me)),.r (λv=>[.sl (bh 66 (v 8)) 60 33 (tF K K1 K2 kx).sc.length (aj (tF K K1 K2 kx).sc),.sl (bh 67 (v 8)) 60 33 (tF K K1 K2 kx).fg.length (aj (tF K K1 K2 kx).fg)]) (λv=>v 8=.tuple #[.agg (fQ (tF K K1 K2 kx) (bh 66 (v 8)) (bh 67 (v 8))),.int .i64 0]),.f (λv=>v 9=.tuple #[.agg (fQ (tF K K1 K2 kx) (bh 66 (v 8)) (bh 67 (v 8))),.int .i64 0]),.f (λv=>v 10=.agg (fQ (tF K K1 K2 kx) (bh 66 (v 8)) (bh 67 (v 8)))),.v (.int .i64 0),.v (.pointer (some (bf vq ((tY K K1 K2 kx)*68)))),.m (λv=>[.sl vq 63 68 (K2.set (tY K K1 K2 kx) (((tF K K1 K2 kx),(bh 66 (v 8)),(bh 67 (v 8))):N3)).length (au (K2.set (tY K K1 K2 kx) (((tF K K1 K2 kx),(bh 66 (v 8)),(bh 67 (v 8))):N3)))])] (λ_ _=>[]) _ h s rfl (by kernel_rfl) (by kernel_rfl) (by kernel_rfl) (by kernel_rfl) (cq ?_ (cq ?_ (cq ?_ (cq ?_ (cq ?_ (cq ?_ (cq ?_ (cq ?_ (cq ?_ (cq ?_ (cq ?_ (cq ?_ (cq ?_ (cq ?_ (trivial))))))))))))))) [0,1,2,3,4,5,6,7,8,9,10,11,12,13] (by kernel_rfl) ?_
   ·intro f9 w2 vl9 E9 lst9 hlo hlc hlz hs9 hd9 hl hF hR9 s
    have h:=cJ [(6,_)] h hs9 hd9 ⟨gp hl 6 (by kernel_rfl) (h.holds 6 _ rfl),trivial⟩
    refine ap ac 1 h rfl λf h=>aE ⟨_,bq 53 h rfl rfl,rfl,s⟩
   ·intro f9 w2 vl9 E9 lst9 hlo hlc hlz hs9 hd9 hl hF hR9 s
    have h:=cJ [(6,_)] h hs9 hd9 ⟨gp hl 6 (by kernel_rfl) (h.holds 6 _ rfl),trivial⟩
    refine ap ac 1 h rfl λf h=>aE ⟨_,bq 54 h rfl rfl,rfl,s⟩
   ·intro f9 w2 vl9 E9 lst9 hlo hlc hlz hs9 hd9 hl hF hR9 s
    have h:=cJ [(54,_)] h hs9 hd9 ⟨bp hl 54 1 (by kernel_rfl) (hF 1 (by decide)),trivial⟩
    refine ap ac 1 h rfl λf h=>aE ⟨_,bq 55 h rfl rfl,rfl,s⟩
   ·intro f9 w2 vl9 E9 lst9 hlo hlc hlz hs9 hd9 hl hF hR9 s
    have hq9:Own.sl vq 63 68 K2.length (au K2)∈E9:=hR9 0 (by decide) _ ar5
    have h:=cJ [(55,_)] h hs9 hd9 ⟨bp hl 55 2 (by kernel_rfl) (hF 2 (by decide)),trivial⟩
    have hq8:Own.sl vq 63 68 K2.length (au K2)∈((.grp k2 (eI K2))::.blk b5 (.cells (fQ (tC K K1 kx) (tB K K1 kx).2.1 (tB K K1 kx).2.2) 63)::.blk bm (jE (dc K))::.blk b2 (.cells (#[vq]) 24)::(B9++E9)):=by simp only [ar6,at9,hq9,or_true]
    refine ax ((a7.of_own (s.memSl hq8)).el ((tY K K1 K2 kx)) (by omega) (by decide) (D:=aR (tE K K1 K2 kx).1.me (tE K K1 K2 kx).1.pr (tE K K1 K2 kx).2.1 (tE K K1 K2 kx).2.2) (eZ K2 _ hi2)) h bI rfl (ao _ _ _ _) rfl λf h=>aE ⟨_,bq 56 h rfl rfl,rfl,s⟩
   ·intro f9 w2 vl9 E9 lst9 hlo hlc hlz hs9 hd9 hl hF hR9 s
    have h:=cJ [(1,_)] h hs9 hd9 ⟨gp hl 1 (by kernel_rfl) (h.holds 1 _ rfl),trivial⟩
    refine ap ac 1 h rfl λf h=>aE ⟨_,bq 57 h rfl rfl,rfl,s⟩
   ·intro f9 w2 vl9 E9 lst9 hlo hlc hlz hs9 hd9 hl hF hR9 s
    have h:=cJ [(57,_)] h hs9 hd9 ⟨bp hl 57 4 (by kernel_rfl) (hF 4 (by decide)),trivial⟩
    refine ap ac 1 h rfl λf h=>aE ⟨_,bq 58 h rfl rfl,rfl,s⟩
   ·intro f9 w2 vl9 E9 lst9 hlo hlc hlz hs9 hd9 hl hF hR9 s
    have hq9:Own.sl vq 63 68 K2.length (au K2)∈E9:=hR9 0 (by decide) _ ar5
    have h:=cJ [(58,_)] h hs9 hd9 ⟨bp hl 58 5 (by kernel_rfl) (hF 5 (by decide)),trivial⟩
    have hq8:Own.sl vq 63 68 K2.length (au K2)∈((.grp k2 (eI K2))::.blk b5 (.cells (fQ (tC K K1 kx) (tB K K1 kx).2.1 (tB K K1 kx).2.2) 63)::.blk bm (jE (dc K))::.blk b2 (.cells (#[vq]) 24)::(B9++E9)):=by simp only [ar6,at9,hq9,or_true]
    refine ak h (a6 gn (h.ev rfl) ((a7.of_own (s.memSl hq8)).some (by omega))) rfl λf h=>aE ⟨_,bq 59 h rfl rfl,rfl,s⟩
   ·intro f9 w2 vl9 E9 lst9 hlo hlc hlz hs9 hd9 hl hF hR9 s
    have hq9:Own.sl vq 63 68 K2.length (au K2)∈E9:=hR9 0 (by decide) _ ar5
    have h:=cJ [(59,_)] h hs9 hd9 ⟨bp hl 59 6 (by kernel_rfl) (hF 6 (by decide)),trivial⟩
    have hq8:Own.sl vq 63 68 K2.length (au K2)∈((.grp k2 (eI K2))::.blk b5 (.cells (fQ (tC K K1 kx) (tB K K1 kx).2.1 (tB K K1 kx).2.2) 63)::.blk bm (jE (dc K))::.blk b2 (.cells (#[vq]) 24)::(B9++E9)):=by simp only [ar6,at9,hq9,or_true]
    refine ax (a7.elF (a7.of_own (s.memSl hq8)) (kx) 0 33 (by omega) (by decide) (C:=aR (tD K K1 kx).me (tD K K1 kx).pr (bh 66 (vl6 5)) (bh 67 (vl6 5))) ((eZ K2 kx (by omega)).trans (by rw [hx2])) (D:=ar (tD K K1 kx).me) (dx _ _ _ _)) h aI rfl (ae _) rfl λf h=>aE ⟨_,bq 60 h rfl rfl,rfl,s⟩
   ·intro f9 w2 vl9 E9 lst9 hlo hlc hlz hs9 hd9 hl hF hR9 s
    have h:=cJ [(56,_),(60,_)] h hs9 hd9 ⟨bp hl 56 3 (by kernel_rfl) (hF 3 (by decide)),bp hl 60 7 (by kernel_rfl) (hF 7 (by decide)),trivial⟩
    refine bg h s JR (tG (tE K K1 K2 kx).1 (tE K K1 K2 kx).2.1 (tE K K1 K2 kx).2.2 (tD K K1 kx).me _ (s.getG 0 rfl _ (bE hi2)).1 (s.getG 0 rfl _ (bE hi2)).2 (by omega) (by omega)) rfl rfl ?_;rintro f w1 v61 ⟨cu,cv,hv9,hS⟩ hE h sq;rw [hnt.1,hnt.2] at hv9;rw [hnt.1] at hS;replace s:=s.add hS
    have h66:cu=bh 66 v61:=by rw [hv9];exact(ud (a7.of_own (hS.getSl 0 rfl))).symm
    have h67:cv=bh 67 v61:=by rw [hv9];exact(sC (a7.of_own (hS.getSl 1 rfl))).symm
    clear hS
    subst h66;subst h67
    exact aE ⟨_,bq 61 h rfl rfl,hv9,s⟩
   ·intro f9 w2 vl9 E9 lst9 hlo hlc hlz hs9 hd9 hl hF hR9 s
    have h:=cJ [(61,.tuple #[.agg (fQ (tF K K1 K2 kx) (bh 66 (vl9 8)) (bh 67 (vl9 8))),.int .i64 0])] h hs9 hd9 ⟨bp hl 61 8 (by kernel_rfl) (hF 8 (by decide)),trivial⟩
    refine ap ac 1 h rfl λf h=>aE ⟨_,bq 52 h rfl rfl,rfl,s⟩
   ·intro f9 w2 vl9 E9 lst9 hlo hlc hlz hs9 hd9 hl hF hR9 s
    have h:=cJ [(52,.tuple #[.agg (fQ (tF K K1 K2 kx) (bh 66 (vl9 8)) (bh 67 (vl9 8))),.int .i64 0])] h hs9 hd9 ⟨bp hl 52 9 (by kernel_rfl) (hF 9 (by decide)),trivial⟩
    refine ap ac 1 h rfl λf h=>aE ⟨_,bq 62 h rfl rfl,rfl,s⟩
   ·intro f9 w2 vl9 E9 lst9 hlo hlc hlz hs9 hd9 hl hF hR9 s
    have h:=cJ [(52,.tuple #[.agg (fQ (tF K K1 K2 kx) (bh 66 (vl9 8)) (bh 67 (vl9 8))),.int .i64 0])] h hs9 hd9 ⟨bp hl 52 9 (by kernel_rfl) (hF 9 (by decide)),trivial⟩
    refine ap ac 1 h rfl λf h=>aE ⟨_,bq 63 h rfl rfl,rfl,s⟩
   ·intro f9 w2 vl9 E9 lst9 hlo hlc hlz hs9 hd9 hl hF hR9 s
    have h:=cJ [(53,_)] h hs9 hd9 ⟨bp hl 53 0 (by kernel_rfl) (hF 0 (by decide)),trivial⟩
    refine ap ac 1 h rfl λf h=>aE ⟨_,bq 64 h rfl rfl,rfl,s⟩
   ·intro f9 w2 vl9 E9 lst9 hlo hlc hlz hs9 hd9 hl hF hR9 s
    have h:=cJ [(64,_),(62,.agg (fQ (tF K K1 K2 kx) (bh 66 (vl9 8)) (bh 67 (vl9 8))))] h hs9 hd9 ⟨bp hl 64 12 (by kernel_rfl) (hF 12 (by decide)),bp hl 62 10 (by kernel_rfl) (hF 10 (by decide)),trivial⟩
    refine fX 0 ((tY K K1 K2 kx)) h s bI rfl rfl rfl (ao _ _ _ _) (by omega) (bL (gT _ _) (gT _ _)) (show _=au (K2.set (tY K K1 K2 kx) (((tF K K1 K2 kx),(bh 66 (vl9 8)),(bh 67 (vl9 8))):N3)) from sJ hi2 (((tF K K1 K2 kx),(bh 66 (vl9 8)),(bh 67 (vl9 8))):N3)) λw1 s=>?_
    replace s:=s.resl (m:=(K2.set (tY K K1 K2 kx) (((tF K K1 K2 kx),(bh 66 (vl9 8)),(bh 67 (vl9 8))):N3)).length) (ys:=au (K2.set (tY K K1 K2 kx) (((tF K K1 K2 kx),(bh 66 (vl9 8)),(bh 67 (vl9 8))):N3))) 0 rfl (by rw [List.length_set]) rfl
    exact aE ⟨undef,gO rfl,trivial,s⟩
   intro f w1 vl9 hs9 hd9 hv hr hF s
   replace h:=mT (ops:=_) [(53,_),(54,_),(55,_),(56,_),(57,_),(58,_),(59,_),(60,_),(61,.tuple #[.agg (fQ (tF K K1 K2 kx) (bh 66 (vl9 8)) (bh 67 (vl9 8))),.int .i64 0]),(52,.tuple #[.agg (fQ (tF K K1 K2 kx) (bh 66 (vl9 8)) (bh 67 (vl9 8))),.int .i64 0]),(62,.agg (fQ (tF K K1 K2 kx) (bh 66 (vl9 8)) (bh 67 (vl9 8)))),(63,_),(64,_)] h hs9 hd9 hr ⟨(hv 0 53 rfl).trans (hF 0 rfl),(hv 1 54 rfl).trans (hF 1 rfl),(hv 2 55 rfl).trans (hF 2 rfl),(hv 3 56 rfl).trans (hF 3 rfl),(hv 4 57 rfl).trans (hF 4 rfl),(hv 5 58 rfl).trans (hF 5 rfl),(hv 6 59 rfl).trans (hF 6 rfl),(hv 7 60 rfl).trans (hF 7 rfl),(hv 8 61 rfl).trans (hF 8 rfl),(hv 9 52 rfl).trans (hF 9 rfl),(hv 10 62 rfl).trans (hF 10 rfl),(hv 11 63 rfl).trans (hF 11 rfl),(hv 12 64 rfl).trans (hF 12 rfl),trivial⟩ (by kernel_rfl)
   replace s:St w0 (.sl (bh 66 (vl9 8)) 60 33 (tF K K1 K2 kx).sc.length (aj (tF K K1 K2 kx).sc)::.sl (bh 67 (vl9 8)) 60 33 (tF K K1 K2 kx).fg.length (aj (tF K K1 K2 kx).fg)::.sl vq 63 68 (K2.set (tY K K1 K2 kx) (((tF K K1 K2 kx),(bh 66 (vl9 8)),(bh 67 (vl9 8))):N3)).length (au (K2.set (tY K K1 K2 kx) (((tF K K1 K2 kx),(bh 66 (vl9 8)),(bh 67 (vl9 8))):N3)))::(.grp k2 (eI K2))::.blk b5 (.cells (fQ (tC K K1 kx) (tB K K1 kx).2.1 (tB K K1 kx).2.2) 63)::.blk bm (jE (dc K))::.blk b2 (.cells (#[vq]) 24)::B9) _:=s
   replace s:=s.bring 3 rfl
   replace s:=s.bring 2 rfl
   replace s:=s.bring 2 rfl
   replace s:St w0 (.sl (bh 66 (vl9 8)) 60 33 (tF K K1 K2 kx).sc.length (aj (tF K K1 K2 kx).sc)::.sl (bh 67 (vl9 8)) 60 33 (tF K K1 K2 kx).fg.length (aj (tF K K1 K2 kx).fg)::(.grp k2 (eI K2))::.sl vq 63 68 (K2.set (tY K K1 K2 kx) (((tF K K1 K2 kx),(bh 66 (vl9 8)),(bh 67 (vl9 8))):N3)).length (au (K2.set (tY K K1 K2 kx) (((tF K K1 K2 kx),(bh 66 (vl9 8)),(bh 67 (vl9 8))):N3)))::.blk b5 (.cells (fQ (tC K K1 kx) (tB K K1 kx).2.1 (tB K K1 kx).2.2) 63)::.blk bm (jE (dc K))::.blk b2 (.cells (#[vq]) 24)::B9) _:=s
   obtain ⟨k3,s⟩:=s.grpR (S':=eI (K2.set (tY K K1 K2 kx) (((tF K K1 K2 kx),(bh 66 (vl9 8)),(bh 67 (vl9 8))):N3))) (λw9 h1 h2 h3=>ot h3 ⟨h1,h2⟩)
   have hp3:=(pm hR2 hi2 (x:=(((tF K K1 K2 kx),(bh 66 (vl9 8)),(bh 67 (vl9 8))):N3)) rfl (tR hzr hT2.me)).1
   replace s:=s.bring 1 rfl
   replace s:St w0 (.sl vq 63 68 (K2.set (tY K K1 K2 kx) (((tF K K1 K2 kx),(bh 66 (vl9 8)),(bh 67 (vl9 8))):N3)).length (au (K2.set (tY K K1 K2 kx) (((tF K K1 K2 kx),(bh 66 (vl9 8)),(bh 67 (vl9 8))):N3)))::(.grp k3 (eI (K2.set (tY K K1 K2 kx) (((tF K K1 K2 kx),(bh 66 (vl9 8)),(bh 67 (vl9 8))):N3))))::.blk b5 (.cells (fQ (tC K K1 kx) (tB K K1 kx).2.1 (tB K K1 kx).2.2) 63)::.blk bm (jE (dc K))::.blk b2 (.cells (#[vq]) 24)::B9) _:=s
   exact dN rfl h (⟨_,rfl,(K2.set (tY K K1 K2 kx) (((tF K K1 K2 kx),(bh 66 (vl9 8)),(bh 67 (vl9 8))):N3)),k3,(by rw [hend,p1,hp3,ik];unfold tF;rw [hg2];rfl),(s.pick _ (ap7 _ (ap7 _ (ap8 _ (ap8 _ (ap8 _ (List.Sublist.refl _)))))))⟩)
 ·refine e9 ac 1 h rfl λf h=>ry h rfl (ag ?_)
  replace s:=s.recell (D:=aR (tC K K1 kx).me (tC K K1 kx).pr (tB K K1 kx).2.1 (tB K K1 kx).2.2) 0 rfl (by show _=aR (tB K K1 kx).1.me (bif bu (av K1) (tB K K1 kx).1.pr.1 then (tB K K1 kx).1.pr else fj) _ _;rw [hm1,p0];rfl)
  replace s:=s.bring 1 rfl
  replace s:St w0 (.sl vq 63 68 K1.length (au K1)::.blk b5 (.cells (fQ (tC K K1 kx) (tB K K1 kx).2.1 (tB K K1 kx).2.2) 63)::(.grp k1 (eI K1))::.blk bm (jE (dc K))::.blk b2 (.cells (#[vq]) 24)::B9) _:=s
  have hfo:=DO (kl.2 hT1) (kl.2 hts)
  refine nI 1 [[],[],[1],[1,2],[],[1,2,3,4],[1,2,3,4,5],[1,2,3,4,5,6],[1,2,3,4,5,6],[0,1,2,3,4,5,6,7],[0,1,2,3,4,5,6,7,9]] [[],[],[],[11],[],[],[],[],[],[],[3]] [[_]] [.v _,.v _,.v _,.w (λv=>[.sl vq 63 68 K1.length (au K1)]) (.agg (fQ (tA K kx) du dv)),.v (.agg (fQ (tC K K1 kx) (tB K K1 kx).2.1 (tB K K1 kx).2.2)),.r (λv=>[.sl (bh 66 (v 5)) 60 33 (tD K K1 kx).sc.length (aj (tD K K1 kx).sc),.sl (bh 67 (v 5)) 60 33 (tD K K1 kx).fg.length (aj (tD K K1 kx).fg)]) (λv=>v 5=.tuple #[.agg (fQ (tD K K1 kx) (bh 66 (v 5)) (bh 67 (v 5))),.int .i64 0]),.f (λv=>v 6=.tuple #[.agg (fQ (tD K K1 kx) (bh 66 (v 5)) (bh 67 (v 5))),.int .i64 0]),.f (λv=>v 7=.agg (fQ (tD K K1 kx) (bh 66 (v 5)) (bh 67 (v 5)))),.v (.int .i64 0),.v _,.m (λv=>[.sl vq 63 68 (K1.set kx (((tD K K1 kx),(bh 66 (v 5)),(bh 67 (v 5))):N3)).length (au (K1.set kx (((tD K K1 kx),(bh 66 (v 5)),(bh 67 (v 5))):N3)))])] _ h s rfl (by kernel_rfl) (by kernel_rfl) (by kernel_rfl) (iG ac h rfl rfl rfl (iG ac h rfl rfl rfl (iG ac h rfl rfl rfl (cq ?_ (cq ?_ (cq ?_ (cq ?_ (cq ?_ (cq ?_ (iG ac h rfl rfl rfl (cq ?_ (trivial)))))))))))) [0,1,2,4,5,6,7,8,9,10] (by kernel_rfl) ?_
  ·intro f9 w2 vl6 E9 hs9 hd9 hl hF s
   have h:=cJ [(34,_)] h hs9 hd9 ⟨bp hl 34 2 (by kernel_rfl) (hF 2 (by decide)),trivial⟩
   refine ax ((a7.of_own (s.getSl 0 rfl)).el (kx) (by omega) (by decide) (D:=aR (tA K kx).me (tA K kx).pr du dv) ((eZ K1 kx (by omega)).trans (by rw [hx1]))) h bI rfl (ao _ _ _ _) rfl λf h=>aE ⟨_,bq 35 h rfl rfl,rfl,s⟩
  ·intro f9 w2 vl6 E9 hs9 hd9 hl hF s
   have h:=cJ [(5,_)] h hs9 hd9 ⟨gp hl 5 (by kernel_rfl) (h.holds 5 _ rfl),trivial⟩
   refine al 0 h s bI rfl rfl (ao _ _ _ _) rfl λf h=>aE ⟨_,bq 36 h rfl rfl,rfl,s⟩
  ·intro f9 w2 vl6 E9 hs9 hd9 hl hF s
   have h:=cJ [(35,_),(36,_)] h hs9 hd9 ⟨bp hl 35 3 (by kernel_rfl) (hF 3 (by decide)),bp hl 36 4 (by kernel_rfl) (hF 4 (by decide)),trivial⟩
   refine bg h s Js (qz (tA K kx) du dv (tC K K1 kx) (tB K K1 kx).2.1 (tB K K1 kx).2.2 _ (eP (s.getG 1 rfl) (show kx<K1.length by omega) hx1).1 (eP (s.getG 1 rfl) (show kx<K1.length by omega) hx1).2 (by omega) (by omega) (s.getG 1 rfl _ (bE hi1)).1 (s.getG 1 rfl _ (bE hi1)).2 (by show (tB K K1 kx).1.sc.length<=900;omega) (by show (tB K K1 kx).1.fg.length<=900;omega)) rfl rfl ?_;rintro f w1 v37 ⟨cu,cv,hv9,hS⟩ hE h sq;rw [hfo.1,hfo.2] at hv9;rw [hfo.1] at hS;replace s:=s.add hS
   have h66:cu=bh 66 v37:=by rw [hv9];exact(ud (a7.of_own (hS.getSl 0 rfl))).symm
   have h67:cv=bh 67 v37:=by rw [hv9];exact(sC (a7.of_own (hS.getSl 1 rfl))).symm
   clear hS
   subst h66;subst h67
   exact aE ⟨_,bq 37 h rfl rfl,hv9,s⟩
  ·intro f9 w2 vl6 E9 hs9 hd9 hl hF s
   have h:=cJ [(37,.tuple #[.agg (fQ (tD K K1 kx) (bh 66 (vl6 5)) (bh 67 (vl6 5))),.int .i64 0])] h hs9 hd9 ⟨bp hl 37 5 (by kernel_rfl) (hF 5 (by decide)),trivial⟩
   refine ap ac 1 h rfl λf h=>aE ⟨_,bq 31 h rfl rfl,rfl,s⟩
  ·intro f9 w2 vl6 E9 hs9 hd9 hl hF s
   have h:=cJ [(31,.tuple #[.agg (fQ (tD K K1 kx) (bh 66 (vl6 5)) (bh 67 (vl6 5))),.int .i64 0])] h hs9 hd9 ⟨bp hl 31 6 (by kernel_rfl) (hF 6 (by decide)),trivial⟩
   refine ap ac 1 h rfl λf h=>aE ⟨_,bq 38 h rfl rfl,rfl,s⟩
  ·intro f9 w2 vl6 E9 hs9 hd9 hl hF s
   have h:=cJ [(31,.tuple #[.agg (fQ (tD K K1 kx) (bh 66 (vl6 5)) (bh 67 (vl6 5))),.int .i64 0])] h hs9 hd9 ⟨bp hl 31 6 (by kernel_rfl) (hF 6 (by decide)),trivial⟩
   refine ap ac 1 h rfl λf h=>aE ⟨_,bq 39 h rfl rfl,rfl,s⟩
  ·intro f9 w2 vl6 E9 hs9 hd9 hl hF s
   have h:=cJ [(40,_),(38,.agg (fQ (tD K K1 kx) (bh 66 (vl6 5)) (bh 67 (vl6 5))))] h hs9 hd9 ⟨bp hl 40 9 (by kernel_rfl) (hF 9 (by decide)),bp hl 38 7 (by kernel_rfl) (hF 7 (by decide)),trivial⟩
   refine fX 0 (kx) h s bI rfl rfl rfl (ao _ _ _ _) (by omega) (bL (gT _ _) (gT _ _)) (show _=au (K1.set kx (((tD K K1 kx),(bh 66 (vl6 5)),(bh 67 (vl6 5))):N3)) from sJ (by omega) (((tD K K1 kx),(bh 66 (vl6 5)),(bh 67 (vl6 5))):N3)) λw1 s=>?_
   replace s:=s.resl (m:=(K1.set kx (((tD K K1 kx),(bh 66 (vl6 5)),(bh 67 (vl6 5))):N3)).length) (ys:=au (K1.set kx (((tD K K1 kx),(bh 66 (vl6 5)),(bh 67 (vl6 5))):N3))) 0 rfl (by rw [List.length_set]) rfl
   exact aE ⟨undef,gO rfl,trivial,s⟩
  intro f w1 vl6 hs9 hd9 hv hr hF s
  replace h:=mT (ops:=_) [(32,_),(33,_),(34,_),(35,_),(36,_),(37,.tuple #[.agg (fQ (tD K K1 kx) (bh 66 (vl6 5)) (bh 67 (vl6 5))),.int .i64 0]),(31,.tuple #[.agg (fQ (tD K K1 kx) (bh 66 (vl6 5)) (bh 67 (vl6 5))),.int .i64 0]),(38,.agg (fQ (tD K K1 kx) (bh 66 (vl6 5)) (bh 67 (vl6 5)))),(39,_),(40,_)] h hs9 hd9 hr ⟨(hv 0 32 rfl).trans (hF 0 rfl),(hv 1 33 rfl).trans (hF 1 rfl),(hv 2 34 rfl).trans (hF 2 rfl),(hv 3 35 rfl).trans (hF 3 rfl),(hv 4 36 rfl).trans (hF 4 rfl),(hv 5 37 rfl).trans (hF 5 rfl),(hv 6 31 rfl).trans (hF 6 rfl),(hv 7 38 rfl).trans (hF 7 rfl),(hv 8 39 rfl).trans (hF 8 rfl),(hv 9 40 rfl).trans (hF 9 rfl),trivial⟩ (by kernel_rfl)
  replace s:St w0 (.sl (bh 66 (vl6 5)) 60 33 (tD K K1 kx).sc.length (aj (tD K K1 kx).sc)::.sl (bh 67 (vl6 5)) 60 33 (tD K K1 kx).fg.length (aj (tD K K1 kx).fg)::.sl vq 63 68 (K1.set kx (((tD K K1 kx),(bh 66 (vl6 5)),(bh 67 (vl6 5))):N3)).length (au (K1.set kx (((tD K K1 kx),(bh 66 (vl6 5)),(bh 67 (vl6 5))):N3)))::.blk b5 (.cells (fQ (tC K K1 kx) (tB K K1 kx).2.1 (tB K K1 kx).2.2) 63)::(.grp k1 (eI K1))::.blk bm (jE (dc K))::.blk b2 (.cells (#[vq]) 24)::B9) _:=s
  replace s:=s.bring 4 rfl
  replace s:=s.bring 2 rfl
  replace s:=s.bring 2 rfl
  replace s:St w0 (.sl (bh 66 (vl6 5)) 60 33 (tD K K1 kx).sc.length (aj (tD K K1 kx).sc)::.sl (bh 67 (vl6 5)) 60 33 (tD K K1 kx).fg.length (aj (tD K K1 kx).fg)::(.grp k1 (eI K1))::.sl vq 63 68 (K1.set kx (((tD K K1 kx),(bh 66 (vl6 5)),(bh 67 (vl6 5))):N3)).length (au (K1.set kx (((tD K K1 kx),(bh 66 (vl6 5)),(bh 67 (vl6 5))):N3)))::.blk b5 (.cells (fQ (tC K K1 kx) (tB K K1 kx).2.1 (tB K K1 kx).2.2) 63)::.blk bm (jE (dc K))::.blk b2 (.cells (#[vq]) 24)::B9) _:=s
  obtain ⟨k2,s⟩:=s.grpR (S':=eI (K1.set kx (((tD K K1 kx),(bh 66 (vl6 5)),(bh 67 (vl6 5))):N3))) (λw9 h1 h2 h3=>ot h3 ⟨h1,h2⟩)
  obtain ⟨K2,hK2⟩:∃ x9,x9=(K1.set kx (((tD K K1 kx),(bh 66 (vl6 5)),(bh 67 (vl6 5))):N3)):=⟨_,rfl⟩
  rw [← hK2] at s
  have hx2:K2.getD kx z3=((tD K K1 kx),(bh 66 (vl6 5)),(bh 67 (vl6 5))):=by rw [hK2];exact kZ (by omega) _
  have hl2:K2.length=K1.length:=by rw [hK2,List.length_set]
  have hT2:RN (tD K K1 kx):=pJ hT1 hts
  obtain ⟨hp2,hR2,hm2⟩:=pm hR1 (by omega) (x:=(((tD K K1 kx),(bh 66 (vl6 5)),(bh 67 (vl6 5))):N3)) (show (K1.getD kx z3).1.me=_ by rw [hx1];rfl) hT2
  rw [← hK2] at hp2 hR2 hm2
  have hn2:nds K2=jI (nds K1) (tD K K1 kx):=by rw [hp2,ik]
  have hT2l:=hT2.len
  have hend:=Au hRS hk rfl hn1 (show (tD K K1 kx)=oz (tA K kx) (kw (av K1) (br K1 ((tA K kx).sc.getD 0 aS).1).1) by rw [← hg1]) hn2
  refine aG (ag ?_)
  cases p1:(bu (av K2) (((tD K K1 kx).sc.getD 0 aS).1):Bool)
  ·refine cK 10 h (by kernel_rfl) (aH 4 h s cH rfl rfl (rfl) rfl λf h=>aD ac 2 h rfl λf h=>aF h (a6 fU (h.ev rfl) ((a7.of_own (s.getSl 1 rfl)).some (by omega))) rfl λf h=>bw (V:=(bh 66 (vl6 5))) (dt (a7.of_own (s.getSl 1 rfl)) (kx*68+66) ((kc K2 kx (by omega)).trans (by rw [hx2]))) h ci rfl rfl λf h=>aF h (bj ((eP (s.getG 0 rfl) (show kx<K2.length by omega) hx2).1) (0) aA6 dd (h.ev rfl) (h.ev rfl) (by omega) (by omega)) rfl λf h=>aF h (a6 gS (h.ev rfl) (((eP (s.getG 0 rfl) (show kx<K2.length by omega) hx2).1).some (by omega))) rfl λf h=>bw (V:=.int .i64 ((tD K K1 kx).sc.getD 0 aS).1) (dt ((eP (s.getG 0 rfl) (show kx<K2.length by omega) hx2).1) (0*33+0) (z6 (tD K K1 kx).sc 0 (by omega))) h bQ rfl rfl λf h=>bR h ny (λw9 hE9=>bK (.pointer none) (gK K2 vq (((tD K K1 kx).sc.getD 0 aS).1) w9 ⟨(a7.of_own (s.getSl 1 rfl)).keep hE9,λy hy=>(s.getG 0 rfl y hy).keep hE9⟩ (by omega)) (DX (aq0 ((tM hR2.nos).trans p1)))) rfl rfl λf h=>aD ac 1 h rfl λf h=>bF s λw1 s=>nt (cw ac 1 h rfl λf h=>ak h (bk (.bool false) (fv aB0 (h.ev rfl) (h.ev rfl)) (rfl)) rfl λf h=>tS h rfl (wpIn_skip ?_)))
   replace s:=s.bring 1 rfl
   replace s:St w0 (.sl vq 63 68 K2.length (au K2)::(.grp k2 (eI K2))::.blk b5 (.cells (fQ (tC K K1 kx) (tB K K1 kx).2.1 (tB K K1 kx).2.2) 63)::.blk bm (jE (dc K))::.blk b2 (.cells (#[vq]) 24)::B9) _:=s
   exact dN rfl h (⟨_,rfl,K2,k2,(by rw [hend,p1];rfl),(s.pick _ (ap7 _ (ap7 _ (ap8 _ (ap8 _ (ap8 _ (List.Sublist.refl _)))))))⟩)
  ·refine cK 10 h (by kernel_rfl) (aH 4 h s cH rfl rfl (rfl) rfl λf h=>aD ac 2 h rfl λf h=>aF h (a6 fU (h.ev rfl) ((a7.of_own (s.getSl 1 rfl)).some (by omega))) rfl λf h=>bw (V:=(bh 66 (vl6 5))) (dt (a7.of_own (s.getSl 1 rfl)) (kx*68+66) ((kc K2 kx (by omega)).trans (by rw [hx2]))) h ci rfl rfl λf h=>aF h (bj ((eP (s.getG 0 rfl) (show kx<K2.length by omega) hx2).1) (0) aA6 dd (h.ev rfl) (h.ev rfl) (by omega) (by omega)) rfl λf h=>aF h (a6 gS (h.ev rfl) (((eP (s.getG 0 rfl) (show kx<K2.length by omega) hx2).1).some (by omega))) rfl λf h=>bw (V:=.int .i64 ((tD K K1 kx).sc.getD 0 aS).1) (dt ((eP (s.getG 0 rfl) (show kx<K2.length by omega) hx2).1) (0*33+0) (z6 (tD K K1 kx).sc 0 (by omega))) h bQ rfl rfl λf h=>bR h ny (λw9 hE9=>bK (.pointer (some (bf vq ((tY K K1 K2 kx)*68)))) (gK K2 vq (((tD K K1 kx).sc.getD 0 aS).1) w9 ⟨(a7.of_own (s.getSl 1 rfl)).keep hE9,λy hy=>(s.getG 0 rfl y hy).keep hE9⟩ (by omega)) (yT (lE hR2 p1).1)) rfl rfl λf h=>aD ac 1 h rfl λf h=>bF s λw1 s=>nt (cw ac 1 h rfl λf h=>ak h (bk (.bool true) (fv aB0 (h.ev rfl) (h.ev rfl)) (rfl)) rfl λf h=>iz h rfl ?_))
   replace s:=s.bring 1 rfl
   replace s:St w0 (.sl vq 63 68 K2.length (au K2)::(.grp k2 (eI K2))::.blk b5 (.cells (fQ (tC K K1 kx) (tB K K1 kx).2.1 (tB K K1 kx).2.2) 63)::.blk bm (jE (dc K))::.blk b2 (.cells (#[vq]) 24)::B9) _:=s
   obtain ⟨hi2,hg2,hgm2⟩:=lE hR2 p1
   replace hg2:(tE K K1 K2 kx)=_:=hg2
   have hzr:RN (tE K K1 K2 kx).1:=by rw [hg2];exact hR2.rn _ hgm2
   have hzl:=hzr.len
   have hzf:=hzr.fg.1
   have hnt:=kD (kl.2 hzr) (iE.2 hT2.me)
   refine BE 1 [[],[],[1],[1,2],[],[4],[4,5],[4,5,6],[1,2,3,4,5,6,7],[1,2,3,4,5,6,7,8],[1,2,3,4,5,6,7,8,9],[1,2,3,4,5,6,7,8,9],[0,1,2,3,4,5,6,7,8,9,10],[0,1,2,3,4,5,6,7,8,9,10,12]] [[],[],[],[],[],[],[],[],[],[],[],[],[],[14]] [[],[],[],[0],[],[],[0],[0],[],[],[],[],[],[]] [[_]] [.v (.pointer (some (bf vq ((tY K K1 K2 kx)*68)))),.v (.pointer (some (bf vq ((tY K K1 K2 kx)*68)))),.v (.pointer (some (bf vq ((tY K K1 K2 kx)*68)))),.v (.agg (Ry (tE K K1 K2 kx))),.v (.pointer (some (bf vq (kx*68)))),.v (.pointer (some (bf vq (kx*68)))),.v (.pointer (some (bf vq (kx*68+0)))),.v (.agg (ar (tD K K1 kx).me)),.r (λv=>[.sl (bh 66 (v 8)) 60 33 (tF K K1 K2 kx).sc.length (aj (tF K K1 K2 kx).sc),.sl (bh 67 (v 8)) 60 33 (tF K K1 K2 kx).fg.length (aj (tF K K1 K2 kx).fg)]) (λv=>v 8=.tuple #[.agg (fQ (tF K K1 K2 kx) (bh 66 (v 8)) (bh 67 (v 8))),.int .i64 0]),.f (λv=>v 9=.tuple #[.agg (fQ (tF K K1 K2 kx) (bh 66 (v 8)) (bh 67 (v 8))),.int .i64 0]),.f (λv=>v 10=.agg (fQ (tF K K1 K2 kx) (bh 66 (v 8)) (bh 67 (v 8)))),.v (.int .i64 0),.v (.pointer (some (bf vq ((tY K K1 K2 kx)*68)))),.m (λv=>[.sl vq 63 68 (K2.set (tY K K1 K2 kx) (((tF K K1 K2 kx),(bh 66 (v 8)),(bh 67 (v 8))):N3)).length (au (K2.set (tY K K1 K2 kx) (((tF K K1 K2 kx),(bh 66 (v 8)),(bh 67 (v 8))):N3)))])] (λ_ _=>[]) _ h s rfl (by kernel_rfl) (by kernel_rfl) (by kernel_rfl) (by kernel_rfl) (cq ?_ (cq ?_ (cq ?_ (cq ?_ (cq ?_ (cq ?_ (cq ?_ (cq ?_ (cq ?_ (cq ?_ (cq ?_ (cq ?_ (cq ?_ (cq ?_ (trivial))))))))))))))) [0,1,2,3,4,5,6,7,8,9,10,11,12,13] (by kernel_rfl) ?_
   ·intro f9 w2 vl9 E9 lst9 hlo hlc hlz hs9 hd9 hl hF hR9 s
    have h:=cJ [(6,_)] h hs9 hd9 ⟨gp hl 6 (by kernel_rfl) (h.holds 6 _ rfl),trivial⟩
    refine ap ac 1 h rfl λf h=>aE ⟨_,bq 53 h rfl rfl,rfl,s⟩
   ·intro f9 w2 vl9 E9 lst9 hlo hlc hlz hs9 hd9 hl hF hR9 s
    have h:=cJ [(6,_)] h hs9 hd9 ⟨gp hl 6 (by kernel_rfl) (h.holds 6 _ rfl),trivial⟩
    refine ap ac 1 h rfl λf h=>aE ⟨_,bq 54 h rfl rfl,rfl,s⟩
   ·intro f9 w2 vl9 E9 lst9 hlo hlc hlz hs9 hd9 hl hF hR9 s
    have h:=cJ [(54,_)] h hs9 hd9 ⟨bp hl 54 1 (by kernel_rfl) (hF 1 (by decide)),trivial⟩
    refine ap ac 1 h rfl λf h=>aE ⟨_,bq 55 h rfl rfl,rfl,s⟩
   ·intro f9 w2 vl9 E9 lst9 hlo hlc hlz hs9 hd9 hl hF hR9 s
    have hq9:Own.sl vq 63 68 K2.length (au K2)∈E9:=hR9 0 (by decide) _ ar5
    have h:=cJ [(55,_)] h hs9 hd9 ⟨bp hl 55 2 (by kernel_rfl) (hF 2 (by decide)),trivial⟩
    have hq8:Own.sl vq 63 68 K2.length (au K2)∈((.grp k2 (eI K2))::.blk b5 (.cells (fQ (tC K K1 kx) (tB K K1 kx).2.1 (tB K K1 kx).2.2) 63)::.blk bm (jE (dc K))::.blk b2 (.cells (#[vq]) 24)::(B9++E9)):=by simp only [ar6,at9,hq9,or_true]
    refine ax ((a7.of_own (s.memSl hq8)).el ((tY K K1 K2 kx)) (by omega) (by decide) (D:=aR (tE K K1 K2 kx).1.me (tE K K1 K2 kx).1.pr (tE K K1 K2 kx).2.1 (tE K K1 K2 kx).2.2) (eZ K2 _ hi2)) h bI rfl (ao _ _ _ _) rfl λf h=>aE ⟨_,bq 56 h rfl rfl,rfl,s⟩
   ·intro f9 w2 vl9 E9 lst9 hlo hlc hlz hs9 hd9 hl hF hR9 s
    have h:=cJ [(1,_)] h hs9 hd9 ⟨gp hl 1 (by kernel_rfl) (h.holds 1 _ rfl),trivial⟩
    refine ap ac 1 h rfl λf h=>aE ⟨_,bq 57 h rfl rfl,rfl,s⟩
   ·intro f9 w2 vl9 E9 lst9 hlo hlc hlz hs9 hd9 hl hF hR9 s
    have h:=cJ [(57,_)] h hs9 hd9 ⟨bp hl 57 4 (by kernel_rfl) (hF 4 (by decide)),trivial⟩
    refine ap ac 1 h rfl λf h=>aE ⟨_,bq 58 h rfl rfl,rfl,s⟩
   ·intro f9 w2 vl9 E9 lst9 hlo hlc hlz hs9 hd9 hl hF hR9 s
    have hq9:Own.sl vq 63 68 K2.length (au K2)∈E9:=hR9 0 (by decide) _ ar5
    have h:=cJ [(58,_)] h hs9 hd9 ⟨bp hl 58 5 (by kernel_rfl) (hF 5 (by decide)),trivial⟩
    have hq8:Own.sl vq 63 68 K2.length (au K2)∈((.grp k2 (eI K2))::.blk b5 (.cells (fQ (tC K K1 kx) (tB K K1 kx).2.1 (tB K K1 kx).2.2) 63)::.blk bm (jE (dc K))::.blk b2 (.cells (#[vq]) 24)::(B9++E9)):=by simp only [ar6,at9,hq9,or_true]
    refine ak h (a6 gn (h.ev rfl) ((a7.of_own (s.memSl hq8)).some (by omega))) rfl λf h=>aE ⟨_,bq 59 h rfl rfl,rfl,s⟩
   ·intro f9 w2 vl9 E9 lst9 hlo hlc hlz hs9 hd9 hl hF hR9 s
    have hq9:Own.sl vq 63 68 K2.length (au K2)∈E9:=hR9 0 (by decide) _ ar5
    have h:=cJ [(59,_)] h hs9 hd9 ⟨bp hl 59 6 (by kernel_rfl) (hF 6 (by decide)),trivial⟩
    have hq8:Own.sl vq 63 68 K2.length (au K2)∈((.grp k2 (eI K2))::.blk b5 (.cells (fQ (tC K K1 kx) (tB K K1 kx).2.1 (tB K K1 kx).2.2) 63)::.blk bm (jE (dc K))::.blk b2 (.cells (#[vq]) 24)::(B9++E9)):=by simp only [ar6,at9,hq9,or_true]
    refine ax (a7.elF (a7.of_own (s.memSl hq8)) (kx) 0 33 (by omega) (by decide) (C:=aR (tD K K1 kx).me (tD K K1 kx).pr (bh 66 (vl6 5)) (bh 67 (vl6 5))) ((eZ K2 kx (by omega)).trans (by rw [hx2])) (D:=ar (tD K K1 kx).me) (dx _ _ _ _)) h aI rfl (ae _) rfl λf h=>aE ⟨_,bq 60 h rfl rfl,rfl,s⟩
   ·intro f9 w2 vl9 E9 lst9 hlo hlc hlz hs9 hd9 hl hF hR9 s
    have h:=cJ [(56,_),(60,_)] h hs9 hd9 ⟨bp hl 56 3 (by kernel_rfl) (hF 3 (by decide)),bp hl 60 7 (by kernel_rfl) (hF 7 (by decide)),trivial⟩
    refine bg h s JR (tG (tE K K1 K2 kx).1 (tE K K1 K2 kx).2.1 (tE K K1 K2 kx).2.2 (tD K K1 kx).me _ (s.getG 0 rfl _ (bE hi2)).1 (s.getG 0 rfl _ (bE hi2)).2 (by omega) (by omega)) rfl rfl ?_;rintro f w1 v61 ⟨cu,cv,hv9,hS⟩ hE h sq;rw [hnt.1,hnt.2] at hv9;rw [hnt.1] at hS;replace s:=s.add hS
    have h66:cu=bh 66 v61:=by rw [hv9];exact(ud (a7.of_own (hS.getSl 0 rfl))).symm
    have h67:cv=bh 67 v61:=by rw [hv9];exact(sC (a7.of_own (hS.getSl 1 rfl))).symm
    clear hS
    subst h66;subst h67
    exact aE ⟨_,bq 61 h rfl rfl,hv9,s⟩
   ·intro f9 w2 vl9 E9 lst9 hlo hlc hlz hs9 hd9 hl hF hR9 s
    have h:=cJ [(61,.tuple #[.agg (fQ (tF K K1 K2 kx) (bh 66 (vl9 8)) (bh 67 (vl9 8))),.int .i64 0])] h hs9 hd9 ⟨bp hl 61 8 (by kernel_rfl) (hF 8 (by decide)),trivial⟩
    refine ap ac 1 h rfl λf h=>aE ⟨_,bq 52 h rfl rfl,rfl,s⟩
   ·intro f9 w2 vl9 E9 lst9 hlo hlc hlz hs9 hd9 hl hF hR9 s
    have h:=cJ [(52,.tuple #[.agg (fQ (tF K K1 K2 kx) (bh 66 (vl9 8)) (bh 67 (vl9 8))),.int .i64 0])] h hs9 hd9 ⟨bp hl 52 9 (by kernel_rfl) (hF 9 (by decide)),trivial⟩
    refine ap ac 1 h rfl λf h=>aE ⟨_,bq 62 h rfl rfl,rfl,s⟩
   ·intro f9 w2 vl9 E9 lst9 hlo hlc hlz hs9 hd9 hl hF hR9 s
    have h:=cJ [(52,.tuple #[.agg (fQ (tF K K1 K2 kx) (bh 66 (vl9 8)) (bh 67 (vl9 8))),.int .i64 0])] h hs9 hd9 ⟨bp hl 52 9 (by kernel_rfl) (hF 9 (by decide)),trivial⟩
    refine ap ac 1 h rfl λf h=>aE ⟨_,bq 63 h rfl rfl,rfl,s⟩
   ·intro f9 w2 vl9 E9 lst9 hlo hlc hlz hs9 hd9 hl hF hR9 s
    have h:=cJ [(53,_)] h hs9 hd9 ⟨bp hl 53 0 (by kernel_rfl) (hF 0 (by decide)),trivial⟩
    refine ap ac 1 h rfl λf h=>aE ⟨_,bq 64 h rfl rfl,rfl,s⟩
   ·intro f9 w2 vl9 E9 lst9 hlo hlc hlz hs9 hd9 hl hF hR9 s
    have h:=cJ [(64,_),(62,.agg (fQ (tF K K1 K2 kx) (bh 66 (vl9 8)) (bh 67 (vl9 8))))] h hs9 hd9 ⟨bp hl 64 12 (by kernel_rfl) (hF 12 (by decide)),bp hl 62 10 (by kernel_rfl) (hF 10 (by decide)),trivial⟩
    refine fX 0 ((tY K K1 K2 kx)) h s bI rfl rfl rfl (ao _ _ _ _) (by omega) (bL (gT _ _) (gT _ _)) (show _=au (K2.set (tY K K1 K2 kx) (((tF K K1 K2 kx),(bh 66 (vl9 8)),(bh 67 (vl9 8))):N3)) from sJ hi2 (((tF K K1 K2 kx),(bh 66 (vl9 8)),(bh 67 (vl9 8))):N3)) λw1 s=>?_
    replace s:=s.resl (m:=(K2.set (tY K K1 K2 kx) (((tF K K1 K2 kx),(bh 66 (vl9 8)),(bh 67 (vl9 8))):N3)).length) (ys:=au (K2.set (tY K K1 K2 kx) (((tF K K1 K2 kx),(bh 66 (vl9 8)),(bh 67 (vl9 8))):N3))) 0 rfl (by rw [List.length_set]) rfl
    exact aE ⟨undef,gO rfl,trivial,s⟩
   intro f w1 vl9 hs9 hd9 hv hr hF s
   replace h:=mT (ops:=_) [(53,_),(54,_),(55,_),(56,_),(57,_),(58,_),(59,_),(60,_),(61,.tuple #[.agg (fQ (tF K K1 K2 kx) (bh 66 (vl9 8)) (bh 67 (vl9 8))),.int .i64 0]),(52,.tuple #[.agg (fQ (tF K K1 K2 kx) (bh 66 (vl9 8)) (bh 67 (vl9 8))),.int .i64 0]),(62,.agg (fQ (tF K K1 K2 kx) (bh 66 (vl9 8)) (bh 67 (vl9 8)))),(63,_),(64,_)] h hs9 hd9 hr ⟨(hv 0 53 rfl).trans (hF 0 rfl),(hv 1 54 rfl).trans (hF 1 rfl),(hv 2 55 rfl).trans (hF 2 rfl),(hv 3 56 rfl).trans (hF 3 rfl),(hv 4 57 rfl).trans (hF 4 rfl),(hv 5 58 rfl).trans (hF 5 rfl),(hv 6 59 rfl).trans (hF 6 rfl),(hv 7 60 rfl).trans (hF 7 rfl),(hv 8 61 rfl).trans (hF 8 rfl),(hv 9 52 rfl).trans (hF 9 rfl),(hv 10 62 rfl).trans (hF 10 rfl),(hv 11 63 rfl).trans (hF 11 rfl),(hv 12 64 rfl).trans (hF 12 rfl),trivial⟩ (by kernel_rfl)
   replace s:St w0 (.sl (bh 66 (vl9 8)) 60 33 (tF K K1 K2 kx).sc.length (aj (tF K K1 K2 kx).sc)::.sl (bh 67 (vl9 8)) 60 33 (tF K K1 K2 kx).fg.length (aj (tF K K1 K2 kx).fg)::.sl vq 63 68 (K2.set (tY K K1 K2 kx) (((tF K K1 K2 kx),(bh 66 (vl9 8)),(bh 67 (vl9 8))):N3)).length (au (K2.set (tY K K1 K2 kx) (((tF K K1 K2 kx),(bh 66 (vl9 8)),(bh 67 (vl9 8))):N3)))::(.grp k2 (eI K2))::.blk b5 (.cells (fQ (tC K K1 kx) (tB K K1 kx).2.1 (tB K K1 kx).2.2) 63)::.blk bm (jE (dc K))::.blk b2 (.cells (#[vq]) 24)::B9) _:=s
   replace s:=s.bring 3 rfl
   replace s:=s.bring 2 rfl
   replace s:=s.bring 2 rfl
   replace s:St w0 (.sl (bh 66 (vl9 8)) 60 33 (tF K K1 K2 kx).sc.length (aj (tF K K1 K2 kx).sc)::.sl (bh 67 (vl9 8)) 60 33 (tF K K1 K2 kx).fg.length (aj (tF K K1 K2 kx).fg)::(.grp k2 (eI K2))::.sl vq 63 68 (K2.set (tY K K1 K2 kx) (((tF K K1 K2 kx),(bh 66 (vl9 8)),(bh 67 (vl9 8))):N3)).length (au (K2.set (tY K K1 K2 kx) (((tF K K1 K2 kx),(bh 66 (vl9 8)),(bh 67 (vl9 8))):N3)))::.blk b5 (.cells (fQ (tC K K1 kx) (tB K K1 kx).2.1 (tB K K1 kx).2.2) 63)::.blk bm (jE (dc K))::.blk b2 (.cells (#[vq]) 24)::B9) _:=s
   obtain ⟨k3,s⟩:=s.grpR (S':=eI (K2.set (tY K K1 K2 kx) (((tF K K1 K2 kx),(bh 66 (vl9 8)),(bh 67 (vl9 8))):N3))) (λw9 h1 h2 h3=>ot h3 ⟨h1,h2⟩)
   have hp3:=(pm hR2 hi2 (x:=(((tF K K1 K2 kx),(bh 66 (vl9 8)),(bh 67 (vl9 8))):N3)) rfl (tR hzr hT2.me)).1
   replace s:=s.bring 1 rfl
   replace s:St w0 (.sl vq 63 68 (K2.set (tY K K1 K2 kx) (((tF K K1 K2 kx),(bh 66 (vl9 8)),(bh 67 (vl9 8))):N3)).length (au (K2.set (tY K K1 K2 kx) (((tF K K1 K2 kx),(bh 66 (vl9 8)),(bh 67 (vl9 8))):N3)))::(.grp k3 (eI (K2.set (tY K K1 K2 kx) (((tF K K1 K2 kx),(bh 66 (vl9 8)),(bh 67 (vl9 8))):N3))))::.blk b5 (.cells (fQ (tC K K1 kx) (tB K K1 kx).2.1 (tB K K1 kx).2.2) 63)::.blk bm (jE (dc K))::.blk b2 (.cells (#[vq]) 24)::B9) _:=s
   exact dN rfl h (⟨_,rfl,(K2.set (tY K K1 K2 kx) (((tF K K1 K2 kx),(bh 66 (vl9 8)),(bh 67 (vl9 8))):N3)),k3,(by rw [hend,p1,hp3,ik];unfold tF;rw [hg2];rfl),(s.pick _ (ap7 _ (ap7 _ (ap8 _ (ap8 _ (ap8 _ (List.Sublist.refl _)))))))⟩)
theorem By (L:List N3) (vo:Value) (w:World) (hO:qC w vo L) (hL:L.length<=40) (hb:RwB L):Calls Tryz.prog 104 [.agg #[vo]].toArray w (bW w (V1 w (ZY vo L) (VV L) (V6 L))):=by
 refine eh Tryz.func104 rfl Tryz.ntmps104 rfl [(0,.agg #[vo])] (by simp) λf h=>?_
 have s:=St.start w
 refine qr (ba (#[vo]) h s rfl rfl rfl λf w1 b1 h s=>aK (#[aq]) h s CV rfl rfl λf w1 b2 h s=>e9 ac 1 h rfl λf h=>ag (ag ?_))
 refine aC (al 1 h s cH rfl rfl (rfl) rfl λf h=>fx h s zz (iU L vo _ (hO.keep s.ext) hL hb) rfl rfl (λr0 f w1 h s=>?_) (λr0 f w1 h s=>?_))
 ·refine e9 ac 1 h rfl λf h=>dF h rfl (qr (ak h (x8 Xt) rfl λf h=>am 0 h s cH rfl rfl rfl (rfl) (rfl) (lZ (rfl)) λw1 s=>e9 ac 1 h rfl λf h=>rt ?_))
  exact jt 0 rfl h s cH rfl rfl rfl (rfl) (Lh s (Qz r0).2 (Qz r0).1)
 ·refine e9 ac 1 h rfl λf h=>ry h rfl (qr (al 1 h s cH rfl rfl (rfl) rfl λf h=>bg h s R7 (yH L vo _ (hO.keep s.ext) hL hb) rfl rfl ?_));rintro f w1 v10 ⟨vq,K,ks,rfl,hnk,hS⟩ hE h sq;replace s:=s.add hS;clear hS
  have hlk:K.length=L.length:=by have h9:=aq3 List.length hnk;simpa [nds] using h9
  refine am 3 h s cH rfl rfl rfl (rfl) (rfl) (lZ (aZ (s.getSl 0 rfl))) λw1 s=>nt (ag (qr ?_))
  have hrs:=(qm r0).rs
  refine al 3 h s cH rfl rfl (rfl) rfl λf h=>df [.agg #[vq]] h rZ (ja vq _ _ _ s) rfl rfl ?_;rintro f w1 r ⟨bn,rfl,s⟩ h
  refine nt (au4 (eg (λd A9=>∃ (Kd:List N3) (kd:List Nat),(nds Kd=Ck (nds L) d/\RS Kd/\av Kd=av L)/\A9=[.sl vq 63 68 Kd.length (au Kd),.grp kd (eI Kd),.blk b2 (.cells (#[aq]) 24),.blk b1 (.cells #[vq] 24)]) [.sl vq 63 68 K.length (au K),.grp ks (eI K),.blk b2 (.cells (#[aq]) 24),.blk b1 (.cells #[vq] 24)] [.blk bn (.cells #[vq] 24)] (L.length) (λ_=>false) (λd=>[Value.pointer (some (bf vq (d*68)))]) h s rfl sA (List.Perm.refl _) (⟨K,ks,⟨hnk,hrs.nds hnk,Vj hnk⟩,rfl⟩) (λ_=>rfl) ?_ ?_ ?_ ?_))
  ·intro lp w2 GG g0 hg0 s2 hY;exact gI L.length (by omega) vq _ _ (by rw [← hlk];exact a7.of_own (s.getSl 1 rfl)) lp bn (λ_=>false) GG g0 w w2 s2 hg0 hY
  ·intro lp D9 d9 rc R9 A9 w2 hd9 hq9 hJ9 s
   obtain ⟨Kd,kd,⟨hkn,hkr,hkm⟩,rfl⟩:=hJ9
   have h:=Sl.round1 (p:=13) (V:=.pointer (some (bf vq (d9*68)))) h rfl
   have hdl9:=hd9
   have hdk:d9<Kd.length:=by have h9:=aq3 List.length hkm;simp only [au1] at h9;omega
   refine re ac 1 h rfl λf h=>⟨_,s,λw3 s=>?_⟩
   refine au4 (aC (al 5 h s cH rfl rfl (rfl) rfl λf h=>ap ac 1 h rfl λf h=>?_))
   replace s:=s.bring 3 rfl
   replace s:=s.bring 3 rfl
   replace s:St w (.sl vq 63 68 Kd.length (au Kd)::(.grp kd (eI Kd))::.blk lp (.loop (rc .busy))::.blk D9 (.deferred (some []))::.blk b2 (.cells (#[aq]) 24)::.blk b1 (.cells (#[vq]) 24)::R9) _:=s
   refine df [.agg #[vq],.pointer (some (bf vq (d9*68)))] h T8 (BM Kd kd vq d9 _ _ _ s hdk hkr) rfl rfl ?_;rintro f w1 r ⟨K9,kn,hn9,s⟩ h
   refine aE (aW ?_)
   have hme:(Kd.getD d9 z3).1.me=(av L).getD d9 aS:=by rw [← hkm];exact(i9 hdk).symm
   have hq9:=DA hkr (Ar hkr hdk) hn9
   have hn8:nds K9=Ck (nds L) (d9+1):=by rw [FE (by rw [au1];exact hdl9),hn9,hkn,hme]
   replace s:=s.bring 1 rfl
   replace s:=s.bring 1 rfl
   replace s:=s.bring 3 rfl
   replace s:=s.bring 3 rfl
   replace s:St w (.blk lp (.loop (rc .busy))::.blk D9 (.deferred (some []))::.sl vq 63 68 K9.length (au K9)::(.grp kn (eI K9))::.blk b2 (.cells (#[aq]) 24)::.blk b1 (.cells (#[vq]) 24)::R9) _:=s
   refine ⟨rfl,_,⟨K9,kn,⟨hn8,hq9.1,hq9.2.trans hkm⟩,rfl⟩,s.pick _ ?_⟩
   exact ap7 _ (List.Sublist.refl _)
  ·intro D9 A9 w2 hJ9 hq9 s
   obtain ⟨Kd,kd,⟨hkn,hkr,hkm⟩,rfl⟩:=hJ9
   replace h:Sl _ {f with defers:={target:=.collected D9,args:=#[]}::f.defers} _ [{target:=.collected D9,args:=#[]}]:=⟨h.size,by rw [h.defers],h.holds⟩
   refine aW (aG (qr (al 5 h s cH rfl rfl (rfl) rfl λf h=>am 4 h s cH rfl rfl rfl (rfl) (rfl) (lZ (aZ (s.getSl 2 rfl))) λw1 s=>e9 ac 1 h rfl λf h=>au3 ?_)))
   exact oF 4 0 rfl h s cH rfl rfl rfl rfl (rfl) (λw9 s9=>LM (DJ r0).1 (RA (by rw [(DJ r0).2,hkn,KD (by rw [au1])]) (s9.sel [2,3] rfl (by decide))))
  ·intro D9 d9 A9 w2 hd9 hqd9 hq9 hJ9 s
   cases hqd9
end Go.Proofs.YthmlflaiidhoiaaGreatDoor
