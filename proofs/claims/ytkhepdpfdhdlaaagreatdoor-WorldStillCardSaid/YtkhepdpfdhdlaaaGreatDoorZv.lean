/- Package chord and what it stands on, so far as it is wanted: what each function answers. -/
import Derived.Test.YtkhepdpfdhdlaaaGreatDoorZa
import Derived.Test.YtkhepdpfdhdlaaaGreatDoorZr
import Derived.Test.YtkhepdpfdhdlaaaGreatDoorZs
set_option linter.unusedVariables false
set_option linter.unusedSimpArgs false
set_option linter.unusedSectionVars false
namespace Go.Proofs.YtkhepdpfdhdlaaaGreatDoor
open Go.RowKit
set_option maxHeartbeats 4000000 in
theorem CI (K:List N3) (ks:List Nat) (vq:Value) (kx:Nat) (B9:List Own) (w0 w:World) (s:St w0 (.sl vq 72 68 K.length (ax K)::.grp ks (eG K)::B9) w) (hk:kx<K.length) (hRS:RS K):Calls Tryz.prog 145 [.agg #[vq],.pointer (some (bC vq (kx*68)))].toArray w (λe w9=>∃ r,e=.returned r/\∃ K9 kn,nds K9=iq (nds K) (K.getD kx z3).1.me.1/\St w0 (.sl vq 72 68 K9.length (ax K9)::.grp kn (eG K9)::B9) w9):=by
 have hx0:RN (K.getD kx z3).1:=hRS.rn _ (bU hk)
 have hl16:=hRS.len
 refine cO Tryz.func145 rfl Tryz.ntmps145 rfl [(0,.agg #[vq]),(1,.pointer (some (bC vq (kx*68))))] (by simp) λf h=>?_
 refine qr (aZ (#[vq]) h s rfl rfl rfl λf w1 b2 h s=>nt (qr (ak 0 h s cc rfl rfl (rfl) rfl λf h=>bB h s Tt (Bt K vq _ ⟨(br.of_own (s.getSl 1 rfl)),λy hy=>(s.getG 2 rfl y hy)⟩ (by omega) (Uk hRS.inc)) rfl rfl ?_)));rintro f w1 v8 ⟨bm,rfl,hS⟩ hE h sq;replace s:=s.add hS;clear hS
 refine e9 ac 1 h rfl λf h=>cw ac 2 h rfl λf h=>?_
 replace s:=s.bring 3 rfl
 replace s:=s.bring 3 rfl
 replace s:St w0 (.sl vq 72 68 K.length (ax K)::(.grp ks (eG K))::.blk bm (jm (dE K))::.blk b2 (.cells (#[vq]) 24)::B9) _:=s
 refine cF [.pointer (some (bC vq (kx*68))),.map (some bm)] h U1 (wu K ks (dE K) (aQ K) vq kx bm _ _ _ s hk (by omega) hx0 (by have:=hx0.len;have:=hx0.fg.1;omega) (uR hRS.nos)) rfl rfl ?_;rintro f w1 r ⟨du,dv,k1,s⟩ h
 obtain ⟨K1,hK1⟩:∃ x9,x9=K.set kx (((tA K kx),du,dv):N3):=⟨_,rfl⟩
 rw [← hK1] at s
 have hx1:K1.getD kx z3=((tA K kx),du,dv):=by rw [hK1];exact k6 hk _
 have hl1:K1.length=K.length:=by rw [hK1,List.length_set]
 have hT1:RN (tA K kx):=Bx hx0
 obtain ⟨hp1,hR1,hm1⟩:=n3 hRS hk (x:=((tA K kx),du,dv)) rfl hT1
 rw [← hK1] at hp1 hR1 hm1
 have hn1:nds K1=nf (nds K) (tA K kx):=by rw [hp1,jd]
 have hT1l:=hT1.len
 have hT1f:=hT1.fg.1
 have hf1:ck (aQ K1) ((tA K kx).sc.getD 0 bz).1=true:=by rw [hm1];exact oS hx0 (yD hRS hk)
 obtain ⟨hi1,hg1,hgm1⟩:=kP hR1 hf1
 replace hg1:(tB K K1 kx)=_:=hg1
 have hsr:RN (tB K K1 kx).1:=by rw [hg1];exact hR1.rn _ hgm1
 have hsl:=hsr.len
 have hsf:=hsr.fg.1
 have hts:=vK (l:=aQ K1) hsr
 refine nt (ah (rM 0 [[],[],[1],[1,2],[1,2,3],[1,2,3,4],[1,2,3,4,5],[1,2,3,4,5,6],[0,1,2,3,4,5,6,7],[0,1,2,3,4,5,6,7,8],[0,1,2,3,4,5,6,7,8,9],[],[0,1,2,3,4,5,6,7,8,9,10,11]] [[],[],[],[],[],[],[],[],[],[],[],[],[11]] [] [.v (.agg (#[vq])),.v _,.v _,.v (.pointer (some (bC vq (kx*68+66)))),.v du,.v (.pointer (some (bC du (0*33)))),.v (.pointer (some (bC du (0*33+0)))),.v (.int .i64 (((tA K kx).sc.getD 0 bz).1)),.v (.pointer (some (bC vq ((tX K K1 kx)*68)))),.v _,.v (.agg (Rb (tB K K1 kx))),.q (λv=>[.blk (sO (v 11)) (.cells (aP bz bz au au) 72)]),.m (λv=>[.blk (sO (v 11)) (.cells (Rb (tB K K1 kx)) 72)])] _ h s rfl (by kernel_rfl) (by kernel_rfl) (by kernel_rfl) (bW ?_ (fJ ac h rfl rfl rfl (fJ ac h rfl rfl rfl (bW ?_ (bW ?_ (bW ?_ (bW ?_ (bW ?_ (bW ?_ (fJ ac h rfl rfl rfl (bW ?_ (bW ?_ (bW ?_ (trivial)))))))))))))) [0,1,2,3,4,5,6,7,8,9,10,12] (by kernel_rfl) ?_))
 ·intro f9 w2 vl3 E9 hs9 hd9 hl hF s
  have h:=cb [(2,_)] h hs9 hd9 ⟨d5 hl 2 (by kernel_rfl) (h.holds 2 _ rfl),trivial⟩
  refine ak 3 h s cc rfl rfl (rfl) rfl λf h=>aw ⟨_,aV 12 h rfl rfl,rfl,s⟩
 ·intro f9 w2 vl3 E9 hs9 hd9 hl hF s
  have h:=cb [(14,_)] h hs9 hd9 ⟨aS hl 14 2 (by kernel_rfl) (hF 2 (by decide)),trivial⟩
  refine am h (bf g7 (h.ev rfl) ((br.of_own (s.getSl 0 rfl)).some (by omega))) rfl λf h=>aw ⟨_,aV 15 h rfl rfl,rfl,s⟩
 ·intro f9 w2 vl3 E9 hs9 hd9 hl hF s
  have h:=cb [(15,_)] h hs9 hd9 ⟨aS hl 15 3 (by kernel_rfl) (hF 3 (by decide)),trivial⟩
  refine ag (V:=du) (dq (br.of_own (s.getSl 0 rfl)) (kx*68+66) ((nj K1 kx (by omega)).trans (by rw [hx1]))) h c7 rfl rfl λf h=>aw ⟨_,aV 16 h rfl rfl,rfl,s⟩
 ·intro f9 w2 vl3 E9 hs9 hd9 hl hF s
  have h:=cb [(16,_)] h hs9 hd9 ⟨aS hl 16 4 (by kernel_rfl) (hF 4 (by decide)),trivial⟩
  refine am h (bg ((eX (s.getG 1 rfl) (show kx<K1.length by omega) hx1).1) (0) aD1 ed (h.ev rfl) (h.ev rfl) (by omega) (by omega)) rfl λf h=>aw ⟨_,aV 17 h rfl rfl,rfl,s⟩
 ·intro f9 w2 vl3 E9 hs9 hd9 hl hF s
  have h:=cb [(17,_)] h hs9 hd9 ⟨aS hl 17 5 (by kernel_rfl) (hF 5 (by decide)),trivial⟩
  refine am h (bf gD (h.ev rfl) (((eX (s.getG 1 rfl) (show kx<K1.length by omega) hx1).1).some (by omega))) rfl λf h=>aw ⟨_,aV 18 h rfl rfl,rfl,s⟩
 ·intro f9 w2 vl3 E9 hs9 hd9 hl hF s
  have h:=cb [(18,_)] h hs9 hd9 ⟨aS hl 18 6 (by kernel_rfl) (hF 6 (by decide)),trivial⟩
  refine ag (V:=.int .i64 ((tA K kx).sc.getD 0 bz).1) (dq ((eX (s.getG 1 rfl) (show kx<K1.length by omega) hx1).1) (0*33+0) (ym (tA K kx).sc 0 (by omega))) h bu rfl rfl λf h=>aw ⟨_,aV 19 h rfl rfl,rfl,s⟩
 ·intro f9 w2 vl3 E9 hs9 hd9 hl hF s
  have h:=cb [(12,_),(19,_)] h hs9 hd9 ⟨aS hl 12 0 (by kernel_rfl) (hF 0 (by decide)),aS hl 19 7 (by kernel_rfl) (hF 7 (by decide)),trivial⟩
  refine dM h s jI (a6 (.pointer (some (bC vq ((tX K K1 kx)*68)))) (fK K1 vq (((tA K kx).sc.getD 0 bz).1) _ ⟨(br.of_own (s.getSl 0 rfl)),λy hy=>(s.getG 1 rfl y hy)⟩ (by omega)) (uN hi1)) rfl rfl λf w1 h s=>aw ⟨_,aV 20 h rfl rfl,rfl,s⟩
 ·intro f9 w2 vl3 E9 hs9 hd9 hl hF s
  have h:=cb [(21,_)] h hs9 hd9 ⟨aS hl 21 9 (by kernel_rfl) (hF 9 (by decide)),trivial⟩
  refine az ((br.of_own (s.getSl 0 rfl)).el ((tX K K1 kx)) (by omega) (by decide) (D:=aP (tB K K1 kx).1.me (tB K K1 kx).1.pr (tB K K1 kx).2.1 (tB K K1 kx).2.2) (eE K1 _ hi1)) h bS rfl (aq _ _ _ _) rfl λf h=>aw ⟨_,aV 22 h rfl rfl,rfl,s⟩
 ·intro f9 w2 vl3 E9 hs9 hd9 hl hF s
  have h:=dy [] (hs9.trans h.size) (hd9.trans h.defers) (holds_lk trivial)
  refine aO (aP bz bz au au) h s jJ rfl rfl λf w1 b5 h s=>aw ⟨_,aV 5 h rfl rfl,⟨_,rfl⟩,s⟩
 ·intro f9 w2 vl3 E9 hs9 hd9 hl hF s
  obtain ⟨b5,hb5⟩:∃ b,vl3 11=.pointer (some ⟨b,0,none⟩):=hF 11 (by decide)
  have e5:f9.tmps.getD 5 undef=.pointer (some ⟨b5,0,none⟩):=(dO hl 5 11 (by kernel_rfl) (by kernel_rfl)).trans hb5
  have e22:f9.tmps.getD 22 undef=.agg (Rb (tB K K1 kx)):=(dO hl 22 10 (by kernel_rfl) (by kernel_rfl)).trans (hF 10 (by decide))
  have h:=dy [(5,.pointer (some ⟨b5,0,none⟩)),(22,.agg (Rb (tB K K1 kx)))] (hs9.trans h.size) (hd9.trans h.defers) (holds_lk ⟨e5,e22,trivial⟩)
  replace s:St w0 (.blk (sO (vl3 11)) (.cells (aP bz bz au au) 72)::.sl vq 72 68 K1.length (ax K1)::(.grp k1 (eG K1))::.blk bm (jm (dE K))::.blk b2 (.cells (#[vq]) 24)::(B9++E9)) _:=s
  rw [hb5] at s
  replace s:St w0 (.blk b5 (.cells (aP bz bz au au) 72)::.sl vq 72 68 K1.length (ax K1)::(.grp k1 (eG K1))::.blk bm (jm (dE K))::.blk b2 (.cells (#[vq]) 24)::(B9++E9)) _:=s
  refine aj 0 h s bS rfl rfl rfl (aq _ _ _ _) (aq _ _ _ _) (bP (bR ((s.getG 2 rfl _ (bU hi1)).1)) (bR ((s.getG 2 rfl _ (bU hi1)).2))) λw1 s=>aw ⟨undef,gd rfl,trivial,?_⟩
  have z:=s
  rw [← show sO (vl3 11)=b5 from by rw [hb5];rfl] at z
  exact z
 intro f w1 vl3 hs9 hd9 hv hr hF s
 obtain ⟨b5,hb5⟩:∃ b,vl3 11=.pointer (some ⟨b,0,none⟩):=hF 11 (by kernel_rfl)
 replace h:=kj (ops:=_) [(12,_),(13,_),(14,_),(15,_),(16,_),(17,_),(18,_),(19,_),(20,_),(21,_),(22,_),(5,.pointer (some ⟨b5,0,none⟩))] h hs9 hd9 hr ⟨(hv 0 12 rfl).trans (hF 0 rfl),(hv 1 13 rfl).trans (hF 1 rfl),(hv 2 14 rfl).trans (hF 2 rfl),(hv 3 15 rfl).trans (hF 3 rfl),(hv 4 16 rfl).trans (hF 4 rfl),(hv 5 17 rfl).trans (hF 5 rfl),(hv 6 18 rfl).trans (hF 6 rfl),(hv 7 19 rfl).trans (hF 7 rfl),(hv 8 20 rfl).trans (hF 8 rfl),(hv 9 21 rfl).trans (hF 9 rfl),(hv 10 22 rfl).trans (hF 10 rfl),(hv 11 5 rfl).trans hb5,trivial⟩ (by kernel_rfl)
 replace s:St w0 (.blk (sO (vl3 11)) (.cells (Rb (tB K K1 kx)) 72)::.sl vq 72 68 K1.length (ax K1)::(.grp k1 (eG K1))::.blk bm (jm (dE K))::.blk b2 (.cells (#[vq]) 24)::B9) _:=s
 rw [hb5] at s
 replace s:St w0 (.blk b5 (.cells (Rb (tB K K1 kx)) 72)::.sl vq 72 68 K1.length (ax K1)::(.grp k1 (eG K1))::.blk bm (jm (dE K))::.blk b2 (.cells (#[vq]) 24)::B9) _:=s
 refine aK (ah (ah ?_))
 refine rs ac 3 h rfl λf h=>ag (ae (aF.of_own s 0 rfl) 33 (E8 _ _ _ _)) h bu rfl rfl λf h=>S6 (ck (aQ K) (tB K K1 kx).1.pr.1) h s K4 (Dx (dE K) bm (tB K K1 kx).1.pr.1 _ (s.get 3 rfl)) ((uR hRS.nos _)) rfl rfl (λp0 f w1 h s=>?_) (λp0 f w1 h s=>?_)
 ·refine e9 ac 1 h rfl λf h=>dw h rfl (aG (dM h s TP (Gq _) rfl rfl λf w1 h s=>al ac 1 h rfl λf h=>eg 0 h s aY rfl rfl rfl (ai _) (by rw [aq];omega) (bI _) λw1 s=>?_))
  replace s:=s.recell (D:=aP (tB K K1 kx).1.me fe (tB K K1 kx).2.1 (tB K K1 kx).2.2) 0 rfl (qq _ _ _ _ _)
  refine nt (ah ?_)
  replace s:=s.recell (D:=aP (tC K K1 kx).me (tC K K1 kx).pr (tB K K1 kx).2.1 (tB K K1 kx).2.2) 0 rfl (by show _=aP (tB K K1 kx).1.me (bif ck (aQ K1) (tB K K1 kx).1.pr.1 then (tB K K1 kx).1.pr else fe) _ _;rw [hm1,p0];rfl)
  replace s:=s.bring 1 rfl
  replace s:St w0 (.sl vq 72 68 K1.length (ax K1)::.blk b5 (.cells (f5 (tC K K1 kx) (tB K K1 kx).2.1 (tB K K1 kx).2.2) 72)::(.grp k1 (eG K1))::.blk bm (jm (dE K))::.blk b2 (.cells (#[vq]) 24)::B9) _:=s
  have hfo:=Ec (jM.2 hT1) (jM.2 hts)
  refine rM 1 [[],[],[1],[1,2],[],[1,2,3,4],[1,2,3,4,5],[1,2,3,4,5,6],[1,2,3,4,5,6],[0,1,2,3,4,5,6,7],[0,1,2,3,4,5,6,7,9]] [[],[],[],[11],[],[],[],[],[],[],[3]] [[_]] [.v _,.v _,.v _,.w (λv=>[.sl vq 72 68 K1.length (ax K1)]) (.agg (f5 (tA K kx) du dv)),.v (.agg (f5 (tC K K1 kx) (tB K K1 kx).2.1 (tB K K1 kx).2.2)),.r (λv=>[.sl (bG 66 (v 5)) 69 33 (tD K K1 kx).sc.length (ap (tD K K1 kx).sc),.sl (bG 67 (v 5)) 69 33 (tD K K1 kx).fg.length (ap (tD K K1 kx).fg)]) (λv=>v 5=.tuple #[.agg (f5 (tD K K1 kx) (bG 66 (v 5)) (bG 67 (v 5))),.int .i64 0]),.f (λv=>v 6=.tuple #[.agg (f5 (tD K K1 kx) (bG 66 (v 5)) (bG 67 (v 5))),.int .i64 0]),.f (λv=>v 7=.agg (f5 (tD K K1 kx) (bG 66 (v 5)) (bG 67 (v 5)))),.v (.int .i64 0),.v _,.m (λv=>[.sl vq 72 68 (K1.set kx (((tD K K1 kx),(bG 66 (v 5)),(bG 67 (v 5))):N3)).length (ax (K1.set kx (((tD K K1 kx),(bG 66 (v 5)),(bG 67 (v 5))):N3)))])] _ h s rfl (by kernel_rfl) (by kernel_rfl) (by kernel_rfl) (fJ ac h rfl rfl rfl (fJ ac h rfl rfl rfl (fJ ac h rfl rfl rfl (bW ?_ (bW ?_ (bW ?_ (bW ?_ (bW ?_ (bW ?_ (fJ ac h rfl rfl rfl (bW ?_ (trivial)))))))))))) [0,1,2,4,5,6,7,8,9,10] (by kernel_rfl) ?_
  ·intro f9 w2 vl6 E9 hs9 hd9 hl hF s
   have h:=cb [(34,_)] h hs9 hd9 ⟨aS hl 34 2 (by kernel_rfl) (hF 2 (by decide)),trivial⟩
   refine az ((br.of_own (s.getSl 0 rfl)).el (kx) (by omega) (by decide) (D:=aP (tA K kx).me (tA K kx).pr du dv) ((eE K1 kx (by omega)).trans (by rw [hx1]))) h bS rfl (aq _ _ _ _) rfl λf h=>aw ⟨_,aV 35 h rfl rfl,rfl,s⟩
  ·intro f9 w2 vl6 E9 hs9 hd9 hl hF s
   have h:=cb [(5,_)] h hs9 hd9 ⟨d5 hl 5 (by kernel_rfl) (h.holds 5 _ rfl),trivial⟩
   refine ak 0 h s bS rfl rfl (aq _ _ _ _) rfl λf h=>aw ⟨_,aV 36 h rfl rfl,rfl,s⟩
  ·intro f9 w2 vl6 E9 hs9 hd9 hl hF s
   have h:=cb [(35,_),(36,_)] h hs9 hd9 ⟨aS hl 35 3 (by kernel_rfl) (hF 3 (by decide)),aS hl 36 4 (by kernel_rfl) (hF 4 (by decide)),trivial⟩
   refine bB h s LD (pR (tA K kx) du dv (tC K K1 kx) (tB K K1 kx).2.1 (tB K K1 kx).2.2 _ (eX (s.getG 1 rfl) (show kx<K1.length by omega) hx1).1 (eX (s.getG 1 rfl) (show kx<K1.length by omega) hx1).2 (by omega) (by omega) (s.getG 1 rfl _ (bU hi1)).1 (s.getG 1 rfl _ (bU hi1)).2 (by show (tB K K1 kx).1.sc.length<=900;omega) (by show (tB K K1 kx).1.fg.length<=900;omega)) rfl rfl ?_;rintro f w1 v37 ⟨cu,cv,hv9,hS⟩ hE h sq;rw [hfo.1,hfo.2] at hv9;rw [hfo.1] at hS;replace s:=s.add hS
   have h66:cu=bG 66 v37:=by rw [hv9];exact(rr (br.of_own (hS.getSl 0 rfl))).symm
   have h67:cv=bG 67 v37:=by rw [hv9];exact(sJ (br.of_own (hS.getSl 1 rfl))).symm
   clear hS
   subst h66;subst h67
   exact aw ⟨_,aV 37 h rfl rfl,hv9,s⟩
  ·intro f9 w2 vl6 E9 hs9 hd9 hl hF s
   have h:=cb [(37,.tuple #[.agg (f5 (tD K K1 kx) (bG 66 (vl6 5)) (bG 67 (vl6 5))),.int .i64 0])] h hs9 hd9 ⟨aS hl 37 5 (by kernel_rfl) (hF 5 (by decide)),trivial⟩
   refine al ac 1 h rfl λf h=>aw ⟨_,aV 31 h rfl rfl,rfl,s⟩
  ·intro f9 w2 vl6 E9 hs9 hd9 hl hF s
   have h:=cb [(31,.tuple #[.agg (f5 (tD K K1 kx) (bG 66 (vl6 5)) (bG 67 (vl6 5))),.int .i64 0])] h hs9 hd9 ⟨aS hl 31 6 (by kernel_rfl) (hF 6 (by decide)),trivial⟩
   refine al ac 1 h rfl λf h=>aw ⟨_,aV 38 h rfl rfl,rfl,s⟩
  ·intro f9 w2 vl6 E9 hs9 hd9 hl hF s
   have h:=cb [(31,.tuple #[.agg (f5 (tD K K1 kx) (bG 66 (vl6 5)) (bG 67 (vl6 5))),.int .i64 0])] h hs9 hd9 ⟨aS hl 31 6 (by kernel_rfl) (hF 6 (by decide)),trivial⟩
   refine al ac 1 h rfl λf h=>aw ⟨_,aV 39 h rfl rfl,rfl,s⟩
  ·intro f9 w2 vl6 E9 hs9 hd9 hl hF s
   have h:=cb [(40,_),(38,.agg (f5 (tD K K1 kx) (bG 66 (vl6 5)) (bG 67 (vl6 5))))] h hs9 hd9 ⟨aS hl 40 9 (by kernel_rfl) (hF 9 (by decide)),aS hl 38 7 (by kernel_rfl) (hF 7 (by decide)),trivial⟩
   refine gl 0 (kx) h s bS rfl rfl rfl (aq _ _ _ _) (by omega) (bP (g6 _ _) (g6 _ _)) (show _=ax (K1.set kx (((tD K K1 kx),(bG 66 (vl6 5)),(bG 67 (vl6 5))):N3)) from su (by omega) (((tD K K1 kx),(bG 66 (vl6 5)),(bG 67 (vl6 5))):N3)) λw1 s=>?_
   replace s:=s.resl (m:=(K1.set kx (((tD K K1 kx),(bG 66 (vl6 5)),(bG 67 (vl6 5))):N3)).length) (ys:=ax (K1.set kx (((tD K K1 kx),(bG 66 (vl6 5)),(bG 67 (vl6 5))):N3))) 0 rfl (by rw [List.length_set]) rfl
   exact aw ⟨undef,gd rfl,trivial,s⟩
  intro f w1 vl6 hs9 hd9 hv hr hF s
  replace h:=kj (ops:=_) [(32,_),(33,_),(34,_),(35,_),(36,_),(37,.tuple #[.agg (f5 (tD K K1 kx) (bG 66 (vl6 5)) (bG 67 (vl6 5))),.int .i64 0]),(31,.tuple #[.agg (f5 (tD K K1 kx) (bG 66 (vl6 5)) (bG 67 (vl6 5))),.int .i64 0]),(38,.agg (f5 (tD K K1 kx) (bG 66 (vl6 5)) (bG 67 (vl6 5)))),(39,_),(40,_)] h hs9 hd9 hr ⟨(hv 0 32 rfl).trans (hF 0 rfl),(hv 1 33 rfl).trans (hF 1 rfl),(hv 2 34 rfl).trans (hF 2 rfl),(hv 3 35 rfl).trans (hF 3 rfl),(hv 4 36 rfl).trans (hF 4 rfl),(hv 5 37 rfl).trans (hF 5 rfl),(hv 6 31 rfl).trans (hF 6 rfl),(hv 7 38 rfl).trans (hF 7 rfl),(hv 8 39 rfl).trans (hF 8 rfl),(hv 9 40 rfl).trans (hF 9 rfl),trivial⟩ (by kernel_rfl)
  replace s:St w0 (.sl (bG 66 (vl6 5)) 69 33 (tD K K1 kx).sc.length (ap (tD K K1 kx).sc)::.sl (bG 67 (vl6 5)) 69 33 (tD K K1 kx).fg.length (ap (tD K K1 kx).fg)::.sl vq 72 68 (K1.set kx (((tD K K1 kx),(bG 66 (vl6 5)),(bG 67 (vl6 5))):N3)).length (ax (K1.set kx (((tD K K1 kx),(bG 66 (vl6 5)),(bG 67 (vl6 5))):N3)))::.blk b5 (.cells (f5 (tC K K1 kx) (tB K K1 kx).2.1 (tB K K1 kx).2.2) 72)::(.grp k1 (eG K1))::.blk bm (jm (dE K))::.blk b2 (.cells (#[vq]) 24)::B9) _:=s
  replace s:=s.bring 4 rfl
  replace s:=s.bring 2 rfl
  replace s:=s.bring 2 rfl
  replace s:St w0 (.sl (bG 66 (vl6 5)) 69 33 (tD K K1 kx).sc.length (ap (tD K K1 kx).sc)::.sl (bG 67 (vl6 5)) 69 33 (tD K K1 kx).fg.length (ap (tD K K1 kx).fg)::(.grp k1 (eG K1))::.sl vq 72 68 (K1.set kx (((tD K K1 kx),(bG 66 (vl6 5)),(bG 67 (vl6 5))):N3)).length (ax (K1.set kx (((tD K K1 kx),(bG 66 (vl6 5)),(bG 67 (vl6 5))):N3)))::.blk b5 (.cells (f5 (tC K K1 kx) (tB K K1 kx).2.1 (tB K K1 kx).2.2) 72)::.blk bm (jm (dE K))::.blk b2 (.cells (#[vq]) 24)::B9) _:=s
  obtain ⟨k2,s⟩:=s.grpR (S':=eG (K1.set kx (((tD K K1 kx),(bG 66 (vl6 5)),(bG 67 (vl6 5))):N3))) (λw9 h1 h2 h3=>nX h3 ⟨h1,h2⟩)
  obtain ⟨K2,hK2⟩:∃ x9,x9=(K1.set kx (((tD K K1 kx),(bG 66 (vl6 5)),(bG 67 (vl6 5))):N3)):=⟨_,rfl⟩
  rw [← hK2] at s
  have hx2:K2.getD kx z3=((tD K K1 kx),(bG 66 (vl6 5)),(bG 67 (vl6 5))):=by rw [hK2];exact k6 (by omega) _
  have hl2:K2.length=K1.length:=by rw [hK2,List.length_set]
  have hT2:RN (tD K K1 kx):=sg hT1 hts
  obtain ⟨hp2,hR2,hm2⟩:=n3 hR1 (by omega) (x:=(((tD K K1 kx),(bG 66 (vl6 5)),(bG 67 (vl6 5))):N3)) (show (K1.getD kx z3).1.me=_ by rw [hx1];rfl) hT2
  rw [← hK2] at hp2 hR2 hm2
  have hn2:nds K2=nf (nds K1) (tD K K1 kx):=by rw [hp2,jd]
  have hT2l:=hT2.len
  have hend:=yM hRS hk rfl hn1 (show (tD K K1 kx)=sP (tA K kx) (pI (aQ K1) (cx K1 ((tA K kx).sc.getD 0 bz).1).1) by rw [← hg1]) hn2
  refine aK (ah ?_)
  cases p1:(ck (aQ K2) (((tD K K1 kx).sc.getD 0 bz).1):Bool)
  ·refine cQ 10 h (by kernel_rfl) (aX 4 h s cc rfl rfl (rfl) rfl λf h=>ar ac 2 h rfl λf h=>av h (bf g7 (h.ev rfl) ((br.of_own (s.getSl 1 rfl)).some (by omega))) rfl λf h=>ao (V:=(bG 66 (vl6 5))) (dq (br.of_own (s.getSl 1 rfl)) (kx*68+66) ((nj K2 kx (by omega)).trans (by rw [hx2]))) h c7 rfl rfl λf h=>av h (bg ((eX (s.getG 0 rfl) (show kx<K2.length by omega) hx2).1) (0) aD1 ed (h.ev rfl) (h.ev rfl) (by omega) (by omega)) rfl λf h=>av h (bf gD (h.ev rfl) (((eX (s.getG 0 rfl) (show kx<K2.length by omega) hx2).1).some (by omega))) rfl λf h=>ao (V:=.int .i64 ((tD K K1 kx).sc.getD 0 bz).1) (dq ((eX (s.getG 0 rfl) (show kx<K2.length by omega) hx2).1) (0*33+0) (ym (tD K K1 kx).sc 0 (by omega))) h bu rfl rfl λf h=>bj h jI (λw9 hE9=>a6 (.pointer none) (fK K2 vq (((tD K K1 kx).sc.getD 0 bz).1) w9 ⟨(br.of_own (s.getSl 1 rfl)).keep hE9,λy hy=>(s.getG 0 rfl y hy).keep hE9⟩ (by omega)) (yZ (ar5 ((jt hR2.nos).trans p1)))) rfl rfl λf h=>ar ac 1 h rfl λf h=>bK s λw1 s=>nt (cw ac 1 h rfl λf h=>am h (a8 (.bool false) (eN aD2 (h.ev rfl) (h.ev rfl)) (rfl)) rfl λf h=>oW h rfl (wpIn_skip ?_)))
   replace s:=s.bring 1 rfl
   replace s:St w0 (.sl vq 72 68 K2.length (ax K2)::(.grp k2 (eG K2))::.blk b5 (.cells (f5 (tC K K1 kx) (tB K K1 kx).2.1 (tB K K1 kx).2.2) 72)::.blk bm (jm (dE K))::.blk b2 (.cells (#[vq]) 24)::B9) _:=s
   exact ex rfl h (⟨_,rfl,K2,k2,(by rw [hend,p1];rfl),(s.pick _ (ar2 _ (ar2 _ (ar3 _ (ar3 _ (ar3 _ (List.Sublist.refl _)))))))⟩)
  ·refine cQ 10 h (by kernel_rfl) (aX 4 h s cc rfl rfl (rfl) rfl λf h=>ar ac 2 h rfl λf h=>av h (bf g7 (h.ev rfl) ((br.of_own (s.getSl 1 rfl)).some (by omega))) rfl λf h=>ao (V:=(bG 66 (vl6 5))) (dq (br.of_own (s.getSl 1 rfl)) (kx*68+66) ((nj K2 kx (by omega)).trans (by rw [hx2]))) h c7 rfl rfl λf h=>av h (bg ((eX (s.getG 0 rfl) (show kx<K2.length by omega) hx2).1) (0) aD1 ed (h.ev rfl) (h.ev rfl) (by omega) (by omega)) rfl λf h=>av h (bf gD (h.ev rfl) (((eX (s.getG 0 rfl) (show kx<K2.length by omega) hx2).1).some (by omega))) rfl λf h=>ao (V:=.int .i64 ((tD K K1 kx).sc.getD 0 bz).1) (dq ((eX (s.getG 0 rfl) (show kx<K2.length by omega) hx2).1) (0*33+0) (ym (tD K K1 kx).sc 0 (by omega))) h bu rfl rfl λf h=>bj h jI (λw9 hE9=>a6 (.pointer (some (bC vq ((tY K K1 K2 kx)*68)))) (fK K2 vq (((tD K K1 kx).sc.getD 0 bz).1) w9 ⟨(br.of_own (s.getSl 1 rfl)).keep hE9,λy hy=>(s.getG 0 rfl y hy).keep hE9⟩ (by omega)) (uN (kP hR2 p1).1)) rfl rfl λf h=>ar ac 1 h rfl λf h=>bK s λw1 s=>nt (cw ac 1 h rfl λf h=>am h (a8 (.bool true) (eN aD2 (h.ev rfl) (h.ev rfl)) (rfl)) rfl λf h=>gh h rfl ?_))
   replace s:=s.bring 1 rfl
   replace s:St w0 (.sl vq 72 68 K2.length (ax K2)::(.grp k2 (eG K2))::.blk b5 (.cells (f5 (tC K K1 kx) (tB K K1 kx).2.1 (tB K K1 kx).2.2) 72)::.blk bm (jm (dE K))::.blk b2 (.cells (#[vq]) 24)::B9) _:=s
   obtain ⟨hi2,hg2,hgm2⟩:=kP hR2 p1
   replace hg2:(tE K K1 K2 kx)=_:=hg2
   have hzr:RN (tE K K1 K2 kx).1:=by rw [hg2];exact hR2.rn _ hgm2
   have hzl:=hzr.len
   have hzf:=hzr.fg.1
   have hnt:=kw (jM.2 hzr) (j7.2 hT2.me)
   refine oU 1 [[],[],[1],[1,2],[],[4],[4,5],[4,5,6],[1,2,3,4,5,6,7],[1,2,3,4,5,6,7,8],[1,2,3,4,5,6,7,8,9],[1,2,3,4,5,6,7,8,9],[0,1,2,3,4,5,6,7,8,9,10],[0,1,2,3,4,5,6,7,8,9,10,12]] [[],[],[],[],[],[],[],[],[],[],[],[],[],[14]] [[],[],[],[0],[],[],[0],[0],[],[],[],[],[],[]] [[_]] [.v (.pointer (some (bC vq ((tY K K1 K2 kx)*68)))),.v (.pointer (some (bC vq ((tY K K1 K2 kx)*68)))),.v (.pointer (some (bC vq ((tY K K1 K2 kx)*68)))),.v (.agg (Rb (tE K K1 K2 kx))),.v (.pointer (some (bC vq (kx*68)))),.v (.pointer (some (bC vq (kx*68)))),.v (.pointer (some (bC vq (kx*68+0)))),.v (.agg (ay (tD K K1 kx).me)),.r (λv=>[.sl (bG 66 (v 8)) 69 33 (tF K K1 K2 kx).sc.length (ap (tF K K1 K2 kx).sc),.sl (bG 67 (v 8)) 69 33 (tF K K1 K2 kx).fg.length (ap (tF K K1 K2 kx).fg)]) (λv=>v 8=.tuple #[.agg (f5 (tF K K1 K2 kx) (bG 66 (v 8)) (bG 67 (v 8))),.int .i64 0]),.f (λv=>v 9=.tuple #[.agg (f5 (tF K K1 K2 kx) (bG 66 (v 8)) (bG 67 (v 8))),.int .i64 0]),.f (λv=>v 10=.agg (f5 (tF K K1 K2 kx) (bG 66 (v 8)) (bG 67 (v 8)))),.v (.int .i64 0),.v (.pointer (some (bC vq ((tY K K1 K2 kx)*68)))),.m (λv=>[.sl vq 72 68 (K2.set (tY K K1 K2 kx) (((tF K K1 K2 kx),(bG 66 (v 8)),(bG 67 (v 8))):N3)).length (ax (K2.set (tY K K1 K2 kx) (((tF K K1 K2 kx),(bG 66 (v 8)),(bG 67 (v 8))):N3)))])] (λ_ _=>[]) _ h s rfl (by kernel_rfl) (by kernel_rfl) (by kernel_rfl) (by kernel_rfl) (bW ?_ (bW ?_ (bW ?_ (bW ?_ (bW ?_ (bW ?_ (bW ?_ (bW ?_ (bW ?_ (bW ?_ (bW ?_ (bW ?_ (bW ?_ (bW ?_ (trivial))))))))))))))) [0,1,2,3,4,5,6,7,8,9,10,11,12,13] (by kernel_rfl) ?_
   ·intro f9 w2 vl9 E9 lst9 hlo hlc hlz hs9 hd9 hl hF hR9 s
    have h:=cb [(6,_)] h hs9 hd9 ⟨d5 hl 6 (by kernel_rfl) (h.holds 6 _ rfl),trivial⟩
    refine al ac 1 h rfl λf h=>aw ⟨_,aV 53 h rfl rfl,rfl,s⟩
   ·intro f9 w2 vl9 E9 lst9 hlo hlc hlz hs9 hd9 hl hF hR9 s
    have h:=cb [(6,_)] h hs9 hd9 ⟨d5 hl 6 (by kernel_rfl) (h.holds 6 _ rfl),trivial⟩
    refine al ac 1 h rfl λf h=>aw ⟨_,aV 54 h rfl rfl,rfl,s⟩
   ·intro f9 w2 vl9 E9 lst9 hlo hlc hlz hs9 hd9 hl hF hR9 s
    have h:=cb [(54,_)] h hs9 hd9 ⟨aS hl 54 1 (by kernel_rfl) (hF 1 (by decide)),trivial⟩
    refine al ac 1 h rfl λf h=>aw ⟨_,aV 55 h rfl rfl,rfl,s⟩
   ·intro f9 w2 vl9 E9 lst9 hlo hlc hlz hs9 hd9 hl hF hR9 s
    have hq9:Own.sl vq 72 68 K2.length (ax K2)∈E9:=hR9 0 (by decide) _ at0
    have h:=cb [(55,_)] h hs9 hd9 ⟨aS hl 55 2 (by kernel_rfl) (hF 2 (by decide)),trivial⟩
    have hq8:Own.sl vq 72 68 K2.length (ax K2)∈((.grp k2 (eG K2))::.blk b5 (.cells (f5 (tC K K1 kx) (tB K K1 kx).2.1 (tB K K1 kx).2.2) 72)::.blk bm (jm (dE K))::.blk b2 (.cells (#[vq]) 24)::(B9++E9)):=by simp only [at1,av4,hq9,or_true]
    refine az ((br.of_own (s.memSl hq8)).el ((tY K K1 K2 kx)) (by omega) (by decide) (D:=aP (tE K K1 K2 kx).1.me (tE K K1 K2 kx).1.pr (tE K K1 K2 kx).2.1 (tE K K1 K2 kx).2.2) (eE K2 _ hi2)) h bS rfl (aq _ _ _ _) rfl λf h=>aw ⟨_,aV 56 h rfl rfl,rfl,s⟩
   ·intro f9 w2 vl9 E9 lst9 hlo hlc hlz hs9 hd9 hl hF hR9 s
    have h:=cb [(1,_)] h hs9 hd9 ⟨d5 hl 1 (by kernel_rfl) (h.holds 1 _ rfl),trivial⟩
    refine al ac 1 h rfl λf h=>aw ⟨_,aV 57 h rfl rfl,rfl,s⟩
   ·intro f9 w2 vl9 E9 lst9 hlo hlc hlz hs9 hd9 hl hF hR9 s
    have h:=cb [(57,_)] h hs9 hd9 ⟨aS hl 57 4 (by kernel_rfl) (hF 4 (by decide)),trivial⟩
    refine al ac 1 h rfl λf h=>aw ⟨_,aV 58 h rfl rfl,rfl,s⟩
   ·intro f9 w2 vl9 E9 lst9 hlo hlc hlz hs9 hd9 hl hF hR9 s
    have hq9:Own.sl vq 72 68 K2.length (ax K2)∈E9:=hR9 0 (by decide) _ at0
    have h:=cb [(58,_)] h hs9 hd9 ⟨aS hl 58 5 (by kernel_rfl) (hF 5 (by decide)),trivial⟩
    have hq8:Own.sl vq 72 68 K2.length (ax K2)∈((.grp k2 (eG K2))::.blk b5 (.cells (f5 (tC K K1 kx) (tB K K1 kx).2.1 (tB K K1 kx).2.2) 72)::.blk bm (jm (dE K))::.blk b2 (.cells (#[vq]) 24)::(B9++E9)):=by simp only [at1,av4,hq9,or_true]
    refine am h (bf fw (h.ev rfl) ((br.of_own (s.memSl hq8)).some (by omega))) rfl λf h=>aw ⟨_,aV 59 h rfl rfl,rfl,s⟩
   ·intro f9 w2 vl9 E9 lst9 hlo hlc hlz hs9 hd9 hl hF hR9 s
    have hq9:Own.sl vq 72 68 K2.length (ax K2)∈E9:=hR9 0 (by decide) _ at0
    have h:=cb [(59,_)] h hs9 hd9 ⟨aS hl 59 6 (by kernel_rfl) (hF 6 (by decide)),trivial⟩
    have hq8:Own.sl vq 72 68 K2.length (ax K2)∈((.grp k2 (eG K2))::.blk b5 (.cells (f5 (tC K K1 kx) (tB K K1 kx).2.1 (tB K K1 kx).2.2) 72)::.blk bm (jm (dE K))::.blk b2 (.cells (#[vq]) 24)::(B9++E9)):=by simp only [at1,av4,hq9,or_true]
    refine az (br.elF (br.of_own (s.memSl hq8)) (kx) 0 33 (by omega) (by decide) (C:=aP (tD K K1 kx).me (tD K K1 kx).pr (bG 66 (vl6 5)) (bG 67 (vl6 5))) ((eE K2 kx (by omega)).trans (by rw [hx2])) (D:=ay (tD K K1 kx).me) (cN _ _ _ _)) h aY rfl (ai _) rfl λf h=>aw ⟨_,aV 60 h rfl rfl,rfl,s⟩
   ·intro f9 w2 vl9 E9 lst9 hlo hlc hlz hs9 hd9 hl hF hR9 s
    have h:=cb [(56,_),(60,_)] h hs9 hd9 ⟨aS hl 56 3 (by kernel_rfl) (hF 3 (by decide)),aS hl 60 7 (by kernel_rfl) (hF 7 (by decide)),trivial⟩
    refine bB h s HK (rG (tE K K1 K2 kx).1 (tE K K1 K2 kx).2.1 (tE K K1 K2 kx).2.2 (tD K K1 kx).me _ (s.getG 0 rfl _ (bU hi2)).1 (s.getG 0 rfl _ (bU hi2)).2 (by omega) (by omega)) rfl rfl ?_;rintro f w1 v61 ⟨cu,cv,hv9,hS⟩ hE h sq;rw [hnt.1,hnt.2] at hv9;rw [hnt.1] at hS;replace s:=s.add hS
    have h66:cu=bG 66 v61:=by rw [hv9];exact(rr (br.of_own (hS.getSl 0 rfl))).symm
    have h67:cv=bG 67 v61:=by rw [hv9];exact(sJ (br.of_own (hS.getSl 1 rfl))).symm
    clear hS
    subst h66;subst h67
    exact aw ⟨_,aV 61 h rfl rfl,hv9,s⟩
   ·intro f9 w2 vl9 E9 lst9 hlo hlc hlz hs9 hd9 hl hF hR9 s
    have h:=cb [(61,.tuple #[.agg (f5 (tF K K1 K2 kx) (bG 66 (vl9 8)) (bG 67 (vl9 8))),.int .i64 0])] h hs9 hd9 ⟨aS hl 61 8 (by kernel_rfl) (hF 8 (by decide)),trivial⟩
    refine al ac 1 h rfl λf h=>aw ⟨_,aV 52 h rfl rfl,rfl,s⟩
   ·intro f9 w2 vl9 E9 lst9 hlo hlc hlz hs9 hd9 hl hF hR9 s
    have h:=cb [(52,.tuple #[.agg (f5 (tF K K1 K2 kx) (bG 66 (vl9 8)) (bG 67 (vl9 8))),.int .i64 0])] h hs9 hd9 ⟨aS hl 52 9 (by kernel_rfl) (hF 9 (by decide)),trivial⟩
    refine al ac 1 h rfl λf h=>aw ⟨_,aV 62 h rfl rfl,rfl,s⟩
   ·intro f9 w2 vl9 E9 lst9 hlo hlc hlz hs9 hd9 hl hF hR9 s
    have h:=cb [(52,.tuple #[.agg (f5 (tF K K1 K2 kx) (bG 66 (vl9 8)) (bG 67 (vl9 8))),.int .i64 0])] h hs9 hd9 ⟨aS hl 52 9 (by kernel_rfl) (hF 9 (by decide)),trivial⟩
    refine al ac 1 h rfl λf h=>aw ⟨_,aV 63 h rfl rfl,rfl,s⟩
   ·intro f9 w2 vl9 E9 lst9 hlo hlc hlz hs9 hd9 hl hF hR9 s
    have h:=cb [(53,_)] h hs9 hd9 ⟨aS hl 53 0 (by kernel_rfl) (hF 0 (by decide)),trivial⟩
    refine al ac 1 h rfl λf h=>aw ⟨_,aV 64 h rfl rfl,rfl,s⟩
   ·intro f9 w2 vl9 E9 lst9 hlo hlc hlz hs9 hd9 hl hF hR9 s
    have h:=cb [(64,_),(62,.agg (f5 (tF K K1 K2 kx) (bG 66 (vl9 8)) (bG 67 (vl9 8))))] h hs9 hd9 ⟨aS hl 64 12 (by kernel_rfl) (hF 12 (by decide)),aS hl 62 10 (by kernel_rfl) (hF 10 (by decide)),trivial⟩
    refine gl 0 ((tY K K1 K2 kx)) h s bS rfl rfl rfl (aq _ _ _ _) (by omega) (bP (g6 _ _) (g6 _ _)) (show _=ax (K2.set (tY K K1 K2 kx) (((tF K K1 K2 kx),(bG 66 (vl9 8)),(bG 67 (vl9 8))):N3)) from su hi2 (((tF K K1 K2 kx),(bG 66 (vl9 8)),(bG 67 (vl9 8))):N3)) λw1 s=>?_
    replace s:=s.resl (m:=(K2.set (tY K K1 K2 kx) (((tF K K1 K2 kx),(bG 66 (vl9 8)),(bG 67 (vl9 8))):N3)).length) (ys:=ax (K2.set (tY K K1 K2 kx) (((tF K K1 K2 kx),(bG 66 (vl9 8)),(bG 67 (vl9 8))):N3))) 0 rfl (by rw [List.length_set]) rfl
    exact aw ⟨undef,gd rfl,trivial,s⟩
   intro f w1 vl9 hs9 hd9 hv hr hF s
   replace h:=kj (ops:=_) [(53,_),(54,_),(55,_),(56,_),(57,_),(58,_),(59,_),(60,_),(61,.tuple #[.agg (f5 (tF K K1 K2 kx) (bG 66 (vl9 8)) (bG 67 (vl9 8))),.int .i64 0]),(52,.tuple #[.agg (f5 (tF K K1 K2 kx) (bG 66 (vl9 8)) (bG 67 (vl9 8))),.int .i64 0]),(62,.agg (f5 (tF K K1 K2 kx) (bG 66 (vl9 8)) (bG 67 (vl9 8)))),(63,_),(64,_)] h hs9 hd9 hr ⟨(hv 0 53 rfl).trans (hF 0 rfl),(hv 1 54 rfl).trans (hF 1 rfl),(hv 2 55 rfl).trans (hF 2 rfl),(hv 3 56 rfl).trans (hF 3 rfl),(hv 4 57 rfl).trans (hF 4 rfl),(hv 5 58 rfl).trans (hF 5 rfl),(hv 6 59 rfl).trans (hF 6 rfl),(hv 7 60 rfl).trans (hF 7 rfl),(hv 8 61 rfl).trans (hF 8 rfl),(hv 9 52 rfl).trans (hF 9 rfl),(hv 10 62 rfl).trans (hF 10 rfl),(hv 11 63 rfl).trans (hF 11 rfl),(hv 12 64 rfl).trans (hF 12 rfl),trivial⟩ (by kernel_rfl)
   replace s:St w0 (.sl (bG 66 (vl9 8)) 69 33 (tF K K1 K2 kx).sc.length (ap (tF K K1 K2 kx).sc)::.sl (bG 67 (vl9 8)) 69 33 (tF K K1 K2 kx).fg.length (ap (tF K K1 K2 kx).fg)::.sl vq 72 68 (K2.set (tY K K1 K2 kx) (((tF K K1 K2 kx),(bG 66 (vl9 8)),(bG 67 (vl9 8))):N3)).length (ax (K2.set (tY K K1 K2 kx) (((tF K K1 K2 kx),(bG 66 (vl9 8)),(bG 67 (vl9 8))):N3)))::(.grp k2 (eG K2))::.blk b5 (.cells (f5 (tC K K1 kx) (tB K K1 kx).2.1 (tB K K1 kx).2.2) 72)::.blk bm (jm (dE K))::.blk b2 (.cells (#[vq]) 24)::B9) _:=s
   replace s:=s.bring 3 rfl
   replace s:=s.bring 2 rfl
   replace s:=s.bring 2 rfl
   replace s:St w0 (.sl (bG 66 (vl9 8)) 69 33 (tF K K1 K2 kx).sc.length (ap (tF K K1 K2 kx).sc)::.sl (bG 67 (vl9 8)) 69 33 (tF K K1 K2 kx).fg.length (ap (tF K K1 K2 kx).fg)::(.grp k2 (eG K2))::.sl vq 72 68 (K2.set (tY K K1 K2 kx) (((tF K K1 K2 kx),(bG 66 (vl9 8)),(bG 67 (vl9 8))):N3)).length (ax (K2.set (tY K K1 K2 kx) (((tF K K1 K2 kx),(bG 66 (vl9 8)),(bG 67 (vl9 8))):N3)))::.blk b5 (.cells (f5 (tC K K1 kx) (tB K K1 kx).2.1 (tB K K1 kx).2.2) 72)::.blk bm (jm (dE K))::.blk b2 (.cells (#[vq]) 24)::B9) _:=s
   obtain ⟨k3,s⟩:=s.grpR (S':=eG (K2.set (tY K K1 K2 kx) (((tF K K1 K2 kx),(bG 66 (vl9 8)),(bG 67 (vl9 8))):N3))) (λw9 h1 h2 h3=>nX h3 ⟨h1,h2⟩)
   have hp3:=(n3 hR2 hi2 (x:=(((tF K K1 K2 kx),(bG 66 (vl9 8)),(bG 67 (vl9 8))):N3)) rfl (ve hzr hT2.me)).1
   replace s:=s.bring 1 rfl
   replace s:St w0 (.sl vq 72 68 (K2.set (tY K K1 K2 kx) (((tF K K1 K2 kx),(bG 66 (vl9 8)),(bG 67 (vl9 8))):N3)).length (ax (K2.set (tY K K1 K2 kx) (((tF K K1 K2 kx),(bG 66 (vl9 8)),(bG 67 (vl9 8))):N3)))::(.grp k3 (eG (K2.set (tY K K1 K2 kx) (((tF K K1 K2 kx),(bG 66 (vl9 8)),(bG 67 (vl9 8))):N3))))::.blk b5 (.cells (f5 (tC K K1 kx) (tB K K1 kx).2.1 (tB K K1 kx).2.2) 72)::.blk bm (jm (dE K))::.blk b2 (.cells (#[vq]) 24)::B9) _:=s
   exact ex rfl h (⟨_,rfl,(K2.set (tY K K1 K2 kx) (((tF K K1 K2 kx),(bG 66 (vl9 8)),(bG 67 (vl9 8))):N3)),k3,(by rw [hend,p1,hp3,jd];unfold tF;rw [hg2];rfl),(s.pick _ (ar2 _ (ar2 _ (ar3 _ (ar3 _ (ar3 _ (List.Sublist.refl _)))))))⟩)
 ·refine e9 ac 1 h rfl λf h=>mQ h rfl (ah ?_)
  replace s:=s.recell (D:=aP (tC K K1 kx).me (tC K K1 kx).pr (tB K K1 kx).2.1 (tB K K1 kx).2.2) 0 rfl (by show _=aP (tB K K1 kx).1.me (bif ck (aQ K1) (tB K K1 kx).1.pr.1 then (tB K K1 kx).1.pr else fe) _ _;rw [hm1,p0];rfl)
  replace s:=s.bring 1 rfl
  replace s:St w0 (.sl vq 72 68 K1.length (ax K1)::.blk b5 (.cells (f5 (tC K K1 kx) (tB K K1 kx).2.1 (tB K K1 kx).2.2) 72)::(.grp k1 (eG K1))::.blk bm (jm (dE K))::.blk b2 (.cells (#[vq]) 24)::B9) _:=s
  have hfo:=Ec (jM.2 hT1) (jM.2 hts)
  refine rM 1 [[],[],[1],[1,2],[],[1,2,3,4],[1,2,3,4,5],[1,2,3,4,5,6],[1,2,3,4,5,6],[0,1,2,3,4,5,6,7],[0,1,2,3,4,5,6,7,9]] [[],[],[],[11],[],[],[],[],[],[],[3]] [[_]] [.v _,.v _,.v _,.w (λv=>[.sl vq 72 68 K1.length (ax K1)]) (.agg (f5 (tA K kx) du dv)),.v (.agg (f5 (tC K K1 kx) (tB K K1 kx).2.1 (tB K K1 kx).2.2)),.r (λv=>[.sl (bG 66 (v 5)) 69 33 (tD K K1 kx).sc.length (ap (tD K K1 kx).sc),.sl (bG 67 (v 5)) 69 33 (tD K K1 kx).fg.length (ap (tD K K1 kx).fg)]) (λv=>v 5=.tuple #[.agg (f5 (tD K K1 kx) (bG 66 (v 5)) (bG 67 (v 5))),.int .i64 0]),.f (λv=>v 6=.tuple #[.agg (f5 (tD K K1 kx) (bG 66 (v 5)) (bG 67 (v 5))),.int .i64 0]),.f (λv=>v 7=.agg (f5 (tD K K1 kx) (bG 66 (v 5)) (bG 67 (v 5)))),.v (.int .i64 0),.v _,.m (λv=>[.sl vq 72 68 (K1.set kx (((tD K K1 kx),(bG 66 (v 5)),(bG 67 (v 5))):N3)).length (ax (K1.set kx (((tD K K1 kx),(bG 66 (v 5)),(bG 67 (v 5))):N3)))])] _ h s rfl (by kernel_rfl) (by kernel_rfl) (by kernel_rfl) (fJ ac h rfl rfl rfl (fJ ac h rfl rfl rfl (fJ ac h rfl rfl rfl (bW ?_ (bW ?_ (bW ?_ (bW ?_ (bW ?_ (bW ?_ (fJ ac h rfl rfl rfl (bW ?_ (trivial)))))))))))) [0,1,2,4,5,6,7,8,9,10] (by kernel_rfl) ?_
  ·intro f9 w2 vl6 E9 hs9 hd9 hl hF s
   have h:=cb [(34,_)] h hs9 hd9 ⟨aS hl 34 2 (by kernel_rfl) (hF 2 (by decide)),trivial⟩
   refine az ((br.of_own (s.getSl 0 rfl)).el (kx) (by omega) (by decide) (D:=aP (tA K kx).me (tA K kx).pr du dv) ((eE K1 kx (by omega)).trans (by rw [hx1]))) h bS rfl (aq _ _ _ _) rfl λf h=>aw ⟨_,aV 35 h rfl rfl,rfl,s⟩
  ·intro f9 w2 vl6 E9 hs9 hd9 hl hF s
   have h:=cb [(5,_)] h hs9 hd9 ⟨d5 hl 5 (by kernel_rfl) (h.holds 5 _ rfl),trivial⟩
   refine ak 0 h s bS rfl rfl (aq _ _ _ _) rfl λf h=>aw ⟨_,aV 36 h rfl rfl,rfl,s⟩
  ·intro f9 w2 vl6 E9 hs9 hd9 hl hF s
   have h:=cb [(35,_),(36,_)] h hs9 hd9 ⟨aS hl 35 3 (by kernel_rfl) (hF 3 (by decide)),aS hl 36 4 (by kernel_rfl) (hF 4 (by decide)),trivial⟩
   refine bB h s LD (pR (tA K kx) du dv (tC K K1 kx) (tB K K1 kx).2.1 (tB K K1 kx).2.2 _ (eX (s.getG 1 rfl) (show kx<K1.length by omega) hx1).1 (eX (s.getG 1 rfl) (show kx<K1.length by omega) hx1).2 (by omega) (by omega) (s.getG 1 rfl _ (bU hi1)).1 (s.getG 1 rfl _ (bU hi1)).2 (by show (tB K K1 kx).1.sc.length<=900;omega) (by show (tB K K1 kx).1.fg.length<=900;omega)) rfl rfl ?_;rintro f w1 v37 ⟨cu,cv,hv9,hS⟩ hE h sq;rw [hfo.1,hfo.2] at hv9;rw [hfo.1] at hS;replace s:=s.add hS
   have h66:cu=bG 66 v37:=by rw [hv9];exact(rr (br.of_own (hS.getSl 0 rfl))).symm
   have h67:cv=bG 67 v37:=by rw [hv9];exact(sJ (br.of_own (hS.getSl 1 rfl))).symm
   clear hS
   subst h66;subst h67
   exact aw ⟨_,aV 37 h rfl rfl,hv9,s⟩
  ·intro f9 w2 vl6 E9 hs9 hd9 hl hF s
   have h:=cb [(37,.tuple #[.agg (f5 (tD K K1 kx) (bG 66 (vl6 5)) (bG 67 (vl6 5))),.int .i64 0])] h hs9 hd9 ⟨aS hl 37 5 (by kernel_rfl) (hF 5 (by decide)),trivial⟩
   refine al ac 1 h rfl λf h=>aw ⟨_,aV 31 h rfl rfl,rfl,s⟩
  ·intro f9 w2 vl6 E9 hs9 hd9 hl hF s
   have h:=cb [(31,.tuple #[.agg (f5 (tD K K1 kx) (bG 66 (vl6 5)) (bG 67 (vl6 5))),.int .i64 0])] h hs9 hd9 ⟨aS hl 31 6 (by kernel_rfl) (hF 6 (by decide)),trivial⟩
   refine al ac 1 h rfl λf h=>aw ⟨_,aV 38 h rfl rfl,rfl,s⟩
  ·intro f9 w2 vl6 E9 hs9 hd9 hl hF s
   have h:=cb [(31,.tuple #[.agg (f5 (tD K K1 kx) (bG 66 (vl6 5)) (bG 67 (vl6 5))),.int .i64 0])] h hs9 hd9 ⟨aS hl 31 6 (by kernel_rfl) (hF 6 (by decide)),trivial⟩
   refine al ac 1 h rfl λf h=>aw ⟨_,aV 39 h rfl rfl,rfl,s⟩
  ·intro f9 w2 vl6 E9 hs9 hd9 hl hF s
   have h:=cb [(40,_),(38,.agg (f5 (tD K K1 kx) (bG 66 (vl6 5)) (bG 67 (vl6 5))))] h hs9 hd9 ⟨aS hl 40 9 (by kernel_rfl) (hF 9 (by decide)),aS hl 38 7 (by kernel_rfl) (hF 7 (by decide)),trivial⟩
   refine gl 0 (kx) h s bS rfl rfl rfl (aq _ _ _ _) (by omega) (bP (g6 _ _) (g6 _ _)) (show _=ax (K1.set kx (((tD K K1 kx),(bG 66 (vl6 5)),(bG 67 (vl6 5))):N3)) from su (by omega) (((tD K K1 kx),(bG 66 (vl6 5)),(bG 67 (vl6 5))):N3)) λw1 s=>?_
   replace s:=s.resl (m:=(K1.set kx (((tD K K1 kx),(bG 66 (vl6 5)),(bG 67 (vl6 5))):N3)).length) (ys:=ax (K1.set kx (((tD K K1 kx),(bG 66 (vl6 5)),(bG 67 (vl6 5))):N3))) 0 rfl (by rw [List.length_set]) rfl
   exact aw ⟨undef,gd rfl,trivial,s⟩
  intro f w1 vl6 hs9 hd9 hv hr hF s
  replace h:=kj (ops:=_) [(32,_),(33,_),(34,_),(35,_),(36,_),(37,.tuple #[.agg (f5 (tD K K1 kx) (bG 66 (vl6 5)) (bG 67 (vl6 5))),.int .i64 0]),(31,.tuple #[.agg (f5 (tD K K1 kx) (bG 66 (vl6 5)) (bG 67 (vl6 5))),.int .i64 0]),(38,.agg (f5 (tD K K1 kx) (bG 66 (vl6 5)) (bG 67 (vl6 5)))),(39,_),(40,_)] h hs9 hd9 hr ⟨(hv 0 32 rfl).trans (hF 0 rfl),(hv 1 33 rfl).trans (hF 1 rfl),(hv 2 34 rfl).trans (hF 2 rfl),(hv 3 35 rfl).trans (hF 3 rfl),(hv 4 36 rfl).trans (hF 4 rfl),(hv 5 37 rfl).trans (hF 5 rfl),(hv 6 31 rfl).trans (hF 6 rfl),(hv 7 38 rfl).trans (hF 7 rfl),(hv 8 39 rfl).trans (hF 8 rfl),(hv 9 40 rfl).trans (hF 9 rfl),trivial⟩ (by kernel_rfl)
  replace s:St w0 (.sl (bG 66 (vl6 5)) 69 33 (tD K K1 kx).sc.length (ap (tD K K1 kx).sc)::.sl (bG 67 (vl6 5)) 69 33 (tD K K1 kx).fg.length (ap (tD K K1 kx).fg)::.sl vq 72 68 (K1.set kx (((tD K K1 kx),(bG 66 (vl6 5)),(bG 67 (vl6 5))):N3)).length (ax (K1.set kx (((tD K K1 kx),(bG 66 (vl6 5)),(bG 67 (vl6 5))):N3)))::.blk b5 (.cells (f5 (tC K K1 kx) (tB K K1 kx).2.1 (tB K K1 kx).2.2) 72)::(.grp k1 (eG K1))::.blk bm (jm (dE K))::.blk b2 (.cells (#[vq]) 24)::B9) _:=s
  replace s:=s.bring 4 rfl
  replace s:=s.bring 2 rfl
  replace s:=s.bring 2 rfl
  replace s:St w0 (.sl (bG 66 (vl6 5)) 69 33 (tD K K1 kx).sc.length (ap (tD K K1 kx).sc)::.sl (bG 67 (vl6 5)) 69 33 (tD K K1 kx).fg.length (ap (tD K K1 kx).fg)::(.grp k1 (eG K1))::.sl vq 72 68 (K1.set kx (((tD K K1 kx),(bG 66 (vl6 5)),(bG 67 (vl6 5))):N3)).length (ax (K1.set kx (((tD K K1 kx),(bG 66 (vl6 5)),(bG 67 (vl6 5))):N3)))::.blk b5 (.cells (f5 (tC K K1 kx) (tB K K1 kx).2.1 (tB K K1 kx).2.2) 72)::.blk bm (jm (dE K))::.blk b2 (.cells (#[vq]) 24)::B9) _:=s
  obtain ⟨k2,s⟩:=s.grpR (S':=eG (K1.set kx (((tD K K1 kx),(bG 66 (vl6 5)),(bG 67 (vl6 5))):N3))) (λw9 h1 h2 h3=>nX h3 ⟨h1,h2⟩)
  obtain ⟨K2,hK2⟩:∃ x9,x9=(K1.set kx (((tD K K1 kx),(bG 66 (vl6 5)),(bG 67 (vl6 5))):N3)):=⟨_,rfl⟩
  rw [← hK2] at s
  have hx2:K2.getD kx z3=((tD K K1 kx),(bG 66 (vl6 5)),(bG 67 (vl6 5))):=by rw [hK2];exact k6 (by omega) _
  have hl2:K2.length=K1.length:=by rw [hK2,List.length_set]
  have hT2:RN (tD K K1 kx):=sg hT1 hts
  obtain ⟨hp2,hR2,hm2⟩:=n3 hR1 (by omega) (x:=(((tD K K1 kx),(bG 66 (vl6 5)),(bG 67 (vl6 5))):N3)) (show (K1.getD kx z3).1.me=_ by rw [hx1];rfl) hT2
  rw [← hK2] at hp2 hR2 hm2
  have hn2:nds K2=nf (nds K1) (tD K K1 kx):=by rw [hp2,jd]
  have hT2l:=hT2.len
  have hend:=yM hRS hk rfl hn1 (show (tD K K1 kx)=sP (tA K kx) (pI (aQ K1) (cx K1 ((tA K kx).sc.getD 0 bz).1).1) by rw [← hg1]) hn2
  refine aK (ah ?_)
  cases p1:(ck (aQ K2) (((tD K K1 kx).sc.getD 0 bz).1):Bool)
  ·refine cQ 10 h (by kernel_rfl) (aX 4 h s cc rfl rfl (rfl) rfl λf h=>ar ac 2 h rfl λf h=>av h (bf g7 (h.ev rfl) ((br.of_own (s.getSl 1 rfl)).some (by omega))) rfl λf h=>ao (V:=(bG 66 (vl6 5))) (dq (br.of_own (s.getSl 1 rfl)) (kx*68+66) ((nj K2 kx (by omega)).trans (by rw [hx2]))) h c7 rfl rfl λf h=>av h (bg ((eX (s.getG 0 rfl) (show kx<K2.length by omega) hx2).1) (0) aD1 ed (h.ev rfl) (h.ev rfl) (by omega) (by omega)) rfl λf h=>av h (bf gD (h.ev rfl) (((eX (s.getG 0 rfl) (show kx<K2.length by omega) hx2).1).some (by omega))) rfl λf h=>ao (V:=.int .i64 ((tD K K1 kx).sc.getD 0 bz).1) (dq ((eX (s.getG 0 rfl) (show kx<K2.length by omega) hx2).1) (0*33+0) (ym (tD K K1 kx).sc 0 (by omega))) h bu rfl rfl λf h=>bj h jI (λw9 hE9=>a6 (.pointer none) (fK K2 vq (((tD K K1 kx).sc.getD 0 bz).1) w9 ⟨(br.of_own (s.getSl 1 rfl)).keep hE9,λy hy=>(s.getG 0 rfl y hy).keep hE9⟩ (by omega)) (yZ (ar5 ((jt hR2.nos).trans p1)))) rfl rfl λf h=>ar ac 1 h rfl λf h=>bK s λw1 s=>nt (cw ac 1 h rfl λf h=>am h (a8 (.bool false) (eN aD2 (h.ev rfl) (h.ev rfl)) (rfl)) rfl λf h=>oW h rfl (wpIn_skip ?_)))
   replace s:=s.bring 1 rfl
   replace s:St w0 (.sl vq 72 68 K2.length (ax K2)::(.grp k2 (eG K2))::.blk b5 (.cells (f5 (tC K K1 kx) (tB K K1 kx).2.1 (tB K K1 kx).2.2) 72)::.blk bm (jm (dE K))::.blk b2 (.cells (#[vq]) 24)::B9) _:=s
   exact ex rfl h (⟨_,rfl,K2,k2,(by rw [hend,p1];rfl),(s.pick _ (ar2 _ (ar2 _ (ar3 _ (ar3 _ (ar3 _ (List.Sublist.refl _)))))))⟩)
  ·refine cQ 10 h (by kernel_rfl) (aX 4 h s cc rfl rfl (rfl) rfl λf h=>ar ac 2 h rfl λf h=>av h (bf g7 (h.ev rfl) ((br.of_own (s.getSl 1 rfl)).some (by omega))) rfl λf h=>ao (V:=(bG 66 (vl6 5))) (dq (br.of_own (s.getSl 1 rfl)) (kx*68+66) ((nj K2 kx (by omega)).trans (by rw [hx2]))) h c7 rfl rfl λf h=>av h (bg ((eX (s.getG 0 rfl) (show kx<K2.length by omega) hx2).1) (0) aD1 ed (h.ev rfl) (h.ev rfl) (by omega) (by omega)) rfl λf h=>av h (bf gD (h.ev rfl) (((eX (s.getG 0 rfl) (show kx<K2.length by omega) hx2).1).some (by omega))) rfl λf h=>ao (V:=.int .i64 ((tD K K1 kx).sc.getD 0 bz).1) (dq ((eX (s.getG 0 rfl) (show kx<K2.length by omega) hx2).1) (0*33+0) (ym (tD K K1 kx).sc 0 (by omega))) h bu rfl rfl λf h=>bj h jI (λw9 hE9=>a6 (.pointer (some (bC vq ((tY K K1 K2 kx)*68)))) (fK K2 vq (((tD K K1 kx).sc.getD 0 bz).1) w9 ⟨(br.of_own (s.getSl 1 rfl)).keep hE9,λy hy=>(s.getG 0 rfl y hy).keep hE9⟩ (by omega)) (uN (kP hR2 p1).1)) rfl rfl λf h=>ar ac 1 h rfl λf h=>bK s λw1 s=>nt (cw ac 1 h rfl λf h=>am h (a8 (.bool true) (eN aD2 (h.ev rfl) (h.ev rfl)) (rfl)) rfl λf h=>gh h rfl ?_))
   replace s:=s.bring 1 rfl
   replace s:St w0 (.sl vq 72 68 K2.length (ax K2)::(.grp k2 (eG K2))::.blk b5 (.cells (f5 (tC K K1 kx) (tB K K1 kx).2.1 (tB K K1 kx).2.2) 72)::.blk bm (jm (dE K))::.blk b2 (.cells (#[vq]) 24)::B9) _:=s
   obtain ⟨hi2,hg2,hgm2⟩:=kP hR2 p1
   replace hg2:(tE K K1 K2 kx)=_:=hg2
   have hzr:RN (tE K K1 K2 kx).1:=by rw [hg2];exact hR2.rn _ hgm2
   have hzl:=hzr.len
   have hzf:=hzr.fg.1
   have hnt:=kw (jM.2 hzr) (j7.2 hT2.me)
   refine oU 1 [[],[],[1],[1,2],[],[4],[4,5],[4,5,6],[1,2,3,4,5,6,7],[1,2,3,4,5,6,7,8],[1,2,3,4,5,6,7,8,9],[1,2,3,4,5,6,7,8,9],[0,1,2,3,4,5,6,7,8,9,10],[0,1,2,3,4,5,6,7,8,9,10,12]] [[],[],[],[],[],[],[],[],[],[],[],[],[],[14]] [[],[],[],[0],[],[],[0],[0],[],[],[],[],[],[]] [[_]] [.v (.pointer (some (bC vq ((tY K K1 K2 kx)*68)))),.v (.pointer (some (bC vq ((tY K K1 K2 kx)*68)))),.v (.pointer (some (bC vq ((tY K K1 K2 kx)*68)))),.v (.agg (Rb (tE K K1 K2 kx))),.v (.pointer (some (bC vq (kx*68)))),.v (.pointer (some (bC vq (kx*68)))),.v (.pointer (some (bC vq (kx*68+0)))),.v (.agg (ay (tD K K1 kx).me)),.r (λv=>[.sl (bG 66 (v 8)) 69 33 (tF K K1 K2 kx).sc.length (ap (tF K K1 K2 kx).sc),.sl (bG 67 (v 8)) 69 33 (tF K K1 K2 kx).fg.length (ap (tF K K1 K2 kx).fg)]) (λv=>v 8=.tuple #[.agg (f5 (tF K K1 K2 kx) (bG 66 (v 8)) (bG 67 (v 8))),.int .i64 0]),.f (λv=>v 9=.tuple #[.agg (f5 (tF K K1 K2 kx) (bG 66 (v 8)) (bG 67 (v 8))),.int .i64 0]),.f (λv=>v 10=.agg (f5 (tF K K1 K2 kx) (bG 66 (v 8)) (bG 67 (v 8)))),.v (.int .i64 0),.v (.pointer (some (bC vq ((tY K K1 K2 kx)*68)))),.m (λv=>[.sl vq 72 68 (K2.set (tY K K1 K2 kx) (((tF K K1 K2 kx),(bG 66 (v 8)),(bG 67 (v 8))):N3)).length (ax (K2.set (tY K K1 K2 kx) (((tF K K1 K2 kx),(bG 66 (v 8)),(bG 67 (v 8))):N3)))])] (λ_ _=>[]) _ h s rfl (by kernel_rfl) (by kernel_rfl) (by kernel_rfl) (by kernel_rfl) (bW ?_ (bW ?_ (bW ?_ (bW ?_ (bW ?_ (bW ?_ (bW ?_ (bW ?_ (bW ?_ (bW ?_ (bW ?_ (bW ?_ (bW ?_ (bW ?_ (trivial))))))))))))))) [0,1,2,3,4,5,6,7,8,9,10,11,12,13] (by kernel_rfl) ?_
   ·intro f9 w2 vl9 E9 lst9 hlo hlc hlz hs9 hd9 hl hF hR9 s
    have h:=cb [(6,_)] h hs9 hd9 ⟨d5 hl 6 (by kernel_rfl) (h.holds 6 _ rfl),trivial⟩
    refine al ac 1 h rfl λf h=>aw ⟨_,aV 53 h rfl rfl,rfl,s⟩
   ·intro f9 w2 vl9 E9 lst9 hlo hlc hlz hs9 hd9 hl hF hR9 s
    have h:=cb [(6,_)] h hs9 hd9 ⟨d5 hl 6 (by kernel_rfl) (h.holds 6 _ rfl),trivial⟩
    refine al ac 1 h rfl λf h=>aw ⟨_,aV 54 h rfl rfl,rfl,s⟩
   ·intro f9 w2 vl9 E9 lst9 hlo hlc hlz hs9 hd9 hl hF hR9 s
    have h:=cb [(54,_)] h hs9 hd9 ⟨aS hl 54 1 (by kernel_rfl) (hF 1 (by decide)),trivial⟩
    refine al ac 1 h rfl λf h=>aw ⟨_,aV 55 h rfl rfl,rfl,s⟩
   ·intro f9 w2 vl9 E9 lst9 hlo hlc hlz hs9 hd9 hl hF hR9 s
    have hq9:Own.sl vq 72 68 K2.length (ax K2)∈E9:=hR9 0 (by decide) _ at0
    have h:=cb [(55,_)] h hs9 hd9 ⟨aS hl 55 2 (by kernel_rfl) (hF 2 (by decide)),trivial⟩
    have hq8:Own.sl vq 72 68 K2.length (ax K2)∈((.grp k2 (eG K2))::.blk b5 (.cells (f5 (tC K K1 kx) (tB K K1 kx).2.1 (tB K K1 kx).2.2) 72)::.blk bm (jm (dE K))::.blk b2 (.cells (#[vq]) 24)::(B9++E9)):=by simp only [at1,av4,hq9,or_true]
    refine az ((br.of_own (s.memSl hq8)).el ((tY K K1 K2 kx)) (by omega) (by decide) (D:=aP (tE K K1 K2 kx).1.me (tE K K1 K2 kx).1.pr (tE K K1 K2 kx).2.1 (tE K K1 K2 kx).2.2) (eE K2 _ hi2)) h bS rfl (aq _ _ _ _) rfl λf h=>aw ⟨_,aV 56 h rfl rfl,rfl,s⟩
   ·intro f9 w2 vl9 E9 lst9 hlo hlc hlz hs9 hd9 hl hF hR9 s
    have h:=cb [(1,_)] h hs9 hd9 ⟨d5 hl 1 (by kernel_rfl) (h.holds 1 _ rfl),trivial⟩
    refine al ac 1 h rfl λf h=>aw ⟨_,aV 57 h rfl rfl,rfl,s⟩
   ·intro f9 w2 vl9 E9 lst9 hlo hlc hlz hs9 hd9 hl hF hR9 s
    have h:=cb [(57,_)] h hs9 hd9 ⟨aS hl 57 4 (by kernel_rfl) (hF 4 (by decide)),trivial⟩
    refine al ac 1 h rfl λf h=>aw ⟨_,aV 58 h rfl rfl,rfl,s⟩
   ·intro f9 w2 vl9 E9 lst9 hlo hlc hlz hs9 hd9 hl hF hR9 s
    have hq9:Own.sl vq 72 68 K2.length (ax K2)∈E9:=hR9 0 (by decide) _ at0
    have h:=cb [(58,_)] h hs9 hd9 ⟨aS hl 58 5 (by kernel_rfl) (hF 5 (by decide)),trivial⟩
    have hq8:Own.sl vq 72 68 K2.length (ax K2)∈((.grp k2 (eG K2))::.blk b5 (.cells (f5 (tC K K1 kx) (tB K K1 kx).2.1 (tB K K1 kx).2.2) 72)::.blk bm (jm (dE K))::.blk b2 (.cells (#[vq]) 24)::(B9++E9)):=by simp only [at1,av4,hq9,or_true]
    refine am h (bf fw (h.ev rfl) ((br.of_own (s.memSl hq8)).some (by omega))) rfl λf h=>aw ⟨_,aV 59 h rfl rfl,rfl,s⟩
   ·intro f9 w2 vl9 E9 lst9 hlo hlc hlz hs9 hd9 hl hF hR9 s
    have hq9:Own.sl vq 72 68 K2.length (ax K2)∈E9:=hR9 0 (by decide) _ at0
    have h:=cb [(59,_)] h hs9 hd9 ⟨aS hl 59 6 (by kernel_rfl) (hF 6 (by decide)),trivial⟩
    have hq8:Own.sl vq 72 68 K2.length (ax K2)∈((.grp k2 (eG K2))::.blk b5 (.cells (f5 (tC K K1 kx) (tB K K1 kx).2.1 (tB K K1 kx).2.2) 72)::.blk bm (jm (dE K))::.blk b2 (.cells (#[vq]) 24)::(B9++E9)):=by simp only [at1,av4,hq9,or_true]
    refine az (br.elF (br.of_own (s.memSl hq8)) (kx) 0 33 (by omega) (by decide) (C:=aP (tD K K1 kx).me (tD K K1 kx).pr (bG 66 (vl6 5)) (bG 67 (vl6 5))) ((eE K2 kx (by omega)).trans (by rw [hx2])) (D:=ay (tD K K1 kx).me) (cN _ _ _ _)) h aY rfl (ai _) rfl λf h=>aw ⟨_,aV 60 h rfl rfl,rfl,s⟩
   ·intro f9 w2 vl9 E9 lst9 hlo hlc hlz hs9 hd9 hl hF hR9 s
    have h:=cb [(56,_),(60,_)] h hs9 hd9 ⟨aS hl 56 3 (by kernel_rfl) (hF 3 (by decide)),aS hl 60 7 (by kernel_rfl) (hF 7 (by decide)),trivial⟩
    refine bB h s HK (rG (tE K K1 K2 kx).1 (tE K K1 K2 kx).2.1 (tE K K1 K2 kx).2.2 (tD K K1 kx).me _ (s.getG 0 rfl _ (bU hi2)).1 (s.getG 0 rfl _ (bU hi2)).2 (by omega) (by omega)) rfl rfl ?_;rintro f w1 v61 ⟨cu,cv,hv9,hS⟩ hE h sq;rw [hnt.1,hnt.2] at hv9;rw [hnt.1] at hS;replace s:=s.add hS
    have h66:cu=bG 66 v61:=by rw [hv9];exact(rr (br.of_own (hS.getSl 0 rfl))).symm
    have h67:cv=bG 67 v61:=by rw [hv9];exact(sJ (br.of_own (hS.getSl 1 rfl))).symm
    clear hS
    subst h66;subst h67
    exact aw ⟨_,aV 61 h rfl rfl,hv9,s⟩
   ·intro f9 w2 vl9 E9 lst9 hlo hlc hlz hs9 hd9 hl hF hR9 s
    have h:=cb [(61,.tuple #[.agg (f5 (tF K K1 K2 kx) (bG 66 (vl9 8)) (bG 67 (vl9 8))),.int .i64 0])] h hs9 hd9 ⟨aS hl 61 8 (by kernel_rfl) (hF 8 (by decide)),trivial⟩
    refine al ac 1 h rfl λf h=>aw ⟨_,aV 52 h rfl rfl,rfl,s⟩
   ·intro f9 w2 vl9 E9 lst9 hlo hlc hlz hs9 hd9 hl hF hR9 s
    have h:=cb [(52,.tuple #[.agg (f5 (tF K K1 K2 kx) (bG 66 (vl9 8)) (bG 67 (vl9 8))),.int .i64 0])] h hs9 hd9 ⟨aS hl 52 9 (by kernel_rfl) (hF 9 (by decide)),trivial⟩
    refine al ac 1 h rfl λf h=>aw ⟨_,aV 62 h rfl rfl,rfl,s⟩
   ·intro f9 w2 vl9 E9 lst9 hlo hlc hlz hs9 hd9 hl hF hR9 s
    have h:=cb [(52,.tuple #[.agg (f5 (tF K K1 K2 kx) (bG 66 (vl9 8)) (bG 67 (vl9 8))),.int .i64 0])] h hs9 hd9 ⟨aS hl 52 9 (by kernel_rfl) (hF 9 (by decide)),trivial⟩
    refine al ac 1 h rfl λf h=>aw ⟨_,aV 63 h rfl rfl,rfl,s⟩
   ·intro f9 w2 vl9 E9 lst9 hlo hlc hlz hs9 hd9 hl hF hR9 s
    have h:=cb [(53,_)] h hs9 hd9 ⟨aS hl 53 0 (by kernel_rfl) (hF 0 (by decide)),trivial⟩
    refine al ac 1 h rfl λf h=>aw ⟨_,aV 64 h rfl rfl,rfl,s⟩
   ·intro f9 w2 vl9 E9 lst9 hlo hlc hlz hs9 hd9 hl hF hR9 s
    have h:=cb [(64,_),(62,.agg (f5 (tF K K1 K2 kx) (bG 66 (vl9 8)) (bG 67 (vl9 8))))] h hs9 hd9 ⟨aS hl 64 12 (by kernel_rfl) (hF 12 (by decide)),aS hl 62 10 (by kernel_rfl) (hF 10 (by decide)),trivial⟩
    refine gl 0 ((tY K K1 K2 kx)) h s bS rfl rfl rfl (aq _ _ _ _) (by omega) (bP (g6 _ _) (g6 _ _)) (show _=ax (K2.set (tY K K1 K2 kx) (((tF K K1 K2 kx),(bG 66 (vl9 8)),(bG 67 (vl9 8))):N3)) from su hi2 (((tF K K1 K2 kx),(bG 66 (vl9 8)),(bG 67 (vl9 8))):N3)) λw1 s=>?_
    replace s:=s.resl (m:=(K2.set (tY K K1 K2 kx) (((tF K K1 K2 kx),(bG 66 (vl9 8)),(bG 67 (vl9 8))):N3)).length) (ys:=ax (K2.set (tY K K1 K2 kx) (((tF K K1 K2 kx),(bG 66 (vl9 8)),(bG 67 (vl9 8))):N3))) 0 rfl (by rw [List.length_set]) rfl
    exact aw ⟨undef,gd rfl,trivial,s⟩
   intro f w1 vl9 hs9 hd9 hv hr hF s
   replace h:=kj (ops:=_) [(53,_),(54,_),(55,_),(56,_),(57,_),(58,_),(59,_),(60,_),(61,.tuple #[.agg (f5 (tF K K1 K2 kx) (bG 66 (vl9 8)) (bG 67 (vl9 8))),.int .i64 0]),(52,.tuple #[.agg (f5 (tF K K1 K2 kx) (bG 66 (vl9 8)) (bG 67 (vl9 8))),.int .i64 0]),(62,.agg (f5 (tF K K1 K2 kx) (bG 66 (vl9 8)) (bG 67 (vl9 8)))),(63,_),(64,_)] h hs9 hd9 hr ⟨(hv 0 53 rfl).trans (hF 0 rfl),(hv 1 54 rfl).trans (hF 1 rfl),(hv 2 55 rfl).trans (hF 2 rfl),(hv 3 56 rfl).trans (hF 3 rfl),(hv 4 57 rfl).trans (hF 4 rfl),(hv 5 58 rfl).trans (hF 5 rfl),(hv 6 59 rfl).trans (hF 6 rfl),(hv 7 60 rfl).trans (hF 7 rfl),(hv 8 61 rfl).trans (hF 8 rfl),(hv 9 52 rfl).trans (hF 9 rfl),(hv 10 62 rfl).trans (hF 10 rfl),(hv 11 63 rfl).trans (hF 11 rfl),(hv 12 64 rfl).trans (hF 12 rfl),trivial⟩ (by kernel_rfl)
   replace s:St w0 (.sl (bG 66 (vl9 8)) 69 33 (tF K K1 K2 kx).sc.length (ap (tF K K1 K2 kx).sc)::.sl (bG 67 (vl9 8)) 69 33 (tF K K1 K2 kx).fg.length (ap (tF K K1 K2 kx).fg)::.sl vq 72 68 (K2.set (tY K K1 K2 kx) (((tF K K1 K2 kx),(bG 66 (vl9 8)),(bG 67 (vl9 8))):N3)).length (ax (K2.set (tY K K1 K2 kx) (((tF K K1 K2 kx),(bG 66 (vl9 8)),(bG 67 (vl9 8))):N3)))::(.grp k2 (eG K2))::.blk b5 (.cells (f5 (tC K K1 kx) (tB K K1 kx).2.1 (tB K K1 kx).2.2) 72)::.blk bm (jm (dE K))::.blk b2 (.cells (#[vq]) 24)::B9) _:=s
   replace s:=s.bring 3 rfl
   replace s:=s.bring 2 rfl
   replace s:=s.bring 2 rfl
   replace s:St w0 (.sl (bG 66 (vl9 8)) 69 33 (tF K K1 K2 kx).sc.length (ap (tF K K1 K2 kx).sc)::.sl (bG 67 (vl9 8)) 69 33 (tF K K1 K2 kx).fg.length (ap (tF K K1 K2 kx).fg)::(.grp k2 (eG K2))::.sl vq 72 68 (K2.set (tY K K1 K2 kx) (((tF K K1 K2 kx),(bG 66 (vl9 8)),(bG 67 (vl9 8))):N3)).length (ax (K2.set (tY K K1 K2 kx) (((tF K K1 K2 kx),(bG 66 (vl9 8)),(bG 67 (vl9 8))):N3)))::.blk b5 (.cells (f5 (tC K K1 kx) (tB K K1 kx).2.1 (tB K K1 kx).2.2) 72)::.blk bm (jm (dE K))::.blk b2 (.cells (#[vq]) 24)::B9) _:=s
   obtain ⟨k3,s⟩:=s.grpR (S':=eG (K2.set (tY K K1 K2 kx) (((tF K K1 K2 kx),(bG 66 (vl9 8)),(bG 67 (vl9 8))):N3))) (λw9 h1 h2 h3=>nX h3 ⟨h1,h2⟩)
   have hp3:=(n3 hR2 hi2 (x:=(((tF K K1 K2 kx),(bG 66 (vl9 8)),(bG 67 (vl9 8))):N3)) rfl (ve hzr hT2.me)).1
   replace s:=s.bring 1 rfl
   replace s:St w0 (.sl vq 72 68 (K2.set (tY K K1 K2 kx) (((tF K K1 K2 kx),(bG 66 (vl9 8)),(bG 67 (vl9 8))):N3)).length (ax (K2.set (tY K K1 K2 kx) (((tF K K1 K2 kx),(bG 66 (vl9 8)),(bG 67 (vl9 8))):N3)))::(.grp k3 (eG (K2.set (tY K K1 K2 kx) (((tF K K1 K2 kx),(bG 66 (vl9 8)),(bG 67 (vl9 8))):N3))))::.blk b5 (.cells (f5 (tC K K1 kx) (tB K K1 kx).2.1 (tB K K1 kx).2.2) 72)::.blk bm (jm (dE K))::.blk b2 (.cells (#[vq]) 24)::B9) _:=s
   exact ex rfl h (⟨_,rfl,(K2.set (tY K K1 K2 kx) (((tF K K1 K2 kx),(bG 66 (vl9 8)),(bG 67 (vl9 8))):N3)),k3,(by rw [hend,p1,hp3,jd];unfold tF;rw [hg2];rfl),(s.pick _ (ar2 _ (ar2 _ (ar3 _ (ar3 _ (ar3 _ (List.Sublist.refl _)))))))⟩)
theorem BE (L:List N3) (vo:Value) (w:World) (hO:kB w vo L) (hL:L.length<=40) (hb:RwB L):Calls Tryz.prog 82 [.agg #[vo]].toArray w (cd w (T8 w (EY vo L) (VF L) (VM L))):=by
 refine ff Tryz.func82 rfl Tryz.ntmps82 rfl [(0,.agg #[vo])] (by simp) λf h=>?_
 have s:=St.start w
 refine qr (aZ (#[vo]) h s rfl rfl rfl λf w1 b1 h s=>aO (#[au]) h s qF rfl rfl λf w1 b2 h s=>e9 ac 1 h rfl λf h=>ah (ah ?_))
 refine aG (ak 1 h s cc rfl rfl (rfl) rfl λf h=>eC h s El (j9 L vo _ (hO.keep s.ext) hL hb) rfl rfl (λr0 f w1 h s=>?_) (λr0 f w1 h s=>?_))
 ·refine e9 ac 1 h rfl λf h=>dw h rfl (qr (am h (gJ yt) rfl λf h=>aj 0 h s cc rfl rfl rfl (rfl) (rfl) (ey (rfl)) λw1 s=>e9 ac 1 h rfl λf h=>rt ?_))
  exact jg 0 rfl h s cc rfl rfl rfl (rfl) (o8 s (Rk r0).2 (Rk r0).1)
 ·refine e9 ac 1 h rfl λf h=>mQ h rfl (qr (ak 1 h s cc rfl rfl (rfl) rfl λf h=>bB h s Cv (lg L vo _ (hO.keep s.ext) hL hb) rfl rfl ?_));rintro f w1 v10 ⟨vq,K,ks,rfl,hnk,hS⟩ hE h sq;replace s:=s.add hS;clear hS
  have hlk:K.length=L.length:=by have h9:=ar8 List.length hnk;simpa [nds] using h9
  refine aj 3 h s cc rfl rfl rfl (rfl) (rfl) (ey (aT (s.getSl 0 rfl))) λw1 s=>nt (ah (qr ?_))
  have hrs:=(oO r0).rs
  refine ak 3 h s cc rfl rfl (rfl) rfl λf h=>cF [.agg #[vq]] h qP (iG vq _ _ _ s) rfl rfl ?_;rintro f w1 r ⟨bn,rfl,s⟩ h
  refine nt (av9 (eK (λd A9=>∃ (Kd:List N3) (kd:List Nat),(nds Kd=BU (nds L) d/\RS Kd/\aQ Kd=aQ L)/\A9=[.sl vq 72 68 Kd.length (ax Kd),.grp kd (eG Kd),.blk b2 (.cells (#[au]) 24),.blk b1 (.cells #[vq] 24)]) [.sl vq 72 68 K.length (ax K),.grp ks (eG K),.blk b2 (.cells (#[au]) 24),.blk b1 (.cells #[vq] 24)] [.blk bn (.cells #[vq] 24)] (L.length) (λ_=>false) (λd=>[Value.pointer (some (bC vq (d*68)))]) h s rfl mU (List.Perm.refl _) (⟨K,ks,⟨hnk,hrs.nds hnk,Vj hnk⟩,rfl⟩) (λ_=>rfl) ?_ ?_ ?_ ?_))
  ·intro lp w2 GG g0 hg0 s2 hY;exact gT L.length (by omega) vq _ _ (by rw [← hlk];exact br.of_own (s.getSl 1 rfl)) lp bn (λ_=>false) GG g0 w w2 s2 hg0 hY
  ·intro lp D9 d9 rc R9 A9 w2 hd9 hq9 hJ9 s
   obtain ⟨Kd,kd,⟨hkn,hkr,hkm⟩,rfl⟩:=hJ9
   have h:=Sl.round1 (p:=13) (V:=.pointer (some (bC vq (d9*68)))) h rfl
   have hdl9:=hd9
   have hdk:d9<Kd.length:=by have h9:=ar8 List.length hkm;simp only [av6] at h9;omega
   refine re ac 1 h rfl λf h=>⟨_,s,λw3 s=>?_⟩
   refine av9 (aG (ak 5 h s cc rfl rfl (rfl) rfl λf h=>al ac 1 h rfl λf h=>?_))
   replace s:=s.bring 3 rfl
   replace s:=s.bring 3 rfl
   replace s:St w (.sl vq 72 68 Kd.length (ax Kd)::(.grp kd (eG Kd))::.blk lp (.loop (rc .busy))::.blk D9 (.deferred (some []))::.blk b2 (.cells (#[au]) 24)::.blk b1 (.cells (#[vq]) 24)::R9) _:=s
   refine cF [.agg #[vq],.pointer (some (bC vq (d9*68)))] h U8 (CI Kd kd vq d9 _ _ _ s hdk hkr) rfl rfl ?_;rintro f w1 r ⟨K9,kn,hn9,s⟩ h
   refine aw (bo ?_)
   have hme:(Kd.getD d9 z3).1.me=(aQ L).getD d9 bz:=by rw [← hkm];exact(iT hdk).symm
   have hq9:=DR hkr (yD hkr hdk) hn9
   have hn8:nds K9=BU (nds L) (d9+1):=by rw [GD (by rw [av6];exact hdl9),hn9,hkn,hme]
   replace s:=s.bring 1 rfl
   replace s:=s.bring 1 rfl
   replace s:=s.bring 3 rfl
   replace s:=s.bring 3 rfl
   replace s:St w (.blk lp (.loop (rc .busy))::.blk D9 (.deferred (some []))::.sl vq 72 68 K9.length (ax K9)::(.grp kn (eG K9))::.blk b2 (.cells (#[au]) 24)::.blk b1 (.cells (#[vq]) 24)::R9) _:=s
   refine ⟨rfl,_,⟨K9,kn,⟨hn8,hq9.1,hq9.2.trans hkm⟩,rfl⟩,s.pick _ ?_⟩
   exact ar2 _ (List.Sublist.refl _)
  ·intro D9 A9 w2 hJ9 hq9 s
   obtain ⟨Kd,kd,⟨hkn,hkr,hkm⟩,rfl⟩:=hJ9
   replace h:Sl _ {f with defers:={target:=.collected D9,args:=#[]}::f.defers} _ [{target:=.collected D9,args:=#[]}]:=⟨h.size,by rw [h.defers],h.holds⟩
   refine bo (aK (qr (ak 5 h s cc rfl rfl (rfl) rfl λf h=>aj 4 h s cc rfl rfl rfl (rfl) (rfl) (ey (aT (s.getSl 2 rfl))) λw1 s=>e9 ac 1 h rfl λf h=>av8 ?_)))
   exact nR 4 0 rfl h s cc rfl rfl rfl rfl (rfl) (λw9 s9=>wC (DL r0).1 (D7 (by rw [(DL r0).2,hkn,Lc (by rw [av6])]) (s9.sel [2,3] rfl (by decide))))
  ·intro D9 d9 A9 w2 hd9 hqd9 hq9 hJ9 s
   cases hqd9
end Go.Proofs.YtkhepdpfdhdlaaaGreatDoor
