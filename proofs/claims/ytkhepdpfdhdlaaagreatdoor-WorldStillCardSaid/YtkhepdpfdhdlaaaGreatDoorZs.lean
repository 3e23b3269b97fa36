/- Package node and what it stands on, so far as it is wanted: what each function answers. -/
import Derived.Test.YtkhepdpfdhdlaaaGreatDoorZd
import Derived.Test.YtkhepdpfdhdlaaaGreatDoorZm
import Derived.Test.YtkhepdpfdhdlaaaGreatDoorZl
import Derived.Test.YtkhepdpfdhdlaaaGreatDoorZj
set_option linter.unusedVariables false
set_option linter.unusedSimpArgs false
set_option linter.unusedSectionVars false
namespace Go.Proofs.YtkhepdpfdhdlaaaGreatDoor
open Go.RowKit
theorem Fj (m:Mb) (z:Nd) (ws wf:Value) (w:World):Calls Tryz.prog 270 [.agg (ay m),.agg (aP z.me z.pr ws wf)].toArray w (cd w (is (.agg (ay (sd m z))))):=by
 refine bN Tryz.func270 rfl Tryz.ntmps270 rfl λf h s=>qr (aZ ((ay m)) h s rfl rfl rfl λf w1 b2 h s=>aZ (aP z.me z.pr ws wf) h s rfl rfl rfl λf w1 b3 h s=>aO (ay bz) h s eV rfl rfl λf w1 b4 h s=>nt (cw ac 1 h rfl λf h=>az (aF.subL (aF.of_own s 1 rfl) 33 33 (D:=ay z.pr) (fm _ _ _ _)) h aY rfl (ai _) rfl λf h=>aO (ay bz) h s eV rfl rfl λf w1 b5 h s=>aj 0 h s aY rfl rfl rfl (ai _) (ai _) (bI _) λw1 s=>nt (ah (ah ?_))))
 cases q0:(decide (z.pr=fe):Bool)
 ·skip
  refine cQ 25 h (by kernel_rfl) (aX 0 h s aY rfl rfl (ai _) rfl λf h=>bj h jk (λw9 hE9=>f8 w9) rfl rfl λf h=>av h (a8 (.bool false) (dS (uW _ _) (by kernel_rfl) (by decide) (h.ev rfl) (h.ev rfl) (decide (z.pr=fe)) (jC _ _)) (ar8 Value.bool q0)) rfl λf h=>ar ac 2 h rfl λf h=>bD h rfl (ao (ae (aF.of_own s 0 rfl) 0 (cf _)) h bu rfl rfl λf h=>ar ac 1 h rfl λf h=>bD h rfl (ao (ae (aF.of_own s 3 rfl) 0 (cf _)) h bu rfl rfl λf h=>bD h rfl (Ko ac h rfl (λq1 f h=>?_) (λq1 f h=>?_)))))
  ·skip
   cases q2:(decide (z.pr.2=m.2):Bool)
   ·skip
    cases q3:(decide (z.pr.2=z.me.2):Bool)
    ·refine ar ac 3 h rfl λf h=>bD h rfl (aE (aF.subL (aF.of_own s 0 rfl) 1 32 (D:=aI (_)) (c8 _)) h ca rfl (by first|exact aC _|exact aB _ _) rfl λf h=>ar ac 1 h rfl λf h=>bD h rfl (aE (aF.subL (aF.of_own s 3 rfl) 1 32 (D:=aI (_)) (c8 _)) h ca rfl (by first|exact aC _|exact aB _ _) rfl λf h=>bD h rfl (av h (a8 (.bool false) (cZ fE (h.ev rfl) (h.ev rfl)) (ar8 Value.bool q2)) rfl λf h=>ar ac 3 h rfl λf h=>bD h rfl (aE (aF.subL (aF.of_own s 0 rfl) 1 32 (D:=aI (_)) (c8 _)) h ca rfl (by first|exact aC _|exact aB _ _) rfl λf h=>ar ac 2 h rfl λf h=>bD h rfl (aE (aF.subL (aF.of_own s 2 rfl) 1 32 (D:=aI z.me.2) (gE _ _ _ _)) h ca rfl (by first|exact aC _|exact aB _ _) rfl λf h=>bD h rfl (av h (a8 (.bool false) (cZ fE (h.ev rfl) (h.ev rfl)) (ar8 Value.bool q3)) rfl λf h=>ar ac 1 h rfl λf h=>bK s λw1 s=>fL h rfl (ah (ah ?_))))))))
     refine rs ac 1 h rfl λf h=>az (aF.subL (aF.of_own s 0 rfl) 1 32 (D:=aI (_)) (c8 _)) h ca rfl (by first|exact aC _|exact aB _ _) rfl λf h=>al ac 1 h rfl λf h=>az (aF.subL (aF.of_own s 3 rfl) 1 32 (D:=aI (_)) (c8 _)) h ca rfl (by first|exact aC _|exact aB _ _) rfl λf h=>al ac 2 h rfl λf h=>az (aF.subL (aF.of_own s 2 rfl) 1 32 (D:=aI z.me.2) (gE _ _ _ _)) h ca rfl (by first|exact aC _|exact aB _ _) rfl λf h=>eC h s CG (A4 _ _ _ _) rfl rfl (λq4 f w1 h s=>?_) (λq4 f w1 h s=>?_)
     ·refine e9 ac 1 h rfl λf h=>dw h rfl (cw ac 1 h rfl λf h=>az (aF.subL (aF.of_own s 2 rfl) 0 33 (D:=ay z.me) (cN _ _ _ _)) h aY rfl (ai _) rfl λf h=>aj 1 h s aY rfl rfl rfl (ai _) (ai _) (bI _) λw1 s=>nt (rt (iP 1 rfl h s aY rfl rfl (ai _) (by show _=_;rw [ZI q4]))))
     ·refine e9 ac 1 h rfl λf h=>mQ h rfl (qr (ak 0 h s aY rfl rfl (ai _) rfl λf h=>aj 1 h s aY rfl rfl rfl (ai _) (ai _) (bI _) λw1 s=>nt (av8 (iP 1 rfl h s aY rfl rfl (ai _) (by show _=_;rw [ab7 q0 q1 q2 q3 q4])))))
    ·refine ar ac 3 h rfl λf h=>bD h rfl (aE (aF.subL (aF.of_own s 0 rfl) 1 32 (D:=aI (_)) (c8 _)) h ca rfl (by first|exact aC _|exact aB _ _) rfl λf h=>ar ac 1 h rfl λf h=>bD h rfl (aE (aF.subL (aF.of_own s 3 rfl) 1 32 (D:=aI (_)) (c8 _)) h ca rfl (by first|exact aC _|exact aB _ _) rfl λf h=>bD h rfl (av h (a8 (.bool false) (cZ fE (h.ev rfl) (h.ev rfl)) (ar8 Value.bool q2)) rfl λf h=>ar ac 3 h rfl λf h=>bD h rfl (aE (aF.subL (aF.of_own s 0 rfl) 1 32 (D:=aI (_)) (c8 _)) h ca rfl (by first|exact aC _|exact aB _ _) rfl λf h=>ar ac 2 h rfl λf h=>bD h rfl (aE (aF.subL (aF.of_own s 2 rfl) 1 32 (D:=aI z.me.2) (gE _ _ _ _)) h ca rfl (by first|exact aC _|exact aB _ _) rfl λf h=>bD h rfl (av h (a8 (.bool true) (cZ fE (h.ev rfl) (h.ev rfl)) (ar8 Value.bool q3)) rfl λf h=>ar ac 1 h rfl λf h=>bK s λw1 s=>gh h rfl (cw ac 1 h rfl λf h=>az (aF.subL (aF.of_own s 2 rfl) 0 33 (D:=ay z.me) (cN _ _ _ _)) h aY rfl (ai _) rfl λf h=>aj 1 h s aY rfl rfl rfl (ai _) (ai _) (bI _) λw1 s=>nt (rt (iP 1 rfl h s aY rfl rfl (ai _) (by show _=_;rw [ac3 q3]))))))))))
   ·refine ar ac 3 h rfl λf h=>bD h rfl (aE (aF.subL (aF.of_own s 0 rfl) 1 32 (D:=aI (_)) (c8 _)) h ca rfl (by first|exact aC _|exact aB _ _) rfl λf h=>ar ac 1 h rfl λf h=>bD h rfl (aE (aF.subL (aF.of_own s 3 rfl) 1 32 (D:=aI (_)) (c8 _)) h ca rfl (by first|exact aC _|exact aB _ _) rfl λf h=>bD h rfl (av h (a8 (.bool true) (cZ fE (h.ev rfl) (h.ev rfl)) (ar8 Value.bool q2)) rfl λf h=>ar ac 9 h rfl λf h=>bK s λw1 s=>gh h rfl (cw ac 1 h rfl λf h=>az (aF.subL (aF.of_own s 2 rfl) 0 33 (D:=ay z.me) (cN _ _ _ _)) h aY rfl (ai _) rfl λf h=>aj 1 h s aY rfl rfl rfl (ai _) (ai _) (bI _) λw1 s=>nt (rt (iP 1 rfl h s aY rfl rfl (ai _) (by show _=_;rw [ZU q2])))))))
  ·refine ar ac 16 h rfl λf h=>bK s λw1 s=>gh h rfl (cw ac 1 h rfl λf h=>az (aF.subL (aF.of_own s 2 rfl) 0 33 (D:=ay z.me) (cN _ _ _ _)) h aY rfl (ai _) rfl λf h=>aj 1 h s aY rfl rfl rfl (ai _) (ai _) (bI _) λw1 s=>nt (rt (iP 1 rfl h s aY rfl rfl (ai _) (by show _=_;rw [ab0 q1]))))
 ·refine cQ 25 h (by kernel_rfl) (aX 0 h s aY rfl rfl (ai _) rfl λf h=>bj h jk (λw9 hE9=>f8 w9) rfl rfl λf h=>av h (a8 (.bool true) (dS (uW _ _) (by kernel_rfl) (by decide) (h.ev rfl) (h.ev rfl) (decide (z.pr=fe)) (jC _ _)) (ar8 Value.bool q0)) rfl λf h=>ar ac 22 h rfl λf h=>bK s λw1 s=>gh h rfl (cw ac 1 h rfl λf h=>az (aF.subL (aF.of_own s 2 rfl) 0 33 (D:=ay z.me) (cN _ _ _ _)) h aY rfl (ai _) rfl λf h=>aj 1 h s aY rfl rfl rfl (ai _) (ai _) (bI _) λw1 s=>nt (rt (iP 1 rfl h s aY rfl rfl (ai _) (by show _=_;rw [ah1 q0])))))
set_option maxHeartbeats 1000000 in
theorem pR (n:Nd) (vs vf:Value) (z:Nd) (ws wf:Value) (w:World) (hRs:br w vs 33 n.sc.length (ap n.sc)) (hRf:br w vf 33 n.fg.length (ap n.fg)) (hns:n.sc.length<=900) (hnf:n.fg.length<=900) (hZs:br w ws 33 z.sc.length (ap z.sc)) (hZf:br w wf 33 z.fg.length (ap z.fg)) (hzs:z.sc.length<=900) (hzf:z.fg.length<=900):Calls Tryz.prog 214 [.agg (aP n.me n.pr vs vf),.agg (aP z.me z.pr ws wf)].toArray w (cd w (BR w 69 (Sk n z) (UH n z))):=by
 refine ff Tryz.func214 rfl Tryz.ntmps214 rfl [(0,.agg (aP n.me n.pr vs vf)),(1,.agg (aP z.me z.pr ws wf))] (by simp) λf h=>?_
 have s:=St.start w
 refine qr (aZ (aP n.me n.pr vs vf) h s rfl rfl rfl λf w1 b2 h s=>aZ (aP z.me z.pr ws wf) h s rfl rfl rfl λf w1 b3 h s=>aO (aP bz bz au au) h s jJ rfl rfl λf w1 b4 h s=>e9 ac 1 h rfl λf h=>ah (ah ?_))
 refine aG (ak 2 h s bS rfl rfl (aq _ _ _ _) rfl λf h=>eC h s rL (gi n vs vf _ (hRs.keep s.ext) (hRf.keep s.ext) (by omega) (by omega)) rfl rfl (λhr f w1 h s=>?_) (λhr f w1 h s=>?_))
 ·refine e9 ac 6 h rfl λf h=>dw h rfl (qr (am h (fM Cg) rfl λf h=>aj 0 h s bS rfl rfl rfl (aq _ _ _ _) (aq _ _ _ _) (bP (rfl) (rfl)) λw1 s=>e9 ac 1 h rfl λf h=>rt ?_))
  exact jg 0 rfl h s bS rfl rfl rfl (aq _ _ _ _) (pi s (KM hr).1 (KM hr).2)
 ·skip
  refine al ac 2 h rfl λf h=>bF h rfl (ak 1 h s bS rfl rfl (aq _ _ _ _) rfl λf h=>bF h rfl (eC h s rL (gi z ws wf _ (hZs.keep s.ext) (hZf.keep s.ext) (by omega) (by omega)) rfl rfl (λhz f w1 h s=>?_) (λhz f w1 h s=>?_)))
  ·refine e9 ac 2 h rfl λf h=>dw h rfl (qr (am h (fM Cg) rfl λf h=>aj 0 h s bS rfl rfl rfl (aq _ _ _ _) (aq _ _ _ _) (bP (rfl) (rfl)) λw1 s=>e9 ac 1 h rfl λf h=>rt ?_))
   exact jg 0 rfl h s bS rfl rfl rfl (aq _ _ _ _) (pi s (Ka hz).1 (Ka hz).2)
  ·refine e9 ac 2 h rfl λf h=>mQ h rfl (ah ?_)
   have hrt:=hr
   refine fH 0 9 [[],[0],[],[0,1,2],[],[4],[0,1,2,3,4,5],[],[7],[0,1,2,3,4,5,6,7,8],[0,1,2,3,4,5,6,7,8,9]] [[],[],[],[],[],[],[],[],[],[],[]] [] [.v _,.v (.agg (ay n.me)),.v (.agg (aP z.me z.pr ws wf)),.v (.agg (ay (sd n.me z))),.v _,.v (.agg (ay z.me)),.m (λv=>[.sl (v 6) 69 33 2 (ap [sd n.me z,z.me])]),.v _,.v ws,.n,.n] _ h s rfl (by kernel_rfl) (by kernel_rfl) (by kernel_rfl) (fJ ac h rfl rfl rfl (bW ?_ (bW ?_ (bW ?_ (fJ ac h rfl rfl rfl (bW ?_ (bW ?_ (fJ ac h rfl rfl rfl (bW ?_ (trivial)))))))))) [0,1,2,3,4,5,6,7,8] (by kernel_rfl) ?_
   ·intro f9 w2 vl3 E9 hs9 hd9 hl hF s
    have h:=cb [(18,_)] h hs9 hd9 ⟨aS hl 18 0 (by kernel_rfl) (hF 0 (by decide)),trivial⟩
    refine az (aF.subL (aF.of_own s 2 rfl) 0 33 (D:=ay n.me) (cN _ _ _ _)) h aY rfl (ai _) rfl λf h=>aw ⟨_,aV 19 h rfl rfl,rfl,s⟩
   ·intro f9 w2 vl3 E9 hs9 hd9 hl hF s
    have h:=cb [(3,_)] h hs9 hd9 ⟨d5 hl 3 (by kernel_rfl) (h.holds 3 _ rfl),trivial⟩
    refine ak 1 h s bS rfl rfl (aq _ _ _ _) rfl λf h=>aw ⟨_,aV 20 h rfl rfl,rfl,s⟩
   ·intro f9 w2 vl3 E9 hs9 hd9 hl hF s
    have h:=cb [(19,_),(20,_)] h hs9 hd9 ⟨aS hl 19 1 (by kernel_rfl) (hF 1 (by decide)),aS hl 20 2 (by kernel_rfl) (hF 2 (by decide)),trivial⟩
    refine dM h s UR (Fj n.me z ws wf _) rfl rfl λf w1 h s=>aw ⟨_,aV 21 h rfl rfl,rfl,s⟩
   ·intro f9 w2 vl3 E9 hs9 hd9 hl hF s
    have h:=cb [(22,_)] h hs9 hd9 ⟨aS hl 22 4 (by kernel_rfl) (hF 4 (by decide)),trivial⟩
    refine az (aF.subL (aF.of_own s 1 rfl) 0 33 (D:=ay z.me) (cN _ _ _ _)) h aY rfl (ai _) rfl λf h=>aw ⟨_,aV 23 h rfl rfl,rfl,s⟩
   ·intro f9 w2 vl3 E9 hs9 hd9 hl hF s
    have h:=cb [(21,_),(23,_)] h hs9 hd9 ⟨aS hl 21 3 (by kernel_rfl) (hF 3 (by decide)),aS hl 23 5 (by kernel_rfl) (hF 5 (by decide)),trivial⟩
    refine cU (vs:=[.agg (ay (sd n.me z)),.agg (ay z.me)]) [.tmp 21,.tmp 23] h s aD1 js rfl rfl (by intro v hv9;simp only [at1,at4,or_false] at hv9;rcases hv9 with rfl|rfl<;>exact ai _) rfl rfl rfl λf w1 v24 h s=>?_
    replace s:=s.resl (m:=2) (ys:=ap [sd n.me z,z.me]) 0 rfl rfl (by simp [ap,ay,Value.cells])
    exact aw ⟨_,aV 24 h rfl rfl,trivial,s⟩
   ·intro f9 w2 vl3 E9 hs9 hd9 hl hF s
    have h:=cb [(25,_)] h hs9 hd9 ⟨aS hl 25 7 (by kernel_rfl) (hF 7 (by decide)),trivial⟩
    refine ag (V:=ws) (ae (aF.of_own s 1 rfl) 66 (gc _ _ _ _)) h c7 rfl rfl λf h=>aw ⟨_,aV 26 h rfl rfl,rfl,s⟩
   intro f w1 vl3 hs9 hd9 hv hr hF s
   replace hv:=λi d h9=>hv i d (show Nat.blt i 9=true from h9)
   replace h:=eI 9 (ops:=_) [(18,_),(19,_),(20,_),(21,_),(22,_),(23,_),(24,(vl3 6)),(25,_),(26,_)] h hs9 hd9 hr ⟨(hv 0 18 rfl rfl).trans (hF 0 rfl),(hv 1 19 rfl rfl).trans (hF 1 rfl),(hv 2 20 rfl rfl).trans (hF 2 rfl),(hv 3 21 rfl rfl).trans (hF 3 rfl),(hv 4 22 rfl rfl).trans (hF 4 rfl),(hv 5 23 rfl rfl).trans (hF 5 rfl),hv 6 24 rfl rfl,(hv 7 25 rfl rfl).trans (hF 7 rfl),(hv 8 26 rfl rfl).trans (hF 8 rfl),trivial⟩ (by kernel_rfl)
   replace s:St w [.sl (vl3 6) 69 33 2 (ap [sd n.me z,z.me]),.blk b4 (.cells (aP bz bz au au) 72),.blk b3 (.cells (aP z.me z.pr ws wf) 72),.blk b2 (.cells (aP n.me n.pr vs vf) 72)] _:=s
   refine ja 0 (hZs.keep s.ext) h s aD1 js rfl rfl rfl (jX _) (by unfold maxLen;omega) (by omega) rfl λf w1 v27 h s=>?_
   replace s:=s.resl (m:=(gn n z).length) (ys:=ap (gn n z)) 0 rfl (by show 2+z.sc.length=z.sc.length+1+1;omega) (fF _ _).symm
   refine e9 ac 1 h rfl λf h=>qr (aO (#[.slice none 0 0]) h s IR rfl rfl λf w1 b7 h s=>nt (ah (qr ?_)))
   replace s:=s.nilSl 69 33
   refine al ac 2 h rfl λf h=>ag (ae (aF.of_own s 5 rfl) 0 (kR _ _ _ _)) h bu rfl rfl λf h=>al ac 1 h rfl λf h=>cF [.int .i64 n.me.1,v27] h SG (Kk n.me.1 (gn n z) v27 _ _ _ s (br.of_own (s.getSl 2 rfl))) rfl rfl ?_;rintro f w1 r ⟨bs,bn,rfl,s⟩ h
   replace s:=s.sel [0,1,4,2,3,5,6,7] rfl (by decide)
   refine nt (av9 (eK (λd A9=>∃ v8:Value,A9=[.sl v8 69 33 (jD ((eB n.me.1 (gn n z)).take d)).length (ap (jD ((eB n.me.1 (gn n z)).take d))),.blk b7 (.cells #[v8] 70),.blk b4 (.cells (aP bz bz au au) 72),.blk b3 (.cells (aP z.me z.pr ws wf) 72),.blk b2 (.cells (aP n.me n.pr vs vf) 72)]) [.sl (Value.slice none 0 0) 69 33 0 [],.blk b7 (.cells #[(Value.slice none 0 0)] 70),.blk b4 (.cells (aP bz bz au au) 72),.blk b3 (.cells (aP z.me z.pr ws wf) 72),.blk b2 (.cells (aP n.me n.pr vs vf) 72)] [.blk bs (.cells #[v27] 70),.blk bn (.cells #[.int .i64 n.me.1] 3),.sl v27 69 33 (gn n z).length (ap (gn n z))] ((eB n.me.1 (gn n z)).length) (λ_=>false) (λd=>[Value.agg (ay ((eB n.me.1 (gn n z)).getD d bz))]) h s rfl RZ (List.Perm.refl _) (⟨_,rfl⟩) (λ_=>rfl) ?_ ?_ ?_ ?_))
   ·intro lp w2 GG g0 hg0 s2 hY;exact Gg n.me.1 (gn n z) (by show z.sc.length+1+1<=1000;omega) v27 lp bs bn (λ_=>false) GG g0 w w2 s2 hg0 hY
   ·intro lp D9 d9 rc R9 A9 w2 hd9 hq9 hJ9 s
    obtain ⟨v8,rfl⟩:=hJ9
    have h:=Sl.round1 (p:=33) (V:=.agg (ay ((eB n.me.1 (gn n z)).getD d9 bz))) h rfl
    refine aG (aO (ay bz) h s eV rfl rfl λf w1 b8 h s=>aj 0 h s aY rfl rfl rfl (ai _) (ai _) (bI _) λw1 s=>nt (⟨_,s.perm (ay7 (l₁:=[_])),λw3 s=>?_⟩))
    refine av9 (ah ?_)
    cases g0:(decide ((jD ((eB n.me.1 (gn n z)).take d9)).length<4):Bool)
    ·refine aG (cK 4 h s c7 rfl rfl (rfl) rfl λf h=>f7 3 h s aD1 rfl rfl rfl λf h=>eF ac h rfl (ar6 (by have:=ar5 g0;omega)) λf h=>e9 ac 7 h rfl λf h=>mM h rfl (wpIn_skip (bo ?_)))
     replace s:=s.resl (m:=(jD ((eB n.me.1 (gn n z)).take (d9+1))).length) (ys:=ap (jD ((eB n.me.1 (gn n z)).take (d9+1)))) 3 rfl (by rw [lZ hd9,BH (ar5 g0)]) (by rw [lZ hd9,BH (ar5 g0)])
     refine ⟨rfl,_,⟨v8,rfl⟩,s.pick _ ?_⟩
     exact ar2 _ (ar3 _ (List.Sublist.refl _))
    ·skip
     refine aG (cK 4 h s c7 rfl rfl (rfl) rfl λf h=>f7 3 h s aD1 rfl rfl rfl λf h=>fy ac h rfl (ar7 (by have:=ar4 g0;omega)) λf h=>al ac 1 h rfl λf h=>bF h rfl (cK 4 h s c7 rfl rfl (rfl) rfl λf h=>al ac 1 h rfl λf h=>bF h rfl (ag (ae (aF.of_own s 1 rfl) 0 (cf _)) h bu rfl rfl λf h=>bF h rfl (eC h s LN (uG (jD ((eB n.me.1 (gn n z)).take d9)) v8 ((eB n.me.1 (gn n z)).getD d9 bz).1 _ (br.of_own (s.getSl 3 rfl)) (by have:=Dk ((eB n.me.1 (gn n z)).take d9);omega)) rfl rfl (λg1 f w1 h s=>?_) (λg1 f w1 h s=>?_)))))
     ·refine e9 ac 2 h rfl λf h=>dw h rfl (aG (cK 4 h s c7 rfl rfl (rfl) rfl λf h=>ak 1 h s aY rfl rfl (ai _) rfl λf h=>cU (vs:=[.agg (ay ((eB n.me.1 (gn n z)).getD d9 bz))]) [.tmp 45] h s aD1 js rfl rfl (yf _) rfl rfl rfl λf w1 v46 h s=>ez 4 0 h s aD1 js rfl rfl rfl rfl (by decide) (by rw [oM];exact bI _) (by have:=Dk ((eB n.me.1 (gn n z)).take d9);unfold maxLen;omega) (by have:=Dk ((eB n.me.1 (gn n z)).take d9);omega) rfl λf w1 v47 h s=>?_))
      replace s:=s.pick _ (at7 _ _)
      refine aJ 4 h s c7 rfl rfl rfl (by simp) (aT (s.getSl 3 rfl)) λw1 s=>aw (bo ?_)
      replace s:=s.resl (m:=(jD ((eB n.me.1 (gn n z)).take (d9+1))).length) (ys:=ap (jD ((eB n.me.1 (gn n z)).take (d9+1)))) 3 rfl (by rw [lZ hd9,Ra (ar4 g0) g1,as2];rfl) (by rw [lZ hd9,Ra (ar4 g0) g1,oM,DB])
      refine ⟨rfl,_,⟨v47,rfl⟩,s.pick _ ?_⟩
      exact ar2 _ (ar3 _ (List.Sublist.refl _))
     ·refine e9 ac 2 h rfl λf h=>mM h rfl (wpIn_skip (bo ?_))
      replace s:=s.resl (m:=(jD ((eB n.me.1 (gn n z)).take (d9+1))).length) (ys:=ap (jD ((eB n.me.1 (gn n z)).take (d9+1)))) 3 rfl (by rw [lZ hd9,Kf g1]) (by rw [lZ hd9,Kf g1])
      refine ⟨rfl,_,⟨v8,rfl⟩,s.pick _ ?_⟩
      exact ar2 _ (ar3 _ (List.Sublist.refl _))
   ·intro D9 A9 w2 hJ9 hq9 s
    obtain ⟨v8,rfl⟩:=hJ9
    replace h:Sl _ {f with defers:={target:=.collected D9,args:=#[]}::f.defers} _ [{target:=.collected D9,args:=#[]}]:=⟨h.size,by rw [h.defers],h.holds⟩
    rw [List.take_length] at s
    refine bo (aK (qr (ak 8 h s bS rfl rfl (aq _ _ _ _) rfl λf h=>bB h s B5 (mX n vs vf _ (hRs.keep s.ext) (hRf.keep s.ext) (by omega) (by omega)) rfl rfl ?_)));rintro f w1 v49 ⟨us,uf,rfl,hS⟩ hE h sq;replace s:=s.add hS
    refine aj 10 h s bS rfl rfl rfl (aq _ _ _ _) (aq _ _ _ _) (bP (aT (s.getSl 0 rfl)) (aT (s.getSl 1 rfl))) λw1 s=>nt (qr (cK 7 h s c7 rfl rfl (rfl) rfl λf h=>al ac 1 h rfl λf h=>az (aF.subL (aF.of_own s 10 rfl) 0 33 (D:=ay n.me) (cN _ _ _ _)) h aY rfl (ai _) rfl λf h=>?_))
    replace s:=(s.sel [6,0,1,2,3,4,5,7,8,9,10] rfl (by decide))
    refine cF [v8,.agg (ay n.me)] h II (py (jD (eB n.me.1 (gn n z))) v8 n.me _ _ _ s) rfl rfl ?_;rintro f w1 v53 s h
    refine al ac 1 h rfl λf h=>aJ 10 h s c7 rfl rfl rfl (by rw [aq];omega) (aT (s.getSl 0 rfl)) λw1 s=>?_
    replace s:=s.recell (D:=aP n.me n.pr v53 uf) 10 rfl (nu _ _ _ _ _)
    refine nt (qr (ak 10 h s bS rfl rfl (aq _ _ _ _) rfl λf h=>aj 8 h s bS rfl rfl rfl (aq _ _ _ _) (aq _ _ _ _) (bP (aT (s.getSl 0 rfl)) (aT (s.getSl 2 rfl))) λw1 s=>e9 ac 1 h rfl λf h=>av8 ?_))
    exact nR 8 3 rfl h s bS rfl rfl rfl rfl (aq _ _ _ _) (λw9 s9=>ke (Ec hrt hz).1 (Ec hrt hz).2 (s9.sel [0,2] rfl (by decide)))
   ·intro D9 d9 A9 w2 hd9 hqd9 hq9 hJ9 s
    cases hqd9
theorem rG (n:Nd) (vs vf:Value) (x:Mb) (w:World) (hRs:br w vs 33 n.sc.length (ap n.sc)) (hRf:br w vf 33 n.fg.length (ap n.fg)) (hns:n.sc.length<=1000) (hnf:n.fg.length<=1000):Calls Tryz.prog 215 [.agg (aP n.me n.pr vs vf),.agg (ay x)].toArray w (cd w (BR w 69 (UI n x) (UQ n x))):=by
 refine bN Tryz.func215 rfl Tryz.ntmps215 rfl λf h s=>qr (aZ (aP n.me n.pr vs vf) h s rfl rfl rfl λf w1 b2 h s=>aZ ((ay x)) h s rfl rfl rfl λf w1 b3 h s=>aO (aP bz bz au au) h s jJ rfl rfl λf w1 b4 h s=>e9 ac 1 h rfl λf h=>ah (ah ?_))
 refine aG (ak 2 h s bS rfl rfl (aq _ _ _ _) rfl λf h=>eC h s rL (gi n vs vf _ (hRs.keep s.ext) (hRf.keep s.ext) hns hnf) rfl rfl (λhr f w1 h s=>?_) (λhr f w1 h s=>?_))
 ·refine e9 ac 6 h rfl λf h=>dw h rfl (qr (am h (fM Cg) rfl λf h=>aj 0 h s bS rfl rfl rfl (aq _ _ _ _) (aq _ _ _ _) (bP (rfl) (rfl)) λw1 s=>e9 ac 1 h rfl λf h=>rt (bL 0 rfl h s bS rfl rfl (aq _ _ _ _) rfl (pi s (L8 hr).1 (L8 hr).2))))
 ·skip
  refine al ac 2 h rfl λf h=>bF h rfl (ak 1 h s aY rfl rfl (ai _) rfl λf h=>bF h rfl (eC h s mB (iF x _) rfl rfl (λhx f w1 h s=>?_) (λhx f w1 h s=>?_)))
  ·refine e9 ac 2 h rfl λf h=>dw h rfl (qr (am h (fM Cg) rfl λf h=>aj 0 h s bS rfl rfl rfl (aq _ _ _ _) (aq _ _ _ _) (bP (rfl) (rfl)) λw1 s=>e9 ac 1 h rfl λf h=>rt (bL 0 rfl h s bS rfl rfl (aq _ _ _ _) rfl (pi s (Hu hx).1 (Hu hx).2))))
  ·refine e9 ac 2 h rfl λf h=>mQ h rfl (qr (ak 2 h s bS rfl rfl (aq _ _ _ _) rfl λf h=>bB h s B5 (mX n vs vf _ (hRs.keep s.ext) (hRf.keep s.ext) hns hnf) rfl rfl ?_));rintro f w1 v17 ⟨us,uf,rfl,hS⟩ hE h sq;replace s:=s.add hS
   refine aj 4 h s bS rfl rfl rfl (aq _ _ _ _) (aq _ _ _ _) (bP (aT (s.getSl 0 rfl)) (aT (s.getSl 1 rfl))) λw1 s=>nt (ah ?_)
   refine rs ac 1 h rfl λf h=>ag (ae (aF.of_own s 3 rfl) 0 (cf _)) h bu rfl rfl λf h=>al ac 2 h rfl λf h=>ag (ae (aF.of_own s 4 rfl) 0 (kR _ _ _ _)) h bu rfl rfl λf h=>iV ac h rfl (λg0 f h=>?_) (λg0 f h=>?_)
   ·refine e9 ac 9 h rfl λf h=>ah (ah (cQ 18 h (by kernel_rfl) (ar ac 18 h rfl λf h=>bK s λw1 s=>fL h rfl (qr (ak 4 h s bS rfl rfl (aq _ _ _ _) rfl λf h=>aj 2 h s bS rfl rfl rfl (aq _ _ _ _) (aq _ _ _ _) (bP (aT (s.getSl 0 rfl)) (aT (s.getSl 1 rfl))) λw1 s=>e9 ac 1 h rfl λf h=>av8 (bL 2 rfl h s bS rfl rfl (aq _ _ _ _) rfl (ke ((kw hr hx).1.trans (by rw [Qu g0])) (kw hr hx).2 (s.pick _ (ar2 _ (ar2 _ (ar3 _ (ar3 _ (ar3 _ (at5 _))))))))))))))
   ·skip
    cases g1:(decide (x.2≠n.me.2):Bool)
    ·refine al ac 2 h rfl λf h=>bF h rfl (az (aF.subL (aF.of_own s 3 rfl) 1 32 (D:=aI (_)) (c8 _)) h ca rfl (by first|exact aC _|exact aB _ _) rfl λf h=>al ac 2 h rfl λf h=>bF h rfl (az (aF.subL (aF.of_own s 4 rfl) 1 32 (D:=aI n.me.2) (gE _ _ _ _)) h ca rfl (by first|exact aC _|exact aB _ _) rfl λf h=>bF h rfl (am h (a8 (.bool false) (lW fE (h.ev rfl) (h.ev rfl)) (ar8 Value.bool g1)) rfl λf h=>e9 ac 2 h rfl λf h=>ah (ah (cQ 18 h (by kernel_rfl) (ar ac 18 h rfl λf h=>bK s λw1 s=>fL h rfl (qr (ak 4 h s bS rfl rfl (aq _ _ _ _) rfl λf h=>aj 2 h s bS rfl rfl rfl (aq _ _ _ _) (aq _ _ _ _) (bP (aT (s.getSl 0 rfl)) (aT (s.getSl 1 rfl))) λw1 s=>e9 ac 1 h rfl λf h=>av8 (bL 2 rfl h s bS rfl rfl (aq _ _ _ _) rfl (ke ((kw hr hx).1.trans (by rw [V3 g1])) (kw hr hx).2 (s.pick _ (ar2 _ (ar2 _ (ar3 _ (ar3 _ (ar3 _ (at5 _)))))))))))))))))
    ·refine al ac 2 h rfl λf h=>bF h rfl (az (aF.subL (aF.of_own s 3 rfl) 1 32 (D:=aI (_)) (c8 _)) h ca rfl (by first|exact aC _|exact aB _ _) rfl λf h=>al ac 2 h rfl λf h=>bF h rfl (az (aF.subL (aF.of_own s 4 rfl) 1 32 (D:=aI n.me.2) (gE _ _ _ _)) h ca rfl (by first|exact aC _|exact aB _ _) rfl λf h=>bF h rfl (am h (a8 (.bool true) (lW fE (h.ev rfl) (h.ev rfl)) (ar8 Value.bool g1)) rfl λf h=>e9 ac 2 h rfl λf h=>ah (ah ?_))))
     cases q0:(decide (n.pr=fe):Bool)
     ·skip
      cases q1:(x8 x.2 n.pr.2 n.me.2:Bool)
      ·refine cQ 18 h (by kernel_rfl) (ar ac 3 h rfl λf h=>bD h rfl (aE (aF.subL (aF.of_own s 4 rfl) 33 33 (D:=ay n.pr) (fm _ _ _ _)) h aY rfl (ai _) rfl λf h=>bD h rfl (bj h jk (λw9 hE9=>f8 w9) rfl rfl λf h=>bD h rfl (av h (a8 (.bool false) (dS (uW _ _) (by kernel_rfl) (by decide) (h.ev rfl) (h.ev rfl) (decide (n.pr=fe)) (jC _ _)) (ar8 Value.bool q0)) rfl λf h=>ar ac 2 h rfl λf h=>bD h rfl (aE (aF.subL (aF.of_own s 3 rfl) 1 32 (D:=aI (_)) (c8 _)) h ca rfl (by first|exact aC _|exact aB _ _) rfl λf h=>ar ac 2 h rfl λf h=>bD h rfl (aE (aF.subL (aF.of_own s 4 rfl) 34 32 (D:=aI n.pr.2) (uM _ _ _ _)) h ca rfl (by first|exact aC _|exact aB _ _) rfl λf h=>ar ac 2 h rfl λf h=>bD h rfl (aE (aF.subL (aF.of_own s 4 rfl) 1 32 (D:=aI n.me.2) (gE _ _ _ _)) h ca rfl (by first|exact aC _|exact aB _ _) rfl λf h=>bD h rfl (bj h CG (λw9 hE9=>a6 (.bool false) (A4 _ _ _ w9) (ar8 Value.bool q1)) rfl rfl λf h=>ar ac 2 h rfl λf h=>bK s λw1 s=>fL h rfl (qr (ak 4 h s bS rfl rfl (aq _ _ _ _) rfl λf h=>aj 2 h s bS rfl rfl rfl (aq _ _ _ _) (aq _ _ _ _) (bP (aT (s.getSl 0 rfl)) (aT (s.getSl 1 rfl))) λw1 s=>e9 ac 1 h rfl λf h=>av8 (bL 2 rfl h s bS rfl rfl (aq _ _ _ _) rfl (ke ((kw hr hx).1.trans (by rw [XS q0 q1])) (kw hr hx).2 (s.pick _ (ar2 _ (ar2 _ (ar3 _ (ar3 _ (ar3 _ (at5 _)))))))))))))))))))
      ·refine cQ 18 h (by kernel_rfl) (ar ac 3 h rfl λf h=>bD h rfl (aE (aF.subL (aF.of_own s 4 rfl) 33 33 (D:=ay n.pr) (fm _ _ _ _)) h aY rfl (ai _) rfl λf h=>bD h rfl (bj h jk (λw9 hE9=>f8 w9) rfl rfl λf h=>bD h rfl (av h (a8 (.bool false) (dS (uW _ _) (by kernel_rfl) (by decide) (h.ev rfl) (h.ev rfl) (decide (n.pr=fe)) (jC _ _)) (ar8 Value.bool q0)) rfl λf h=>ar ac 2 h rfl λf h=>bD h rfl (aE (aF.subL (aF.of_own s 3 rfl) 1 32 (D:=aI (_)) (c8 _)) h ca rfl (by first|exact aC _|exact aB _ _) rfl λf h=>ar ac 2 h rfl λf h=>bD h rfl (aE (aF.subL (aF.of_own s 4 rfl) 34 32 (D:=aI n.pr.2) (uM _ _ _ _)) h ca rfl (by first|exact aC _|exact aB _ _) rfl λf h=>ar ac 2 h rfl λf h=>bD h rfl (aE (aF.subL (aF.of_own s 4 rfl) 1 32 (D:=aI n.me.2) (gE _ _ _ _)) h ca rfl (by first|exact aC _|exact aB _ _) rfl λf h=>bD h rfl (bj h CG (λw9 hE9=>a6 (.bool true) (A4 _ _ _ w9) (ar8 Value.bool q1)) rfl rfl λf h=>ar ac 2 h rfl λf h=>bK s λw1 s=>gh h rfl (aG (ak 3 h s aY rfl rfl (ai _) rfl λf h=>al ac 1 h rfl λf h=>eg 4 h s aY rfl rfl rfl (ai _) (by rw [aq];omega) (bI _) λw1 s=>?_))))))))))
       replace s:=s.recell (D:=aP n.me x us uf) 4 rfl (qq _ _ _ _ _)
       refine nt (qr (ak 4 h s bS rfl rfl (aq _ _ _ _) rfl λf h=>aj 2 h s bS rfl rfl rfl (aq _ _ _ _) (aq _ _ _ _) (bP (aT (s.getSl 0 rfl)) (aT (s.getSl 1 rfl))) λw1 s=>e9 ac 1 h rfl λf h=>av8 (bL 2 rfl h s bS rfl rfl (aq _ _ _ _) rfl (ke ((kw hr hx).1.trans (by rw [Zf g0 g1 q0 q1])) (kw hr hx).2 (s.pick _ (ar2 _ (ar2 _ (ar3 _ (ar3 _ (ar3 _ (at5 _)))))))))))
     ·refine cQ 18 h (by kernel_rfl) (ar ac 3 h rfl λf h=>bD h rfl (aE (aF.subL (aF.of_own s 4 rfl) 33 33 (D:=ay n.pr) (fm _ _ _ _)) h aY rfl (ai _) rfl λf h=>bD h rfl (bj h jk (λw9 hE9=>f8 w9) rfl rfl λf h=>bD h rfl (av h (a8 (.bool true) (dS (uW _ _) (by kernel_rfl) (by decide) (h.ev rfl) (h.ev rfl) (decide (n.pr=fe)) (jC _ _)) (ar8 Value.bool q0)) rfl λf h=>ar ac 12 h rfl λf h=>bK s λw1 s=>gh h rfl (aG (ak 3 h s aY rfl rfl (ai _) rfl λf h=>al ac 1 h rfl λf h=>eg 4 h s aY rfl rfl rfl (ai _) (by rw [aq];omega) (bI _) λw1 s=>?_))))))
      replace s:=s.recell (D:=aP n.me x us uf) 4 rfl (qq _ _ _ _ _)
      refine nt (qr (ak 4 h s bS rfl rfl (aq _ _ _ _) rfl λf h=>aj 2 h s bS rfl rfl rfl (aq _ _ _ _) (aq _ _ _ _) (bP (aT (s.getSl 0 rfl)) (aT (s.getSl 1 rfl))) λw1 s=>e9 ac 1 h rfl λf h=>av8 (bL 2 rfl h s bS rfl rfl (aq _ _ _ _) rfl (ke ((kw hr hx).1.trans (by rw [YL g0 g1 q0])) (kw hr hx).2 (s.pick _ (ar2 _ (ar2 _ (ar3 _ (ar3 _ (ar3 _ (at5 _)))))))))))
end Go.Proofs.YtkhepdpfdhdlaaaGreatDoor
