/- Package mail and what it stands on, so far as it is wanted: what each function answers. -/
import Derived.Test.YtkhepdpfdhdlaaaGreatDoorCon
set_option linter.unusedVariables false
set_option linter.unusedSimpArgs false
set_option linter.unusedSectionVars false
namespace Go.Proofs.YtkhepdpfdhdlaaaGreatDoor
open Go.RowKit
theorem EE (n:Int) (w:World):Calls Tryz.prog 31 [.int .i64 n].toArray w (cd w (is (.bool (GQ n)))):=by
 refine bN Tryz.func31 rfl Tryz.ntmps31 rfl λf h s=>bJ ac 1 h rfl λf h=>ah ?_
 refine rs ac 1 h rfl λf h=>iV ac h rfl (λh0 f h=>?_) (λh0 f h=>?_)
 ·refine e9 ac 5 h rfl λf h=>av8 (aA rfl h s rfl (by show _=_;unfold GQ;rw [h0];rfl))
 ·refine e9 ac 5 h rfl λf h=>av8 (aA rfl h s rfl (by show _=_;unfold GQ;rw [h0];rfl))
theorem nh (m:Ml) (v9:Value) (B9:List Own) (w0 w:World) (s:St w0 B9 w):Calls Tryz.prog 32 [.agg (bH m v9)].toArray w (λe w9=>∃ r,e=.returned r/\∃ bx,r=.func (.func 70) #[] #[.pointer (some ⟨bx,0,none⟩)]/\St w0 (.blk bx (.cells (bH m v9) 29)::B9) w9):=by
 refine cO Tryz.func32 rfl Tryz.ntmps32 rfl [(0,.agg (bH m v9))] (by simp) λf h=>?_
 refine qr (aZ ((bH m v9)) h s rfl rfl rfl λf w1 b1 h s=>e9 ac 1 h rfl λf h=>qr (am h (dF [.pointer (some ⟨b1,0,none⟩)] (kQ h rfl)) rfl λf h=>e9 ac 1 h rfl λf h=>av8 (dG rfl h rfl (⟨_,rfl,b1,rfl,s⟩))))
theorem o4 (m:Ml) (hln:m.l.length<=1000) (v9:Value) (lp bx:Nat) (q:Nat->Bool) (GG:Nat->Own->Prop) (g0:Own) (w0 w:World) (s:St w0 [.blk bx (.cells (bH m v9) 29),g0] w) (hg0:GG 0 g0) (hR:br w0 v9 4 m.l.length (bw m.l)) (hY:∀ (d:Nat) (B9:List Own) (w9:World) (i:Nat) (g:Own),d<m.l.length->(∀ j,j<d->q j=false)->GG d g->St w0 B9 w9->B9[i]? = some g->lf Tryz.prog lp [Value.int .i64 (d:Int),.agg (bZ (m.l.getD d gq))].toArray w9 (λv w2=>v=.bool (!q d)/\∃ g',GG (d+1) g'/\St w0 (B9.set i g') w2)):Calls Tryz.prog 70 [.func (.yield lp) #[] #[],.pointer (some ⟨bx,0,none⟩)].toArray w (λe w9=>(∃ v,e=.returned v)/\∃ d g,GG d g/\St w0 ([.blk bx (.cells (bH m v9) 29)]++[g]) w9/\d<=m.l.length/\(∀ j,j+1<d->q j=false)/\(lq q d=false->d=m.l.length)):=by
 refine cO Tryz.func70 rfl Tryz.ntmps70 rfl [(0,.func (.yield lp) #[] #[]),(1,.pointer (some ⟨bx,0,none⟩))] (by simp) λf h=>?_
 refine cw ac 1 h rfl λf h=>ag (ae (aF.of_own s 0 rfl) 0 (rfl)) h fh rfl rfl λf h=>bT h (hR.keep s.ext) aC3 rfl rfl λf h=>e9 ac 1 h rfl λf h=>av9 (aw1 (λnn aa ww=>∃ d:Nat,∃ gg:Own,Sl 19 aa [(0,.func (.yield lp) #[] #[]),(1,.pointer (some ⟨bx,0,none⟩)),(6,v9),(7,.int .i64 (m.l.length:Int)),(8,.int .i64 (d:Int))]/\St w0 [.blk bx (.cells (bH m v9) 29),(gg)] ww/\nn=m.l.length - d/\d<=m.l.length/\GG d gg/\∀ j,j<d->q j=false) (m.l.length - (0)) ⟨0,g0,h.only ⟨rfl,rfl,rfl,rfl,aD rfl (by omega),trivial⟩,s.as ⟨rfl,rfl,trivial⟩,rfl,at8 _,hg0,λj hj=>az2 hj (ax1 _)⟩ ?_)
 rintro _ f w1 ⟨d,gg,h,s,hnn,hp0,hp1,hp2⟩
 refine bJ ac 1 h rfl λf h=>ah (dA h rfl (λhc=>?_) (λhc=>?_))
 ·refine kt (ah (av9 (cw ac 1 h rfl λf h=>?_)))
  have hdl:d<m.l.length:=by omega
  refine am h (bg (hR.keep s.ext) (d) aC3 yP (h.ev rfl) (h.ev rfl) (by omega) (by omega)) rfl λf h=>az ((hR.keep s.ext).el (d) (by omega) (by decide) (D:=bZ (m.l.getD d gq)) ((zE m.l d hdl).trans (Y4 hdl))) h ej rfl (rfl) rfl λf h=>aO (bZ gq) h s jj rfl rfl λf w1 b4 h s=>al ac 1 h rfl λf h=>aj 0 h s ej rfl rfl rfl (rfl) (rfl) (dd _) λw1 s=>nt (ah ?_)
  cases hq:(q d:Bool)
  ·refine rs ac 2 h rfl λf h=>ak 0 h s ej rfl rfl (rfl) rfl λf h=>ij (V:=.bool true) (G:=GG (d+1)) [.int .i64 (d:Int),.agg (bZ (m.l.getD d gq))] 2 h rfl rfl (by have h9:=hY d _ _ 2 gg hdl hp2 hp1 s rfl;rw [hq] at h9;exact h9) rfl ?_;intro f w1 g1 hg1 h s
   refine e9 ac 1 h rfl λf h=>mM h rfl (wpIn_skip (bo (aK (aG (am h (bY (h.ev rfl) (h.ev rfl) (by omega)) rfl λf h=>e9 ac 1 h rfl λf h=>?_)))))
   exact ⟨_,by omega,⟨d+1,g1,h.only ⟨rfl,rfl,rfl,rfl,aD rfl (by omega),trivial⟩,St.as (s.pick _ (at3 [_] _)) ⟨rfl,rfl,trivial⟩,rfl,by omega,hg1,gY hp2 hq⟩⟩
  ·refine rs ac 2 h rfl λf h=>ak 0 h s ej rfl rfl (rfl) rfl λf h=>ij (V:=.bool false) (G:=GG (d+1)) [.int .i64 (d:Int),.agg (bZ (m.l.getD d gq))] 2 h rfl rfl (by have h9:=hY d _ _ 2 gg hdl hp2 hp1 s rfl;rw [hq] at h9;exact h9) rfl ?_;intro f w1 g1 hg1 h s
   refine e9 ac 1 h rfl λf h=>dw h rfl (av8 (bh (aU (aU (bh ?_)))))
   exact ol rfl h (⟨⟨_,rfl⟩,d+1,g1,hg1,s.pick _ (at7 _ _),by omega,λj hj=>hp2 j (by omega),λh9=>az2 (hq.symm.trans h9) (by decide)⟩)
 ·refine aw0 (ba (ba (cj ?_)))
  exact ex rfl h (⟨⟨_,rfl⟩,d,gg,hp1,s,hp0,λj hj=>hp2 j (by omega),λ_=>by omega⟩)
theorem qo (n:Int) (w:World):Calls Tryz.prog 33 [.int .i64 n].toArray w (cd w (is (.bool (pS n)))):=by
 refine bN Tryz.func33 rfl Tryz.ntmps33 rfl λf h s=>bJ ac 1 h rfl λf h=>ah ?_
 refine rs ac 1 h rfl λf h=>iV ac h rfl (λh0 f h=>?_) (λh0 f h=>?_)
 ·refine e9 ac 5 h rfl λf h=>av8 (aA rfl h s rfl (by show _=_;unfold pS;rw [h0];rfl))
 ·refine e9 ac 5 h rfl λf h=>av8 (aA rfl h s rfl (by show _=_;unfold pS;rw [h0];rfl))
theorem gP (m:Ml) (v9:Value) (w:World) (hR:br w v9 4 m.l.length (bw m.l)) (hln:m.l.length<=1000):Calls Tryz.prog 17 [.agg (bH m v9)].toArray w (cd w (is (.bool (cn m)))):=by
 refine ff Tryz.func17 rfl Tryz.ntmps17 rfl [(0,.agg (bH m v9))] (by simp) λf h=>?_
 have s:=St.start w
 refine qr (aZ ((bH m v9)) h s rfl rfl rfl λf w1 b1 h s=>aO (#[.bool false]) h s Ew rfl rfl λf w1 b2 h s=>nt (ah (ah ?_)))
 cases h0:(decide (m.l.length<=64):Bool)
 ·refine rs ac 1 h rfl λf h=>ag (ae (aF.of_own s 1 rfl) 0 (rfl)) h fh rfl rfl λf h=>bT h (hR.keep s.ext) aC3 rfl rfl λf h=>fy ac h rfl (ar7 (by have:=ar5 h0;omega)) λf h=>e9 ac 12 h rfl λf h=>dw h rfl (qr (aJ 0 h s di rfl rfl rfl (by simp) (rfl) λw1 s=>nt (rt ?_)))
  exact kM 0 rfl h s di rfl rfl rfl (λw9=>by show _=_;rw [Gs h0];rfl)
 ·skip
  refine rs ac 1 h rfl λf h=>ag (ae (aF.of_own s 1 rfl) 0 (rfl)) h fh rfl rfl λf h=>bT h (hR.keep s.ext) aC3 rfl rfl λf h=>eF ac h rfl (ar6 (by have:=ar4 h0;omega)) λf h=>al ac 2 h rfl λf h=>bF h rfl (ag (ae (aF.of_own s 1 rfl) 1 (rfl)) h bu rfl rfl λf h=>bF h rfl (eC h s Q1 (EE _ _) rfl rfl (λh1 f w1 h s=>?_) (λh1 f w1 h s=>?_)))
  ·refine e9 ac 8 h rfl λf h=>dw h rfl (qr (aJ 0 h s di rfl rfl rfl (by simp) (rfl) λw1 s=>nt (rt ?_)))
   exact kM 0 rfl h s di rfl rfl rfl (λw9=>by show _=_;rw [FS h1];rfl)
  ·skip
   refine al ac 4 h rfl λf h=>bF h rfl (ag (ae (aF.of_own s 1 rfl) 2 (rfl)) h bu rfl rfl λf h=>bF h rfl (eC h s Q1 (EE _ _) rfl rfl (λh2 f w1 h s=>?_) (λh2 f w1 h s=>?_)))
   ·refine e9 ac 2 h rfl λf h=>dw h rfl (qr (aJ 0 h s di rfl rfl rfl (by simp) (rfl) λw1 s=>nt (rt ?_)))
    exact kM 0 rfl h s di rfl rfl rfl (λw9=>by show _=_;rw [Gh h2];rfl)
   ·refine e9 ac 2 h rfl λf h=>mQ h rfl (ah (qr (ak 1 h s bV rfl rfl (rfl) rfl λf h=>cF [.agg (bH m v9)] h HF (nh m v9 _ _ _ s) rfl rfl ?_)));rintro f w1 r ⟨bx,rfl,s⟩ h
    refine nt (av9 (eK (λ_ A9=>A9=[.blk b2 (.cells #[.bool false] 4),.blk b1 (.cells (bH m v9) 29)]) [.blk b2 (.cells #[.bool false] 4),.blk b1 (.cells (bH m v9) 29)] [.blk bx (.cells (bH m v9) 29)] (m.l.length) (F2 m) (λd=>[Value.int .i64 (d:Int),.agg (bZ (m.l.getD d gq))]) h s rfl Kl (List.Perm.refl _) (rfl) (λ_=>rfl) ?_ ?_ ?_ ?_))
    ·intro lp w2 GG g0 hg0 s2 hY;exact o4 m hln v9 lp bx (F2 m) GG g0 w w2 s2 hg0 hR hY
    ·intro lp D9 d9 rc R9 A9 w2 hd9 hq9 hJ9 s
     obtain rfl:=hJ9
     have h:=Sl.round2 (p:=23) (q:=24) (V:=.int .i64 (d9:Int)) (U:=.agg (bZ (m.l.getD d9 gq))) h rfl rfl
     refine aG (aO (bZ gq) h s jj rfl rfl λf w1 b4 h s=>aj 0 h s ej rfl rfl rfl (rfl) (rfl) (dd _) λw1 s=>nt (⟨_,s.perm (ay7 (l₁:=[_])),λw3 s=>?_⟩))
     refine av9 (ah ?_)
     refine rs ac 1 h rfl λf h=>ag (ae (aF.of_own s 1 rfl) 0 (rfl)) h bu rfl rfl λf h=>iV ac h rfl (λk0 f h=>?_) (λk0 f h=>?_)
     ·skip
      refine al ac 2 h rfl λf h=>bF h rfl (ag (ae (aF.of_own s 1 rfl) 0 (rfl)) h bu rfl rfl λf h=>al ac 1 h rfl λf h=>bF h rfl (ag (ae (aF.of_own s 4 rfl) 1 (rfl)) h bu rfl rfl λf h=>bF h rfl (iV ac h rfl (λk1 f h=>?_) (λk1 f h=>?_))))
      ·skip
       refine al ac 3 h rfl λf h=>bF h rfl (ag (ae (aF.of_own s 1 rfl) 1 (rfl)) h bu rfl rfl λf h=>bF h rfl (eC h s EM (qo _ _) rfl rfl (λk2 f w1 h s=>?_) (λk2 f w1 h s=>?_)))
       ·refine e9 ac 14 h rfl λf h=>dw h rfl (qr (aJ 3 h s di rfl rfl rfl (by simp) (rfl) λw1 s=>nt (av8 (bh (⟨by show lC _ _=_;unfold lC;simp only [k0,k1,k2,Bool.true_or,Bool.false_or,Bool.or_true,Bool.not_false,Bool.not_true],_,rfl,s.pick _ ?_⟩)))))
        exact ar2 _ (ar3 _ (List.Sublist.refl _))
       ·skip
        refine al ac 4 h rfl λf h=>bF h rfl (ag (ae (aF.of_own s 1 rfl) 2 (rfl)) h bu rfl rfl λf h=>bF h rfl (eC h s EM (qo _ _) rfl rfl (λk3 f w1 h s=>?_) (λk3 f w1 h s=>?_)))
        ·refine e9 ac 8 h rfl λf h=>dw h rfl (qr (aJ 3 h s di rfl rfl rfl (by simp) (rfl) λw1 s=>nt (av8 (bh (⟨by show lC _ _=_;unfold lC;simp only [k0,k1,k2,k3,Bool.true_or,Bool.false_or,Bool.or_true,Bool.not_false,Bool.not_true],_,rfl,s.pick _ ?_⟩)))))
         exact ar2 _ (ar3 _ (List.Sublist.refl _))
        ·skip
         cases k4:(decide (300<(m.l.getD d9 gq).2.2.2.size):Bool)
         ·refine al ac 4 h rfl λf h=>bF h rfl (ag (ae (aF.of_own s 1 rfl) 3 (rfl)) h gK rfl rfl λf h=>bF h rfl (am h (dX aB9 (h.ev rfl)) rfl λf h=>bF h rfl (eF ac h rfl (ar6 (by have:=ar5 k4;omega)) λf h=>e9 ac 1 h rfl λf h=>mM h rfl (wpIn_skip (bo (⟨by show lC _ _=_;unfold lC;simp only [k0,k1,k2,k3,k4,Bool.true_or,Bool.false_or,Bool.or_true,Bool.not_false,Bool.not_true],_,rfl,s.pick _ ?_⟩))))))
          exact ar2 _ (ar3 _ (List.Sublist.refl _))
         ·refine al ac 4 h rfl λf h=>bF h rfl (ag (ae (aF.of_own s 1 rfl) 3 (rfl)) h gK rfl rfl λf h=>bF h rfl (am h (dX aB9 (h.ev rfl)) rfl λf h=>bF h rfl (fy ac h rfl (ar7 (by have:=ar4 k4;omega)) λf h=>e9 ac 1 h rfl λf h=>dw h rfl (qr (aJ 3 h s di rfl rfl rfl (by simp) (rfl) λw1 s=>nt (av8 (bh (⟨by show lC _ _=_;unfold lC;simp only [k0,k1,k2,k3,k4,Bool.true_or,Bool.false_or,Bool.or_true,Bool.not_false,Bool.not_true],_,rfl,s.pick _ ?_⟩))))))))
          exact ar2 _ (ar3 _ (List.Sublist.refl _))
      ·refine e9 ac 19 h rfl λf h=>dw h rfl (qr (aJ 3 h s di rfl rfl rfl (by simp) (rfl) λw1 s=>nt (av8 (bh (⟨by show lC _ _=_;unfold lC;simp only [k0,k1,Bool.true_or,Bool.false_or,Bool.or_true,Bool.not_false,Bool.not_true],_,rfl,s.pick _ ?_⟩)))))
       exact ar2 _ (ar3 _ (List.Sublist.refl _))
     ·refine e9 ac 25 h rfl λf h=>dw h rfl (qr (aJ 3 h s di rfl rfl rfl (by simp) (rfl) λw1 s=>nt (av8 (bh (⟨by show lC _ _=_;unfold lC;simp only [k0,Bool.true_or,Bool.false_or,Bool.or_true,Bool.not_false,Bool.not_true],_,rfl,s.pick _ ?_⟩)))))
      exact ar2 _ (ar3 _ (List.Sublist.refl _))
    ·intro D9 A9 w2 hJ9 hq9 s
     obtain rfl:=hJ9
     replace h:Sl _ {f with defers:={target:=.collected D9,args:=#[]}::f.defers} _ [{target:=.collected D9,args:=#[]}]:=⟨h.size,by rw [h.defers],h.holds⟩
     refine bo (aK (qr (aJ 2 h s di rfl rfl rfl (by simp) (rfl) λw1 s=>nt (av8 ?_))))
     exact g5 2 0 rfl h s di rfl rfl rfl rfl rfl (λw9=>by show _=_;rw [BT h0 h1 h2 hq9];rfl)
    ·intro D9 d9 A9 w2 hd9 hqd9 hq9 hJ9 s
     obtain rfl:=hJ9
     replace h:Sl _ {f with defers:={target:=.collected D9,args:=#[]}::f.defers} _ [{target:=.collected D9,args:=#[]}]:=⟨h.size,by rw [h.defers],h.holds⟩
     refine bh (aU ?_)
     exact g5 2 0 rfl h s di rfl rfl rfl rfl rfl (λw9=>by show _=_;rw [CJ hd9 hqd9];rfl)
theorem LF (l:List Lt) (hln:l.length<=1000) (a9:Option Addr) (n9 c9:Nat) (w:World) (hR:br w (.slice a9 n9 c9) 4 l.length (bw l)):Calls Tryz.prog 57 [.slice a9 n9 c9].toArray w (cd w (λv w'=>cI w' w.heap.size 61 4 v l.length (bw l))):=by
 refine bN Tryz.func57 rfl Tryz.ntmps57 rfl λf h s=>bJ ac 1 h rfl λf h=>ah (ah ?_)
 cases hn:(a9.isNone:Bool)
 ·refine rs ac 1 h rfl λf h=>am h (a8 (.bool false) (cq aC3 (h.ev rfl) (h.ev rfl)) (ar8 Value.bool hn)) rfl λf h=>fL h rfl (qr (fo (base:=w.heap.size) h aC3 t7 (at6 _) rfl λf w2 v5 h hE3 e5=>al ac 1 h rfl λf h=>dQ (base:=w.heap.size) e5 (hR.keep hE3) h aC3 t7 rfl rfl hE3.le (w6 _) (by unfold maxLen;omega) (by omega) rfl λf w3 v7 h hE4 e7=>?_))
  replace s:=s.sl_new (hE3.trans hE4) e7
  refine e9 ac 1 h rfl λf h=>av8 (aA rfl h s rfl (s.getSl 0 rfl))
 ·refine rs ac 1 h rfl λf h=>am h (a8 (.bool true) (cq aC3 (h.ev rfl) (h.ev rfl)) (ar8 Value.bool hn)) rfl λf h=>gh h rfl (bJ ac 1 h rfl λf h=>rt (aA rfl h s rfl (by obtain rfl:=EX hn hR;exact d6 _ _ _ _)))
theorem pf (l:List Lt) (hln:l.length<=1000) (v9:Value) (w:World) (hR:br w v9 4 l.length (bw l)):Calls Tryz.prog 57 [v9].toArray w (cd w (λv w'=>cI w' w.heap.size 61 4 v l.length (bw l))):=by
 obtain ⟨a,c,rfl⟩:=hR.len
 exact LF l hln a _ c w hR
theorem nT (m:Ml) (v9:Value) (w:World) (hR:br w v9 4 m.l.length (bw m.l)) (hln:m.l.length<=1000):Calls Tryz.prog 177 [.agg (bH m v9)].toArray w (cd w (is (.bool (decide (m.l.length=64))))):=by
 refine bN Tryz.func177 rfl Tryz.ntmps177 rfl λf h s=>qr (aZ ((bH m v9)) h s rfl rfl rfl λf w1 b1 h s=>e9 ac 1 h rfl λf h=>cw ac 1 h rfl λf h=>ag (ae (aF.of_own s 0 rfl) 0 (rfl)) h fh rfl rfl λf h=>bT h (hR.keep s.ext) aC3 rfl rfl λf h=>lr ac (.bool (decide (m.l.length=64))) h rfl (ar8 Value.bool (as8.2 (by omega))) rfl λf h=>e9 ac 1 h rfl λf h=>av8 (aA rfl h s rfl (rfl)))
theorem mY (m:Ml) (v9:Value) (x:Lt) (w:World) (hR:br w v9 4 m.l.length (bw m.l)) (hln:m.l.length<=1000):Calls Tryz.prog 178 [.agg (bH m v9),.agg (bZ x)].toArray w (cd w (CF 61 w.heap.size {m with l:=m.l++[x]})):=by
 refine bN Tryz.func178 rfl Tryz.ntmps178 rfl λf h s=>qr (aZ ((bH m v9)) h s rfl rfl rfl λf w1 b2 h s=>aZ ((bZ x)) h s rfl rfl rfl λf w1 b3 h s=>aO (bH kG (.slice none 0 0)) h s iN rfl rfl λf w1 b4 h s=>nt (ah (fH 0 6 [[],[0],[0,1],[],[3],[0,1,2,3,4],[0,1,2,3,4,5],[0,1,2,3,4,5,6]] [[],[],[],[],[],[2,4],[],[]] [] [.v _,.v v9,.m (λv=>[.sl (v 2) 61 4 m.l.length (bw m.l)]),.v (.agg (bZ x)),.m (λv=>[.sl (v 4) 61 4 1 (bZ x).toList]),.m (λv=>[.sl (v 5) 61 4 (m.l++[x]).length (bw (m.l++[x]))]),.n,.n] _ h s rfl (by kernel_rfl) (by kernel_rfl) (by kernel_rfl) (fJ ac h rfl rfl rfl (bW ?_ (bW ?_ (bW ?_ (bW ?_ (bW ?_ (trivial))))))) [0,1,3,5] (by kernel_rfl) ?_)))
 ·intro f9 w2 vl1 E9 hs9 hd9 hl hF s
  have h:=cb [(5,_)] h hs9 hd9 ⟨aS hl 5 0 (by kernel_rfl) (hF 0 (by decide)),trivial⟩
  refine ag (ae (aF.of_own s 2 rfl) 0 (rfl)) h fh rfl rfl λf h=>aw ⟨_,aV 6 h rfl rfl,rfl,s⟩
 ·intro f9 w2 vl1 E9 hs9 hd9 hl hF s
  have h:=cb [(6,_)] h hs9 hd9 ⟨aS hl 6 1 (by kernel_rfl) (hF 1 (by decide)),trivial⟩
  refine bB h s IT (pf m.l hln v9 _ (hR.keep s.ext)) rfl rfl ?_;intro f w1 v7 hT hE h sq;replace s:=s.sl_new hE hT
  exact aw ⟨_,aV 7 h rfl rfl,trivial,s⟩
 ·intro f9 w2 vl1 E9 hs9 hd9 hl hF s
  have h:=cb [(3,_)] h hs9 hd9 ⟨d5 hl 3 (by kernel_rfl) (h.holds 3 _ rfl),trivial⟩
  refine ak 1 h s ej rfl rfl (rfl) rfl λf h=>aw ⟨_,aV 8 h rfl rfl,rfl,s⟩
 ·intro f9 w2 vl1 E9 hs9 hd9 hl hF s
  have h:=cb [(8,_)] h hs9 hd9 ⟨aS hl 8 3 (by kernel_rfl) (hF 3 (by decide)),trivial⟩
  refine cU (vs:=[.agg (bZ x)]) [.tmp 8] h s aC3 t7 rfl rfl (pT _) rfl rfl rfl λf w1 v9 h s=>?_
  replace s:=s.resl (m:=1) (ys:=(bZ x).toList) 0 rfl rfl (B6 _)
  exact aw ⟨_,aV 9 h rfl rfl,trivial,s⟩
 ·intro f9 w2 vl1 E9 hs9 hd9 hl hF s
  have e7:f9.tmps.getD 7 undef=(vl1 2):=dO hl 7 2 (by kernel_rfl) (by kernel_rfl)
  have e9:f9.tmps.getD 9 undef=(vl1 4):=dO hl 9 4 (by kernel_rfl) (by kernel_rfl)
  have h:=dy [(7,(vl1 2)),(9,(vl1 4))] (hs9.trans h.size) (hd9.trans h.defers) (holds_lk ⟨e7,e9,trivial⟩)
  refine ez 0 1 h s aC3 t7 rfl rfl rfl rfl (by decide) (dd x) (by unfold maxLen;omega) (by omega) rfl λf w1 v10 h s=>?_
  replace s:=s.resl (m:=(m.l++[x]).length) (ys:=bw (m.l++[x])) 0 rfl (by rw [as2];rfl) (qN _ _)
  exact aw ⟨_,aV 10 h rfl rfl,trivial,(s.pick _ (ar2 _ (ar3 _ (ar2 _ (ar2 _ (ar2 _ (List.Sublist.refl _)))))))⟩
 intro f w1 vl1 hs9 hd9 hv hr hF s
 replace hv:=λi d h9=>hv i d (show Nat.blt i 6=true from h9)
 replace h:=eI 6 (ops:=_) [(5,_),(6,_),(7,(vl1 2)),(8,_),(9,(vl1 4)),(10,(vl1 5))] h hs9 hd9 hr ⟨(hv 0 5 rfl rfl).trans (hF 0 rfl),(hv 1 6 rfl rfl).trans (hF 1 rfl),hv 2 7 rfl rfl,(hv 3 8 rfl rfl).trans (hF 3 rfl),hv 4 9 rfl rfl,hv 5 10 rfl rfl,trivial⟩ (by kernel_rfl)
 replace s:St w [.sl (vl1 5) 61 4 (m.l++[x]).length (bw (m.l++[x])),.blk b4 (.cells (bH kG (.slice none 0 0)) 29),.blk b3 (.cells ((bZ x)) 61),.blk b2 (.cells ((bH m v9)) 29)] _:=s
 refine al ac 1 h rfl λf h=>aJ 3 h s fh rfl rfl rfl (by show _<3;decide) (aT (s.getSl 0 rfl)) λw1 s=>?_
 replace s:=s.recell (D:=bH {m with l:=m.l++[x]} (vl1 5)) 3 rfl rfl
 refine nt (qr (ak 3 h s bV rfl rfl (rfl) rfl λf h=>aj 1 h s bV rfl rfl rfl (rfl) (rfl) (ct _ _ (aT (s.getSl 0 rfl))) λw1 s=>nt (av8 (iP 1 rfl h s bV rfl rfl (rfl) (⟨(vl1 5),rfl,s.getSl 0 rfl⟩)))))
theorem KZ (m:Ml) (v9:Value) (fr tt:Int) (dx:ByteArray) (w:World) (hR:br w v9 4 m.l.length (bw m.l)) (hln:m.l.length<=1000):Calls Tryz.prog 223 [.agg (bH m v9),.int .i64 fr,.int .i64 tt,.string dx].toArray w (cd w (Kv 61 w.heap.size m fr tt dx)):=by
 refine bN Tryz.func223 rfl Tryz.ntmps223 rfl λf h s=>qr (aZ ((bH m v9)) h s rfl rfl rfl λf w1 b4 h s=>aO (bH kG (.slice none 0 0)) h s iN rfl rfl λf w1 b8 h s=>e9 ac 2 h rfl λf h=>ah (ah ?_))
 refine aG (ak 1 h s bV rfl rfl (rfl) rfl λf h=>eC h s tL (gP m v9 _ (hR.keep s.ext) hln) rfl rfl (λhr f w1 h s=>?_) (λhr f w1 h s=>?_))
 ·refine e9 ac 11 h rfl λf h=>dw h rfl (qr (am h (dn kq) rfl λf h=>aj 0 h s bV rfl rfl rfl (rfl) (rfl) (ct _ _ rfl) λw1 s=>e9 ac 2 h rfl λf h=>rt ?_))
  exact eU 0 rfl h s bV rfl rfl (rfl) rfl rfl (lK (qs (by rw [hr];rfl)) (by decide))
 ·skip
  refine al ac 3 h rfl λf h=>bF h rfl (eC h s EM (qo _ _) rfl rfl (λhf f w1 h s=>?_) (λhf f w1 h s=>?_))
  ·refine e9 ac 7 h rfl λf h=>dw h rfl (qr (am h (dn kq) rfl λf h=>aj 0 h s bV rfl rfl rfl (rfl) (rfl) (ct _ _ rfl) λw1 s=>e9 ac 2 h rfl λf h=>rt ?_))
   exact eU 0 rfl h s bV rfl rfl (rfl) rfl rfl (lK (qs (by rw [hr,hf];rfl)) (by decide))
  ·skip
   refine al ac 4 h rfl λf h=>bF h rfl (eC h s EM (qo _ _) rfl rfl (λht f w1 h s=>?_) (λht f w1 h s=>?_))
   ·refine e9 ac 2 h rfl λf h=>dw h rfl (qr (am h (dn kq) rfl λf h=>aj 0 h s bV rfl rfl rfl (rfl) (rfl) (ct _ _ rfl) λw1 s=>e9 ac 2 h rfl λf h=>rt ?_))
    exact eU 0 rfl h s bV rfl rfl (rfl) rfl rfl (lK (qs (by rw [hr,hf,ht];rfl)) (by decide))
   ·refine e9 ac 2 h rfl λf h=>mQ h rfl (ah (cw ac 1 h rfl λf h=>am h (dX aB9 (h.ev rfl)) rfl λf h=>e9 ac 1 h rfl λf h=>cr h rfl (λhc=>?_) (λhc=>?_)))
    ·replace hc:=ar4 hc
     have hb:(!cn m || (!pS fr || !pS tt))=false:=by rw [hr,hf,ht];rfl
     refine qr (am h (dn kq) rfl λf h=>aj 0 h s bV rfl rfl rfl (rfl) (rfl) (ct _ _ rfl) λw1 s=>e9 ac 2 h rfl λf h=>rt ?_)
     exact eU 0 rfl h s bV rfl rfl (rfl) rfl rfl (lK (Dr hb (by omega)) (by decide))
    ·have hsz:=ar5 hc
     have hb:(!cn m || (!pS fr || !pS tt))=false:=by rw [hr,hf,ht];rfl
     refine kt (ah (ah ?_))
     cases hu:(decide (m.l.length=64):Bool)
     ·skip
      cases hv:(decide (m.last=1099511627776):Bool)
      ·refine aG (ak 1 h s bV rfl rfl (rfl) rfl λf h=>bB h s wb (a6 (.bool false) (nT m v9 _ (hR.keep s.ext) hln) (ar8 Value.bool hu)) rfl rfl ?_);intro f w1 v9 hT hE h s;obtain rfl:=hT
       refine al ac 2 h rfl λf h=>bF h rfl (ag (ae (aF.of_own s 1 rfl) 1 (rfl)) h bu rfl rfl λf h=>bF h rfl (eF ac h rfl hv λf h=>e9 ac 1 h rfl λf h=>mQ h rfl (cw ac 1 h rfl λf h=>?_)))
       have hbd:=((iz m).1 hr).2.1
       refine ag (ae (aF.of_own s 1 rfl) 1 (rfl)) h bu rfl rfl λf h=>am h (bY (h.ev rfl) (h.ev rfl) (by omega)) rfl λf h=>al ac 1 h rfl λf h=>aJ 1 h s bu rfl rfl rfl (by show _<3;decide) (rfl) λw1 s=>?_
       replace s:=s.recell (D:=bH {m with last:=m.last+1} v9) 1 rfl rfl
       refine nt (ah ?_)
       have hvv:=hv
       replace s:St w [.blk b8 (.cells (bH kG (.slice none 0 0)) 29),.blk b4 (.cells (bH {m with last:=m.last+1} v9) 29)] _:=s
       refine fH 1 11 [[],[],[1],[],[],[],[1,2,3,4,5],[0,1,2,3,4,5,6],[],[8],[0,1,2,3,4,5,6,7],[0,1,2,3,4,5,6,7,8,9,10],[0,1,2,3,4,5,6,7,8,9,10,11]] [[],[],[],[],[],[],[],[],[],[],[13],[],[]] [[_]] [.v (.agg (bH {m with last:=m.last+1} v9)),.v _,.v (.int .i64 (m.last+1)),.v _,.v _,.v _,.v (.agg (bZ (m.last+1,fr,tt,dx))),.r (λv=>[.sl (CO (v 7)) 61 4 (⟨m.l++[(m.last+1,fr,tt,dx)],m.last+1,m.now⟩:Ml).l.length (bw (⟨m.l++[(m.last+1,fr,tt,dx)],m.last+1,m.now⟩:Ml).l)]) (λv=>v 7=.agg (bH ⟨m.l++[(m.last+1,fr,tt,dx)],m.last+1,m.now⟩ (CO (v 7)))),.v _,.v (.int .i64 (m.last+1)),.m (λv=>[.blk b8 (.cells (bH ⟨m.l++[(m.last+1,fr,tt,dx)],m.last+1,m.now⟩ (CO (v 7))) 29)]),.n,.n] _ h s rfl (by kernel_rfl) (by kernel_rfl) (by kernel_rfl) (bW ?_ (fJ ac h rfl rfl rfl (bW ?_ (fJ ac h rfl rfl rfl (fJ ac h rfl rfl rfl (fJ ac h rfl rfl rfl (bW ?_ (bW ?_ (fJ ac h rfl rfl rfl (bW ?_ (bW ?_ (trivial)))))))))))) [0,1,2,3,4,5,6,7,8,9,10] (by kernel_rfl) ?_
       ·intro f9 w2 vl8 E9 hs9 hd9 hl hF s
        have h:=cb [(4,_)] h hs9 hd9 ⟨d5 hl 4 (by kernel_rfl) (h.holds 4 _ rfl),trivial⟩
        refine ak 0 h s bV rfl rfl (rfl) rfl λf h=>aw ⟨_,aV 41 h rfl rfl,rfl,s⟩
       ·intro f9 w2 vl8 E9 hs9 hd9 hl hF s
        have h:=cb [(42,_)] h hs9 hd9 ⟨aS hl 42 1 (by kernel_rfl) (hF 1 (by decide)),trivial⟩
        refine ag (ae (aF.of_own s 0 rfl) 1 (rfl)) h bu rfl rfl λf h=>aw ⟨_,aV 43 h rfl rfl,rfl,s⟩
       ·intro f9 w2 vl8 E9 hs9 hd9 hl hF s
        have h:=cb [(43,_),(44,_),(45,_),(46,_)] h hs9 hd9 ⟨aS hl 43 2 (by kernel_rfl) (hF 2 (by decide)),aS hl 44 3 (by kernel_rfl) (hF 3 (by decide)),aS hl 45 4 (by kernel_rfl) (hF 4 (by decide)),aS hl 46 5 (by kernel_rfl) (hF 5 (by decide)),trivial⟩
        refine am h (yj Dp (h.ev rfl) (h.ev rfl) (h.ev rfl) (h.ev rfl)) rfl λf h=>aw ⟨_,aV 47 h rfl rfl,rfl,s⟩
       ·intro f9 w2 vl8 E9 hs9 hd9 hl hF s
        have h:=cb [(41,_),(47,_)] h hs9 hd9 ⟨aS hl 41 0 (by kernel_rfl) (hF 0 (by decide)),aS hl 47 6 (by kernel_rfl) (hF 6 (by decide)),trivial⟩
        refine bB h s CS (mY {m with last:=m.last+1} v9 (m.last+1,fr,tt,dx) _ (hR.keep s.ext) hln) rfl rfl ?_;rintro f w1 v48 ⟨vx,rfl,hT⟩ hE h sq;replace s:=s.sl_new hE hT
        obtain ⟨a9,c9,rfl⟩:=cP (s.getSl 0 rfl)
        exact aw ⟨_,aV 48 h rfl rfl,rfl,s⟩
       ·intro f9 w2 vl8 E9 hs9 hd9 hl hF s
        have h:=cb [(49,_)] h hs9 hd9 ⟨aS hl 49 8 (by kernel_rfl) (hF 8 (by decide)),trivial⟩
        refine ag (ae (aF.of_own s 0 rfl) 1 (rfl)) h bu rfl rfl λf h=>aw ⟨_,aV 50 h rfl rfl,rfl,s⟩
       ·intro f9 w2 vl8 E9 hs9 hd9 hl hF s
        have h:=cb [(8,_),(48,.agg (bH ⟨m.l++[(m.last+1,fr,tt,dx)],m.last+1,m.now⟩ (CO (vl8 7))))] h hs9 hd9 ⟨d5 hl 8 (by kernel_rfl) (h.holds 8 _ rfl),aS hl 48 7 (by kernel_rfl) (hF 7 (by decide)),trivial⟩
        refine aj 0 h s bV rfl rfl rfl (rfl) (rfl) (ct _ _ (Dn _)) λw1 s=>aw ⟨undef,gd rfl,trivial,s⟩
       intro f w1 vl8 hs9 hd9 hv hr hF s
       replace hv:=λi d h9=>hv i d (show Nat.blt i 11=true from h9)
       replace h:=eI 11 (ops:=_) [(41,_),(42,_),(43,_),(44,_),(45,_),(46,_),(47,_),(48,.agg (bH ⟨m.l++[(m.last+1,fr,tt,dx)],m.last+1,m.now⟩ (CO (vl8 7)))),(49,_),(50,_)] h hs9 hd9 hr ⟨(hv 0 41 rfl rfl).trans (hF 0 rfl),(hv 1 42 rfl rfl).trans (hF 1 rfl),(hv 2 43 rfl rfl).trans (hF 2 rfl),(hv 3 44 rfl rfl).trans (hF 3 rfl),(hv 4 45 rfl rfl).trans (hF 4 rfl),(hv 5 46 rfl rfl).trans (hF 5 rfl),(hv 6 47 rfl rfl).trans (hF 6 rfl),(hv 7 48 rfl rfl).trans (hF 7 rfl),(hv 8 49 rfl rfl).trans (hF 8 rfl),(hv 9 50 rfl rfl).trans (hF 9 rfl),trivial⟩ (by kernel_rfl)
       replace s:St w [.sl (CO (vl8 7)) 61 4 (⟨m.l++[(m.last+1,fr,tt,dx)],m.last+1,m.now⟩:Ml).l.length (bw (⟨m.l++[(m.last+1,fr,tt,dx)],m.last+1,m.now⟩:Ml).l),.blk b8 (.cells (bH ⟨m.l++[(m.last+1,fr,tt,dx)],m.last+1,m.now⟩ (CO (vl8 7))) 29),.blk b4 (.cells (bH {m with last:=m.last+1} v9) 29)] _:=s
       refine e9 ac 2 h rfl λf h=>av8 ?_
       exact eU 1 rfl h s bV rfl rfl (rfl) rfl rfl (M9 (PL hb (by omega) (by rw [hu,hvv];rfl)) (s.getSl 0 rfl))
      ·refine aG (ak 1 h s bV rfl rfl (rfl) rfl λf h=>jc false h s wb (nT m v9 _ (hR.keep s.ext) hln) (hu) rfl rfl λf w1 h s=>al ac 2 h rfl λf h=>bF h rfl (ag (ae (aF.of_own s 1 rfl) 1 (rfl)) h bu rfl rfl λf h=>bF h rfl (fy ac h rfl hv λf h=>e9 ac 1 h rfl λf h=>dw h rfl (qr (am h (dn kq) rfl λf h=>aj 0 h s bV rfl rfl rfl (rfl) (rfl) (ct _ _ rfl) λw1 s=>e9 ac 2 h rfl λf h=>rt ?_)))))
       exact eU 0 rfl h s bV rfl rfl (rfl) rfl rfl (lK (xY hb (by omega) (by rw [hu,hv];rfl)) (by decide))
     ·refine aG (ak 1 h s bV rfl rfl (rfl) rfl λf h=>jc true h s wb (nT m v9 _ (hR.keep s.ext) hln) (hu) rfl rfl λf w1 h s=>e9 ac 5 h rfl λf h=>dw h rfl (qr (am h (dn kq) rfl λf h=>aj 0 h s bV rfl rfl rfl (rfl) (rfl) (ct _ _ rfl) λw1 s=>e9 ac 2 h rfl λf h=>rt ?_)))
      exact eU 0 rfl h s bV rfl rfl (rfl) rfl rfl (lK (xY hb (by omega) (by rw [hu];rfl)) (by decide))
theorem Lk (m:Ml) (v9:Value) (tk:Int) (w:World) (hR:br w v9 4 m.l.length (bw m.l)) (hln:m.l.length<=1000):Calls Tryz.prog 84 [.agg (bH m v9),.int .i64 tk].toArray w (cd w (Kb 61 w.heap.size m tk)):=by
 refine bN Tryz.func84 rfl Tryz.ntmps84 rfl λf h s=>qr (aZ ((bH m v9)) h s rfl rfl rfl λf w1 b2 h s=>aO (bH kG (.slice none 0 0)) h s iN rfl rfl λf w1 b4 h s=>e9 ac 1 h rfl λf h=>ah (ah ?_))
 cases hr:(cn m:Bool)
 ·refine aG (ak 1 h s bV rfl rfl (rfl) rfl λf h=>jc false h s tL (gP m v9 _ (hR.keep s.ext) hln) (hr) rfl rfl λf w1 h s=>e9 ac 5 h rfl λf h=>dw h rfl (qr (am h (dn kq) rfl λf h=>aj 0 h s bV rfl rfl rfl (rfl) (rfl) (ct _ _ rfl) λw1 s=>e9 ac 1 h rfl λf h=>rt (bL 0 rfl h s bV rfl rfl (rfl) rfl (EO (Et (by rw [hr];rfl)))))))
 ·skip
  cases ht:(decide (tk<0):Bool)
  ·refine aG (ak 1 h s bV rfl rfl (rfl) rfl λf h=>bB h s tL (a6 (.bool true) (gP m v9 _ (hR.keep s.ext) hln) (ar8 Value.bool hr)) rfl rfl ?_);intro f w1 v9 hT hE h s;obtain rfl:=hT
   refine al ac 3 h rfl λf h=>bF h rfl (eF ac h rfl ht λf h=>e9 ac 1 h rfl λf h=>mQ h rfl (cw ac 1 h rfl λf h=>?_))
   have hbd:=((iz m).1 hr).2.2.1
   have htk:=ar5 ht
   refine ag (ae (aF.of_own s 1 rfl) 2 (rfl)) h bu rfl rfl λf h=>al ac 2 h rfl λf h=>ag (ae (aF.of_own s 1 rfl) 2 (rfl)) h bu rfl rfl λf h=>am h (gC (h.ev rfl) (h.ev rfl) (by omega)) rfl λf h=>am h (a8 (.int .i64 (min tk (1099511627776 - m.now))) (Vr (h.ev rfl) (h.ev rfl)) (ar8 (Value.int .i64) (by omega))) rfl λf h=>am h (bY (h.ev rfl) (h.ev rfl) (by omega)) rfl λf h=>al ac 1 h rfl λf h=>aJ 1 h s bu rfl rfl rfl (by show _<3;decide) (rfl) λw1 s=>?_
   replace s:=s.recell (D:=bH {m with now:=m.now+min tk (1099511627776 - m.now)} v9) 1 rfl rfl
   refine nt (cw ac 1 h rfl λf h=>ag (ae (aF.of_own s 1 rfl) 0 (rfl)) h fh rfl rfl λf h=>bB h s IT (pf m.l hln v9 _ (hR.keep s.ext)) rfl rfl ?_);intro f w1 v25 hT hE h sq;replace s:=s.sl_new hE hT
   refine al ac 1 h rfl λf h=>aJ 2 h s fh rfl rfl rfl (by show _<3;decide) (aT (s.getSl 0 rfl)) λw1 s=>?_
   replace s:=s.recell (D:=bH {m with now:=m.now+min tk (1099511627776 - m.now)} v25) 2 rfl rfl
   refine nt (qr (ak 2 h s bV rfl rfl (rfl) rfl λf h=>aj 1 h s bV rfl rfl rfl (rfl) (rfl) (ct _ _ (aT (s.getSl 0 rfl))) λw1 s=>e9 ac 1 h rfl λf h=>av8 (bL 1 rfl h s bV rfl rfl (rfl) rfl (Ni (OR (by rw [hr,ht];rfl)) (s.getSl 0 rfl)))))
  ·refine aG (ak 1 h s bV rfl rfl (rfl) rfl λf h=>jc true h s tL (gP m v9 _ (hR.keep s.ext) hln) (hr) rfl rfl λf w1 h s=>al ac 3 h rfl λf h=>bF h rfl (fy ac h rfl ht λf h=>e9 ac 1 h rfl λf h=>dw h rfl (qr (am h (dn kq) rfl λf h=>aj 0 h s bV rfl rfl rfl (rfl) (rfl) (ct _ _ rfl) λw1 s=>e9 ac 1 h rfl λf h=>rt (bL 0 rfl h s bV rfl rfl (rfl) rfl (EO (Et (by rw [hr,ht];rfl))))))))
theorem L3 (m:Ml) (v9:Value) (p:Int) (w:World) (hR:br w v9 4 m.l.length (bw m.l)) (hln:m.l.length<=1000):Calls Tryz.prog 160 [.agg (bH m v9),.int .i64 p].toArray w (cd w (is (.tuple #[.agg (bZ (qt m p)),.int .i64 (fO m p)]))):=by
 refine ff Tryz.func160 rfl Tryz.ntmps160 rfl [(0,.agg (bH m v9)),(1,.int .i64 p)] (by simp) λf h=>?_
 have s:=St.start w
 refine qr (aZ ((bH m v9)) h s rfl rfl rfl λf w1 b2 h s=>aZ (#[.int .i64 p]) h s rfl rfl rfl λf w1 b3 h s=>aO (bZ gq) h s jj rfl rfl λf w1 b4 h s=>aO (#[.int .i64 0]) h s Tx rfl rfl λf w1 b5 h s=>nt (ah (ah ?_)))
 refine aG (ak 3 h s bV rfl rfl (rfl) rfl λf h=>eC h s tL (gP m v9 _ (hR.keep s.ext) hln) rfl rfl (λhr f w1 h s=>?_) (λhr f w1 h s=>?_))
 ·refine e9 ac 1 h rfl λf h=>dw h rfl (qr (am h (jT Dp) rfl λf h=>aj 1 h s ej rfl rfl rfl (rfl) (rfl) (dd _) λw1 s=>aJ 0 h s t8 rfl rfl rfl (by simp) (rfl) λw1 s=>nt (rt ?_)))
  exact wU 1 0 rfl h s ej t8 rfl rfl rfl rfl (rfl) rfl (λw9=>by show _=_;rw [vX p hr,OO p hr]<;>rfl)
 ·refine e9 ac 1 h rfl λf h=>mQ h rfl (ah (qr (ak 3 h s bV rfl rfl (rfl) rfl λf h=>cF [.agg (bH m v9)] h HF (nh m v9 _ _ _ s) rfl rfl ?_)));rintro f w1 r ⟨bx,rfl,s⟩ h
  refine nt (av9 (eK (λd A9=>A9=[.blk b5 (.cells #[.int .i64 0] 41),.blk b4 (.cells (bZ (Zl m.l (IY p) d)) 61),.blk b3 (.cells #[.int .i64 p] 3),.blk b2 (.cells (bH m v9) 29)]) [.blk b5 (.cells #[.int .i64 0] 41),.blk b4 (.cells (bZ gq) 61),.blk b3 (.cells #[.int .i64 p] 3),.blk b2 (.cells (bH m v9) 29)] [.blk bx (.cells (bH m v9) 29)] (m.l.length) (IY p) (λd=>[Value.int .i64 (d:Int),.agg (bZ (m.l.getD d gq))]) h s rfl Kl (List.Perm.refl _) (rfl) (λ_=>rfl) ?_ ?_ ?_ ?_))
  ·intro lp w2 GG g0 hg0 s2 hY;exact o4 m hln v9 lp bx (IY p) GG g0 w w2 s2 hg0 hR hY
  ·intro lp D9 d9 rc R9 A9 w2 hd9 hq9 hJ9 s
   obtain rfl:=hJ9
   have h:=Sl.round2 (p:=14) (q:=15) (V:=.int .i64 (d9:Int)) (U:=.agg (bZ (m.l.getD d9 gq))) h rfl rfl
   refine bJ ac 1 h rfl λf h=>aG (aO (bZ gq) h s jj rfl rfl λf w1 b7 h s=>aj 0 h s ej rfl rfl rfl (rfl) (rfl) (dd _) λw1 s=>nt (⟨_,s.perm (ay7 (l₁:=[_])),λw3 s=>?_⟩))
   refine av9 (ah ?_)
   refine rs ac 1 h rfl λf h=>cK 5 h s bu rfl rfl (rfl) rfl λf h=>kE ac (IY p d9) h rfl (rfl) (λhq f h=>?_) (λhq f h=>?_)
   ·refine oW h rfl (wpIn_skip (bo ?_))
    replace s:=s.recell (D:=bZ (Zl m.l (IY p) (d9+1))) 4 rfl (by rw [PY hq9];show bZ gq=bZ (bif IY p d9 then _ else _);rw [hq];rfl)
    refine ⟨by first|exact hq|rfl,_,rfl,s.pick _ ?_⟩
    exact ar2 _ (ar3 _ (List.Sublist.refl _))
   ·refine gh h rfl (qr (ak 1 h s ej rfl rfl (rfl) rfl λf h=>aj 4 h s ej rfl rfl rfl (rfl) (rfl) (dd _) λw1 s=>aJ 3 h s t8 rfl rfl rfl (by simp) (rfl) λw1 s=>nt (av8 (bh ?_))))
    replace s:=s.recell (D:=bZ (Zl m.l (IY p) (d9+1))) 4 rfl (by show bZ _=bZ (bif IY p d9 then _ else _);rw [hq];rfl)
    refine ⟨by first|exact hq|rfl,_,rfl,s.pick _ ?_⟩
    exact ar2 _ (ar3 _ (List.Sublist.refl _))
  ·intro D9 A9 w2 hJ9 hq9 s
   obtain rfl:=hJ9
   replace h:Sl _ {f with defers:={target:=.collected D9,args:=#[]}::f.defers} _ [{target:=.collected D9,args:=#[]}]:=⟨h.size,by rw [h.defers],h.holds⟩
   refine bo (aK (qr (am h (jT Dp) rfl λf h=>aj 3 h s ej rfl rfl rfl (rfl) (rfl) (dd _) λw1 s=>aJ 2 h s t8 rfl rfl rfl (by simp) (rfl) λw1 s=>nt (av8 ?_))))
   exact pC 3 2 0 rfl h s ej t8 rfl rfl rfl rfl rfl (rfl) rfl (λw9=>by show _=_;rw [(DG hr hq9).1,(DG hr hq9).2]<;>rfl)
  ·intro D9 d9 A9 w2 hd9 hqd9 hq9 hJ9 s
   obtain rfl:=hJ9
   replace h:Sl _ {f with defers:={target:=.collected D9,args:=#[]}::f.defers} _ [{target:=.collected D9,args:=#[]}]:=⟨h.size,by rw [h.defers],h.holds⟩
   refine bh (aU ?_)
   exact pC 3 2 0 rfl h s ej t8 rfl rfl rfl rfl rfl (rfl) rfl (λw9=>by show _=_;rw [(EH hr hd9 hqd9).1,(EH hr hd9 hqd9).2];show Value.tuple #[.agg (bZ (bif IY p d9 then _ else _)),_]=_;rw [hqd9];rfl)
theorem Fw (m:Ml) (v9:Value) (p:Int) (w:World) (hR:br w v9 4 m.l.length (bw m.l)) (hln:m.l.length<=1000):Calls Tryz.prog 99 [.agg (bH m v9),.int .i64 p].toArray w (cd w (zp 61 w.heap.size (l8 m p) (tj m p))):=by
 refine bN Tryz.func99 rfl Tryz.ntmps99 rfl λf h s=>qr (aZ ((bH m v9)) h s rfl rfl rfl λf w1 b2 h s=>aO (bH kG (.slice none 0 0)) h s iN rfl rfl λf w1 b4 h s=>e9 ac 1 h rfl λf h=>qr (ak 1 h s bV rfl rfl (rfl) rfl λf h=>al ac 1 h rfl λf h=>dM h s LJ (L3 m v9 p _ (hR.keep s.ext) hln) rfl rfl λf w1 h s=>al ac 3 h rfl λf h=>aO (bZ gq) h s jj rfl rfl λf w1 b6 h s=>aj 0 h s ej rfl rfl rfl (rfl) (rfl) (dd _) λw1 s=>e9 ac 1 h rfl λf h=>ah (bJ ac 2 h rfl λf h=>cr h rfl (λhc=>?_) (λhc=>?_))))
 ·replace hc:=ar4 hc
  refine qr (am h (dn kq) rfl λf h=>al ac 1 h rfl λf h=>aj 1 h s bV rfl rfl rfl (rfl) (rfl) (ct _ _ rfl) λw1 s=>e9 ac 1 h rfl λf h=>rt (bL 1 rfl h s bV rfl rfl (rfl) rfl (wc (SH hc) (K7 hc))))
 ·have h0:fO m p=0:=by have:=ar5 hc;omega
  obtain ⟨hr1,hp0,hp1⟩:=IC h0
  refine kt (ah (ah ?_))
  refine aG (ak 2 h s bV rfl rfl (rfl) rfl λf h=>eC h s wb (nT m v9 _ (hR.keep s.ext) hln) rfl rfl (λhf f w1 h s=>?_) (λhf f w1 h s=>?_))
  ·refine fL h rfl (qr (ak 2 h s bV rfl rfl (rfl) rfl λf h=>ak 0 h s ej rfl rfl (rfl) rfl λf h=>bB h s CS (mY m v9 (qt m p) _ (hR.keep s.ext) hln) rfl rfl ?_));rintro f w1 v23 ⟨vx,rfl,hvx⟩ hE h sq
   replace s:=s.sl_new hE hvx
   refine aj 2 h s bV rfl rfl rfl (rfl) (rfl) (ct _ _ (aT (s.getSl 0 rfl))) λw1 s=>e9 ac 1 h rfl λf h=>av8 (bL 2 rfl h s bV rfl rfl (rfl) rfl (vZ (Ui h0 hf) (KU h0 hf) (s.getSl 0 rfl)))
  ·refine gh h rfl (qr (am h (dn kq) rfl λf h=>aj 1 h s bV rfl rfl rfl (rfl) (rfl) (ct _ _ rfl) λw1 s=>e9 ac 1 h rfl λf h=>rt (bL 1 rfl h s bV rfl rfl (rfl) rfl (wc (IL h0 hf) (y8 h0 hf)))))
theorem yR (m:Ml) (v9:Value) (p:Int) (hp0:0<=p) (w:World) (hR:br w v9 4 m.l.length (bw m.l)) (hln:m.l.length<=1000):Calls Tryz.prog 161 [.agg (bH m v9),.int .i64 p].toArray w (cd w (CF 61 w.heap.size {m with l:=m.l.eraseIdx p.toNat})):=by
 refine ff Tryz.func161 rfl Tryz.ntmps161 rfl [(0,.agg (bH m v9)),(1,.int .i64 p)] (by simp) λf h=>?_
 have s:=St.start w
 refine qr (aZ ((bH m v9)) h s rfl rfl rfl λf w1 b2 h s=>aZ (#[.int .i64 p]) h s rfl rfl rfl λf w1 b3 h s=>aO (bH kG (.slice none 0 0)) h s iN rfl rfl λf w1 b4 h s=>nt (qr (aO (#[.slice none 0 0]) h s Su rfl rfl λf w1 b5 h s=>nt (ah (qr ?_)))))
 replace s:=s.nilSl 61 4
 refine ak 4 h s bV rfl rfl (rfl) rfl λf h=>cF [.agg (bH m v9)] h HF (nh m v9 _ _ _ s) rfl rfl ?_;rintro f w1 r ⟨bx,rfl,s⟩ h
 refine nt (av9 (eK (λd A9=>∃ v8:Value,A9=[.sl v8 61 4 (dl m.l p.toNat d).length (bw (dl m.l p.toNat d)),.blk b5 (.cells #[v8] 27),.blk b4 (.cells (bH kG (.slice none 0 0)) 29),.blk b3 (.cells #[.int .i64 p] 3),.blk b2 (.cells (bH m v9) 29)]) [.sl (.slice none 0 0) 61 4 0 [],.blk b5 (.cells #[(.slice none 0 0)] 27),.blk b4 (.cells (bH kG (.slice none 0 0)) 29),.blk b3 (.cells #[.int .i64 p] 3),.blk b2 (.cells (bH m v9) 29)] [.blk bx (.cells (bH m v9) 29)] (m.l.length) (λ_=>false) (λd=>[Value.int .i64 (d:Int),.agg (bZ (m.l.getD d gq))]) h s rfl Kl (List.Perm.refl _) (⟨_,rfl⟩) (λ_=>rfl) ?_ ?_ ?_ ?_))
 ·intro lp w2 GG g0 hg0 s2 hY;exact o4 m hln v9 lp bx (λ_=>false) GG g0 w w2 s2 hg0 hR hY
 ·intro lp D9 d9 rc R9 A9 w2 hd9 hq9 hJ9 s
  obtain ⟨v8,rfl⟩:=hJ9
  have h:=Sl.round2 (p:=10) (q:=11) (V:=.int .i64 (d9:Int)) (U:=.agg (bZ (m.l.getD d9 gq))) h rfl rfl
  refine bJ ac 1 h rfl λf h=>aG (aO (bZ gq) h s jj rfl rfl λf w1 b7 h s=>aj 0 h s ej rfl rfl rfl (rfl) (rfl) (dd _) λw1 s=>nt (⟨_,s.perm (ay7 (l₁:=[_])),λw3 s=>?_⟩))
  refine av9 (ah ?_)
  cases hq:(decide ((d9:Int)=p):Bool)
  ·refine rs ac 1 h rfl λf h=>cK 6 h s bu rfl rfl (rfl) rfl λf h=>fy ac h rfl (ar7 (ar5 hq)) λf h=>gh h rfl (aG (cK 4 h s fh rfl rfl (rfl) rfl λf h=>ak 1 h s ej rfl rfl (rfl) rfl λf h=>cU (vs:=[.agg (bZ (m.l.getD d9 gq))]) [.tmp 16] h s aC3 t7 rfl rfl (pT _) rfl rfl rfl λf w1 v17 h s=>ez 4 0 h s aC3 t7 rfl rfl rfl rfl (by decide) (yk _) (by have:=Rw m.l p.toNat d9;unfold maxLen;omega) (by have:=Rw m.l p.toNat d9;omega) rfl λf w1 v18 h s=>?_))
   replace s:=s.pick _ (at7 _ _)
   refine aJ 4 h s fh rfl rfl rfl (by simp) (aT (s.getSl 3 rfl)) λw1 s=>aw (bo ?_)
   have Dw:p.toNat≠d9:=by have:=ar5 hq;omega
   replace s:=s.resl (m:=(dl m.l p.toNat (d9+1)).length) (ys:=bw (dl m.l p.toNat (d9+1))) 3 rfl (by rw [Do hd9 Dw,as2];rfl) (by rw [Do hd9 Dw,B6,qN])
   refine ⟨rfl,_,⟨v18,rfl⟩,s.pick _ ?_⟩
   exact ar2 _ (ar3 _ (List.Sublist.refl _))
  ·refine rs ac 1 h rfl λf h=>cK 6 h s bu rfl rfl (rfl) rfl λf h=>eF ac h rfl (ar6 (λh9=>h9 (ar4 hq))) λf h=>oW h rfl (wpIn_skip (bo ?_))
   have Dw:p.toNat=d9:=by have:=ar4 hq;omega
   rw [show dl m.l p.toNat d9=dl m.l p.toNat (d9+1) from by rw [Dw];exact(My hd9).symm] at s
   refine ⟨rfl,_,⟨v8,rfl⟩,s.pick _ ?_⟩
   exact ar2 _ (ar3 _ (List.Sublist.refl _))
 ·intro D9 A9 w2 hJ9 hq9 s
  obtain ⟨v8,rfl⟩:=hJ9
  replace h:Sl _ {f with defers:={target:=.collected D9,args:=#[]}::f.defers} _ [{target:=.collected D9,args:=#[]}]:=⟨h.size,by rw [h.defers],h.holds⟩
  rw [S3] at s
  refine bo (aK (qr (cK 3 h s fh rfl rfl (rfl) rfl λf h=>al ac 1 h rfl λf h=>aJ 6 h s fh rfl rfl rfl (by show _<3;decide) (aT (s.getSl 2 rfl)) λw1 s=>?_)))
  replace s:=s.recell (D:=bH {m with l:=m.l.eraseIdx p.toNat} v8) 6 rfl rfl
  refine nt (qr (ak 6 h s bV rfl rfl (rfl) rfl λf h=>aj 4 h s bV rfl rfl rfl (rfl) (rfl) (ct _ _ (aT (s.getSl 2 rfl))) λw1 s=>nt (av8 ?_)))
  exact AL 4 0 rfl h s bV rfl rfl rfl rfl (rfl) (λw9 s9=>⟨v8,rfl,s9.getSl 2 rfl⟩)
 ·intro D9 d9 A9 w2 hd9 hqd9 hq9 hJ9 s
  cases hqd9
theorem AJ (m:Ml) (v9:Value) (p:Int) (w:World) (hR:br w v9 4 m.l.length (bw m.l)) (hln:m.l.length<=1000):Calls Tryz.prog 96 [.agg (bH m v9),.int .i64 p].toArray w (cd w (Jn 61 w.heap.size m p)):=by
 refine bN Tryz.func96 rfl Tryz.ntmps96 rfl λf h s=>qr (aZ ((bH m v9)) h s rfl rfl rfl λf w1 b2 h s=>aO (bH kG (.slice none 0 0)) h s iN rfl rfl λf w1 b4 h s=>aO (bZ gq) h s jj rfl rfl λf w1 b5 h s=>e9 ac 1 h rfl λf h=>qr (ak 2 h s bV rfl rfl (rfl) rfl λf h=>al ac 1 h rfl λf h=>bB h s LJ (L3 m v9 p _ (hR.keep s.ext) hln) rfl rfl ?_));intro f w1 v9 hT hE h s;obtain rfl:=hT
 refine al ac 3 h rfl λf h=>aO (bZ gq) h s jj rfl rfl λf w1 b7 h s=>aj 0 h s ej rfl rfl rfl (rfl) (rfl) (dd _) λw1 s=>e9 ac 1 h rfl λf h=>ah (bJ ac 2 h rfl λf h=>cr h rfl (λhc=>?_) (λhc=>?_))
 ·replace hc:=ar4 hc
  refine qr (am h (dn kq) rfl λf h=>am h (jT Dp) rfl λf h=>al ac 1 h rfl λf h=>aj 2 h s bV rfl rfl rfl (rfl) (rfl) (ct _ _ rfl) λw1 s=>aj 1 h s ej rfl rfl rfl (rfl) (rfl) (dd _) λw1 s=>e9 ac 1 h rfl λf h=>rt ?_)
  exact sH 2 1 rfl h s bV ej rfl rfl rfl rfl (rfl) (rfl) rfl (I1 hc)
 ·have h0:fO m p=0:=by have:=ar5 hc;omega
  obtain ⟨hr1,hp0,hp1⟩:=IC h0
  refine kt (ah ?_)
  replace s:=s.bring 2 rfl
  replace s:St w [.blk b4 (.cells (bH kG (.slice none 0 0)) 29),.blk b7 (.cells ((bZ (qt m p))) 61),.blk b5 (.cells (bZ gq) 61),.blk b2 (.cells ((bH m v9)) 29)] _:=s
  refine fH 1 5 [[],[],[0,1],[],[0,1,2],[0,1,2,3,4],[0,1,2,3,4,5]] [[],[],[],[],[7],[],[]] [[_]] [.v (.agg (bH m v9)),.v _,.r (λv=>[.sl (CO (v 2)) 61 4 ({m with l:=m.l.eraseIdx p.toNat}).l.length (bw ({m with l:=m.l.eraseIdx p.toNat}).l)]) (λv=>v 2=.agg (bH ({m with l:=m.l.eraseIdx p.toNat}) (CO (v 2)))),.v (.agg (bZ (qt m p))),.m (λv=>[.blk b4 (.cells (bH ({m with l:=m.l.eraseIdx p.toNat}) (CO (v 2))) 29)]),.n,.n] _ h s rfl (by kernel_rfl) (by kernel_rfl) (by kernel_rfl) (bW ?_ (fJ ac h rfl rfl rfl (bW ?_ (bW ?_ (bW ?_ (trivial)))))) [0,1,2,3,4] (by kernel_rfl) ?_
  ·intro f9 w2 vl4 E9 hs9 hd9 hl hF s
   have h:=cb [(2,_)] h hs9 hd9 ⟨d5 hl 2 (by kernel_rfl) (h.holds 2 _ rfl),trivial⟩
   refine ak 2 h s bV rfl rfl (rfl) rfl λf h=>aw ⟨_,aV 20 h rfl rfl,rfl,s⟩
  ·intro f9 w2 vl4 E9 hs9 hd9 hl hF s
   have h:=cb [(20,_),(21,_)] h hs9 hd9 ⟨aS hl 20 0 (by kernel_rfl) (hF 0 (by decide)),aS hl 21 1 (by kernel_rfl) (hF 1 (by decide)),trivial⟩
   refine bB h s Sj (yR m v9 p hp0 _ (hR.keep s.ext) hln) rfl rfl ?_;rintro f w1 v22 ⟨vx,rfl,hT⟩ hE h sq;replace s:=s.sl_new hE hT
   obtain ⟨a9,c9,rfl⟩:=cP (s.getSl 0 rfl)
   exact aw ⟨_,aV 22 h rfl rfl,rfl,s⟩
  ·intro f9 w2 vl4 E9 hs9 hd9 hl hF s
   have h:=cb [(7,_)] h hs9 hd9 ⟨d5 hl 7 (by kernel_rfl) (h.holds 7 _ rfl),trivial⟩
   refine ak 0 h s ej rfl rfl (rfl) rfl λf h=>aw ⟨_,aV 23 h rfl rfl,rfl,s⟩
  ·intro f9 w2 vl4 E9 hs9 hd9 hl hF s
   have h:=cb [(4,_),(22,.agg (bH ({m with l:=m.l.eraseIdx p.toNat}) (CO (vl4 2))))] h hs9 hd9 ⟨d5 hl 4 (by kernel_rfl) (h.holds 4 _ rfl),aS hl 22 2 (by kernel_rfl) (hF 2 (by decide)),trivial⟩
   refine aj 0 h s bV rfl rfl rfl (rfl) (rfl) (ct _ _ (Dn _)) λw1 s=>aw ⟨undef,gd rfl,trivial,s⟩
  intro f w1 vl4 hs9 hd9 hv hr hF s
  replace hv:=λi d h9=>hv i d (show Nat.blt i 5=true from h9)
  replace h:=eI 5 (ops:=_) [(20,_),(21,_),(22,.agg (bH ({m with l:=m.l.eraseIdx p.toNat}) (CO (vl4 2)))),(23,_)] h hs9 hd9 hr ⟨(hv 0 20 rfl rfl).trans (hF 0 rfl),(hv 1 21 rfl rfl).trans (hF 1 rfl),(hv 2 22 rfl rfl).trans (hF 2 rfl),(hv 3 23 rfl rfl).trans (hF 3 rfl),trivial⟩ (by kernel_rfl)
  replace s:St w [.sl (CO (vl4 2)) 61 4 ({m with l:=m.l.eraseIdx p.toNat}).l.length (bw ({m with l:=m.l.eraseIdx p.toNat}).l),.blk b4 (.cells (bH ({m with l:=m.l.eraseIdx p.toNat}) (CO (vl4 2))) 29),.blk b7 (.cells ((bZ (qt m p))) 61),.blk b5 (.cells (bZ gq) 61),.blk b2 (.cells ((bH m v9)) 29)] _:=s
  refine aj 3 h s ej rfl rfl rfl (rfl) (rfl) (dd _) λw1 s=>e9 ac 1 h rfl λf h=>av8 ?_
  exact sH 1 3 rfl h s bV ej rfl rfl rfl rfl (rfl) (rfl) rfl (G3 h0 (s.getSl 0 rfl))
theorem HY (m:Ml) (v9:Value) (p:Int) (w:World) (hR:br w v9 4 m.l.length (bw m.l)) (hln:m.l.length<=1000):Calls Tryz.prog 100 [.agg (bH m v9),.int .i64 p].toArray w (cd w (zp 61 w.heap.size (dB m p) (fO m p))):=by
 refine bN Tryz.func100 rfl Tryz.ntmps100 rfl λf h s=>qr (aZ ((bH m v9)) h s rfl rfl rfl λf w1 b2 h s=>aO (bH kG (.slice none 0 0)) h s iN rfl rfl λf w1 b4 h s=>e9 ac 1 h rfl λf h=>qr (ak 1 h s bV rfl rfl (rfl) rfl λf h=>al ac 1 h rfl λf h=>bB h s Q5 (AJ m v9 p _ (hR.keep s.ext) hln) rfl rfl ?_));rintro f w1 v12 ⟨vx,rfl,hvx⟩ hE h sq
 replace s:=s.sl_new hE hvx
 refine al ac 4 h rfl λf h=>aO (bH kG (.slice none 0 0)) h s iN rfl rfl λf w1 b6 h s=>aO (bZ gq) h s jj rfl rfl λf w1 b7 h s=>aj 1 h s bV rfl rfl rfl (rfl) (rfl) (ct _ _ (aT (s.getSl 2 rfl))) λw1 s=>aj 0 h s ej rfl rfl rfl (rfl) (rfl) (dd _) λw1 s=>e9 ac 1 h rfl λf h=>qr (ak 1 h s bV rfl rfl (rfl) rfl λf h=>al ac 1 h rfl λf h=>aj 3 h s bV rfl rfl rfl (rfl) (rfl) (ct _ _ (aT (s.getSl 2 rfl))) λw1 s=>e9 ac 1 h rfl λf h=>av8 (bL 3 rfl h s bV rfl rfl (rfl) rfl (vZ rfl rfl (s.getSl 2 rfl))))
theorem IX (m:Ml) (v9:Value) (p:Int) (w:World) (hR:br w v9 4 m.l.length (bw m.l)) (hln:m.l.length<=1000):Calls Tryz.prog 101 [.agg (bH m v9),.int .i64 p].toArray w (cd w (zp 61 w.heap.size (d7 m p) (fO m p))):=by
 refine bN Tryz.func101 rfl Tryz.ntmps101 rfl λf h s=>qr (aZ ((bH m v9)) h s rfl rfl rfl λf w1 b2 h s=>aO (bH kG (.slice none 0 0)) h s iN rfl rfl λf w1 b4 h s=>e9 ac 1 h rfl λf h=>qr (ak 1 h s bV rfl rfl (rfl) rfl λf h=>al ac 1 h rfl λf h=>bB h s Q5 (AJ m v9 p _ (hR.keep s.ext) hln) rfl rfl ?_));rintro f w1 v12 ⟨vx,rfl,hvx⟩ hE h sq
 replace s:=s.sl_new hE hvx
 refine al ac 4 h rfl λf h=>aO (bH kG (.slice none 0 0)) h s iN rfl rfl λf w1 b6 h s=>aO (bZ gq) h s jj rfl rfl λf w1 b7 h s=>aj 1 h s bV rfl rfl rfl (rfl) (rfl) (ct _ _ (aT (s.getSl 2 rfl))) λw1 s=>aj 0 h s ej rfl rfl rfl (rfl) (rfl) (dd _) λw1 s=>e9 ac 1 h rfl λf h=>ah (bJ ac 2 h rfl λf h=>cr h rfl (λhc=>?_) (λhc=>?_))
 ·replace hc:=ar4 hc
  refine qr (am h (dn kq) rfl λf h=>al ac 1 h rfl λf h=>aj 3 h s bV rfl rfl rfl (rfl) (rfl) (ct _ _ rfl) λw1 s=>e9 ac 1 h rfl λf h=>rt (bL 3 rfl h s bV rfl rfl (rfl) rfl (wc (Md hc) rfl)))
 ·have h0:fO m p=0:=by have:=ar5 hc;omega
  obtain ⟨hr1,hp0,hp1⟩:=IC h0
  refine kt (qr (ak 1 h s bV rfl rfl (rfl) rfl λf h=>ak 0 h s ej rfl rfl (rfl) rfl λf h=>bB h s CS (mY (dB m p) vx (qt m p) _ (br.of_own (s.getSl 2 rfl)) (Ky p hln)) rfl rfl ?_));rintro f w1 v22 ⟨vy,rfl,hvy⟩ hE h sq
  replace s:=s.sl_new hE hvy
  refine aj 4 h s bV rfl rfl rfl (rfl) (rfl) (ct _ _ (aT (s.getSl 0 rfl))) λw1 s=>e9 ac 1 h rfl λf h=>av8 (bL 4 rfl h s bV rfl rfl (rfl) rfl (vZ (Gj h0) h0 (s.getSl 0 rfl)))
end Go.Proofs.YtkhepdpfdhdlaaaGreatDoor
