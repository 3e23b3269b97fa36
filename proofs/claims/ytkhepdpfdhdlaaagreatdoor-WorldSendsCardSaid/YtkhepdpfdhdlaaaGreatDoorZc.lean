/- Package mail and what it stands on, so far as it is wanted: what each function answers. -/
import Derived.Test.YtkhepdpfdhdlaaaGreatDoorCon
set_option linter.unusedVariables false
set_option linter.unusedSimpArgs false
set_option linter.unusedSectionVars false
namespace Go.Proofs.YtkhepdpfdhdlaaaGreatDoor
open Go.RowKit
theorem AB (n:Int) (w:World):Calls Tryz.prog 31 [.int .i64 n].toArray w (bW w (is (.bool (Dn n)))):=by
 refine bG Tryz.func31 rfl Tryz.ntmps31 rfl λf h s=>bF ac 1 h rfl λf h=>ah ?_
 refine rs ac 1 h rfl λf h=>kB ac h rfl (λh0 f h=>?_) (λh0 f h=>?_)
 ·refine e9 ac 5 h rfl λf h=>Y8 (au rfl h s rfl (by show _=_;unfold Dn;rw [h0];rfl))
 ·refine e9 ac 5 h rfl λf h=>Y8 (au rfl h s rfl (by show _=_;unfold Dn;rw [h0];rfl))
theorem yR (m:Ml) (v9:Value) (B9:List Own) (w0 w:World) (s:St w0 B9 w):Calls Tryz.prog 32 [.agg (cK m v9)].toArray w (λe w9=>∃ r,e=.returned r/\∃ bx,r=.func (.func 70) #[] #[.pointer (some ⟨bx,0,none⟩)]/\St w0 (.blk bx (.cells (cK m v9) 29)::B9) w9):=by
 refine dG Tryz.func32 rfl Tryz.ntmps32 rfl [(0,.agg (cK m v9))] (by simp) λf h=>?_
 refine qr (bh ((cK m v9)) h s rfl rfl rfl λf w1 b1 h s=>e9 ac 1 h rfl λf h=>qr (ai h (dz [.pointer (some ⟨b1,0,none⟩)] (kT h rfl)) rfl λf h=>e9 ac 1 h rfl λf h=>Y8 (d6 rfl h rfl (⟨_,rfl,b1,rfl,s⟩))))
theorem De (m:Ml) (hln:m.l.length<=1000) (v9:Value) (lp bx:Nat) (q:Nat->Bool) (GG:Nat->Own->Prop) (g0:Own) (w0 w:World) (s:St w0 [.blk bx (.cells (cK m v9) 29),g0] w) (hg0:GG 0 g0) (hR:bp w0 v9 4 m.l.length (bD m.l)) (hY:∀ (d:Nat) (B9:List Own) (w9:World) (i:Nat) (g:Own),d<m.l.length->(∀ j,j<d->q j=false)->GG d g->St w0 B9 w9->B9[i]? = some g->ld Tryz.prog lp [Value.int .i64 (d:Int),.agg (dl (m.l.getD d qO))].toArray w9 (λv w2=>v=.bool (!q d)/\∃ g',GG (d+1) g'/\St w0 (B9.set i g') w2)):Calls Tryz.prog 70 [.func (.yield lp) #[] #[],.pointer (some ⟨bx,0,none⟩)].toArray w (λe w9=>(∃ v,e=.returned v)/\∃ d g,GG d g/\St w0 ([.blk bx (.cells (cK m v9) 29)]++[g]) w9/\d<=m.l.length/\(∀ j,j+1<d->q j=false)/\(lq q d=false->d=m.l.length)):=by
 refine dG Tryz.func70 rfl Tryz.ntmps70 rfl [(0,.func (.yield lp) #[] #[]),(1,.pointer (some ⟨bx,0,none⟩))] (by simp) λf h=>?_
 refine cu ac 1 h rfl λf h=>ag (ae (aJ.of_own s 0 rfl) 0 (rfl)) h gf rfl rfl λf h=>ce h (hR.keep s.ext) aa1 rfl rfl λf h=>e9 ac 1 h rfl λf h=>Y9 (Zb (λnn aa ww=>∃ d:Nat,∃ gg:Own,Sl 19 aa [(0,.func (.yield lp) #[] #[]),(1,.pointer (some ⟨bx,0,none⟩)),(6,v9),(7,.int .i64 (m.l.length:Int)),(8,.int .i64 (d:Int))]/\St w0 [.blk bx (.cells (cK m v9) 29),(gg)] ww/\nn=m.l.length - d/\d<=m.l.length/\GG d gg/\∀ j,j<d->q j=false) (m.l.length - (0)) ⟨0,g0,h.only ⟨rfl,rfl,rfl,rfl,av rfl (by omega),trivial⟩,s.as ⟨rfl,rfl,trivial⟩,rfl,YO _,hg0,λj hj=>ZF hj (Zl _)⟩ ?_)
 rintro _ f w1 ⟨d,gg,h,s,hnn,hp0,hp1,hp2⟩
 refine bF ac 1 h rfl λf h=>ah (dq h rfl (λhc=>?_) (λhc=>?_))
 ·refine kt (ah (Y9 (cu ac 1 h rfl λf h=>?_)))
  have hdl:d<m.l.length:=by omega
  refine ai h (bz (hR.keep s.ext) (d) aa1 Nl (h.ev rfl) (h.ev rfl) (by omega) (by omega)) rfl λf h=>aB ((hR.keep s.ext).el (d) (by omega) (by decide) (D:=dl (m.l.getD d qO)) ((Me m.l d hdl).trans (Xh hdl))) h qY rfl (rfl) rfl λf h=>aS (dl qO) h s HL rfl rfl λf w1 b4 h s=>ap ac 1 h rfl λf h=>ak 0 h s qY rfl rfl rfl (rfl) (rfl) (iN _) λw1 s=>nt (ah ?_)
  cases hq:(q d:Bool)
  ·refine rs ac 2 h rfl λf h=>al 0 h s qY rfl rfl (rfl) rfl λf h=>ik (V:=.bool true) (G:=GG (d+1)) [.int .i64 (d:Int),.agg (dl (m.l.getD d qO))] 2 h rfl rfl (by have h9:=hY d _ _ 2 gg hdl hp2 hp1 s rfl;rw [hq] at h9;exact h9) rfl ?_;intro f w1 g1 hg1 h s
   refine e9 ac 1 h rfl λf h=>m4 h rfl (wpIn_skip (bw (aO (aG (ai h (bS (h.ev rfl) (h.ev rfl) (by omega)) rfl λf h=>e9 ac 1 h rfl λf h=>?_)))))
   exact ⟨_,by omega,⟨d+1,g1,h.only ⟨rfl,rfl,rfl,rfl,av rfl (by omega),trivial⟩,St.as (s.pick _ (YJ [_] _)) ⟨rfl,rfl,trivial⟩,rfl,by omega,hg1,gX hp2 hq⟩⟩
  ·refine rs ac 2 h rfl λf h=>al 0 h s qY rfl rfl (rfl) rfl λf h=>ik (V:=.bool false) (G:=GG (d+1)) [.int .i64 (d:Int),.agg (dl (m.l.getD d qO))] 2 h rfl rfl (by have h9:=hY d _ _ 2 gg hdl hp2 hp1 s rfl;rw [hq] at h9;exact h9) rfl ?_;intro f w1 g1 hg1 h s
   refine e9 ac 1 h rfl λf h=>dQ h rfl (Y8 (bo (aV (aV (bo ?_)))))
   exact uS rfl h (⟨⟨_,rfl⟩,d+1,g1,hg1,s.pick _ (YN _ _),by omega,λj hj=>hp2 j (by omega),λh9=>ZF (hq.symm.trans h9) (by decide)⟩)
 ·refine Za (a7 (a7 (cd ?_)))
  exact gP rfl h (⟨⟨_,rfl⟩,d,gg,hp1,s,hp0,λj hj=>hp2 j (by omega),λ_=>by omega⟩)
theorem oA (n:Int) (w:World):Calls Tryz.prog 33 [.int .i64 n].toArray w (bW w (is (.bool (nC n)))):=by
 refine bG Tryz.func33 rfl Tryz.ntmps33 rfl λf h s=>bF ac 1 h rfl λf h=>ah ?_
 refine rs ac 1 h rfl λf h=>kB ac h rfl (λh0 f h=>?_) (λh0 f h=>?_)
 ·refine e9 ac 5 h rfl λf h=>Y8 (au rfl h s rfl (by show _=_;unfold nC;rw [h0];rfl))
 ·refine e9 ac 5 h rfl λf h=>Y8 (au rfl h s rfl (by show _=_;unfold nC;rw [h0];rfl))
theorem qx (m:Ml) (v9:Value) (w:World) (hR:bp w v9 4 m.l.length (bD m.l)) (hln:m.l.length<=1000):Calls Tryz.prog 17 [.agg (cK m v9)].toArray w (bW w (is (.bool (cM m)))):=by
 refine gF Tryz.func17 rfl Tryz.ntmps17 rfl [(0,.agg (cK m v9))] (by simp) λf h=>?_
 have s:=St.start w
 refine qr (bh ((cK m v9)) h s rfl rfl rfl λf w1 b1 h s=>aS (#[.bool false]) h s AI rfl rfl λf w1 b2 h s=>nt (ah (ah ?_)))
 cases h0:(decide (m.l.length<=64):Bool)
 ·refine rs ac 1 h rfl λf h=>ag (ae (aJ.of_own s 1 rfl) 0 (rfl)) h gf rfl rfl λf h=>ce h (hR.keep s.ext) aa1 rfl rfl λf h=>gO ac h rfl (Yt (by have:=Yr h0;omega)) λf h=>e9 ac 12 h rfl λf h=>dQ h rfl (qr (aR 0 h s cI rfl rfl rfl (by simp) (rfl) λw1 s=>nt (rt ?_)))
  exact jp 0 rfl h s cI rfl rfl rfl (λw9=>by show _=_;rw [Dl h0];rfl)
 ·skip
  refine rs ac 1 h rfl λf h=>ag (ae (aJ.of_own s 1 rfl) 0 (rfl)) h gf rfl rfl λf h=>ce h (hR.keep s.ext) aa1 rfl rfl λf h=>kw ac h rfl (Ys (by have:=Yq h0;omega)) λf h=>ap ac 2 h rfl λf h=>bX h rfl (ag (ae (aJ.of_own s 1 rfl) 1 (rfl)) h bs rfl rfl λf h=>bX h rfl (eK h s MM (AB _ _) rfl rfl (λh1 f w1 h s=>?_) (λh1 f w1 h s=>?_)))
  ·refine e9 ac 8 h rfl λf h=>dQ h rfl (qr (aR 0 h s cI rfl rfl rfl (by simp) (rfl) λw1 s=>nt (rt ?_)))
   exact jp 0 rfl h s cI rfl rfl rfl (λw9=>by show _=_;rw [CI h1];rfl)
  ·skip
   refine ap ac 4 h rfl λf h=>bX h rfl (ag (ae (aJ.of_own s 1 rfl) 2 (rfl)) h bs rfl rfl λf h=>bX h rfl (eK h s MM (AB _ _) rfl rfl (λh2 f w1 h s=>?_) (λh2 f w1 h s=>?_)))
   ·refine e9 ac 2 h rfl λf h=>dQ h rfl (qr (aR 0 h s cI rfl rfl rfl (by simp) (rfl) λw1 s=>nt (rt ?_)))
    exact jp 0 rfl h s cI rfl rfl rfl (λw9=>by show _=_;rw [Dc h2];rfl)
   ·refine e9 ac 2 h rfl λf h=>qC h rfl (ah (qr (al 1 h s dP rfl rfl (rfl) rfl λf h=>dI [.agg (cK m v9)] h SU (yR m v9 _ _ _ s) rfl rfl ?_)));rintro f w1 r ⟨bx,rfl,s⟩ h
    refine nt (Y9 (gC (λ_ A9=>A9=[.blk b2 (.cells #[.bool false] 4),.blk b1 (.cells (cK m v9) 29)]) [.blk b2 (.cells #[.bool false] 4),.blk b1 (.cells (cK m v9) 29)] [.blk bx (.cells (cK m v9) 29)] (m.l.length) (Dj m) (λd=>[Value.int .i64 (d:Int),.agg (dl (m.l.getD d qO))]) h s rfl Tp (List.Perm.refl _) (rfl) (λ_=>rfl) ?_ ?_ ?_ ?_))
    ·intro lp w2 GG g0 hg0 s2 hY;exact De m hln v9 lp bx (Dj m) GG g0 w w2 s2 hg0 hR hY
    ·intro lp D9 d9 rc R9 A9 w2 hd9 hq9 hJ9 s
     obtain rfl:=hJ9
     have h:=Sl.round2 (p:=23) (q:=24) (V:=.int .i64 (d9:Int)) (U:=.agg (dl (m.l.getD d9 qO))) h rfl rfl
     refine aG (aS (dl qO) h s HL rfl rfl λf w1 b4 h s=>ak 0 h s qY rfl rfl rfl (rfl) (rfl) (iN _) λw1 s=>nt (⟨_,s.perm (ZB (l₁:=[_])),λw3 s=>?_⟩))
     refine Y9 (ah ?_)
     refine rs ac 1 h rfl λf h=>ag (ae (aJ.of_own s 1 rfl) 0 (rfl)) h bs rfl rfl λf h=>kB ac h rfl (λk0 f h=>?_) (λk0 f h=>?_)
     ·skip
      refine ap ac 2 h rfl λf h=>bX h rfl (ag (ae (aJ.of_own s 1 rfl) 0 (rfl)) h bs rfl rfl λf h=>ap ac 1 h rfl λf h=>bX h rfl (ag (ae (aJ.of_own s 4 rfl) 1 (rfl)) h bs rfl rfl λf h=>bX h rfl (kB ac h rfl (λk1 f h=>?_) (λk1 f h=>?_))))
      ·skip
       refine ap ac 3 h rfl λf h=>bX h rfl (ag (ae (aJ.of_own s 1 rfl) 1 (rfl)) h bs rfl rfl λf h=>bX h rfl (eK h s BD (oA _ _) rfl rfl (λk2 f w1 h s=>?_) (λk2 f w1 h s=>?_)))
       ·refine e9 ac 14 h rfl λf h=>dQ h rfl (qr (aR 3 h s cI rfl rfl rfl (by simp) (rfl) λw1 s=>nt (Y8 (bo (⟨by show jk _ _=_;unfold jk;simp only [k0,k1,k2,Bool.true_or,Bool.false_or,Bool.or_true,Bool.not_false,Bool.not_true],_,rfl,s.pick _ ?_⟩)))))
        exact Yo _ (Yp _ (List.Sublist.refl _))
       ·skip
        refine ap ac 4 h rfl λf h=>bX h rfl (ag (ae (aJ.of_own s 1 rfl) 2 (rfl)) h bs rfl rfl λf h=>bX h rfl (eK h s BD (oA _ _) rfl rfl (λk3 f w1 h s=>?_) (λk3 f w1 h s=>?_)))
        ·refine e9 ac 8 h rfl λf h=>dQ h rfl (qr (aR 3 h s cI rfl rfl rfl (by simp) (rfl) λw1 s=>nt (Y8 (bo (⟨by show jk _ _=_;unfold jk;simp only [k0,k1,k2,k3,Bool.true_or,Bool.false_or,Bool.or_true,Bool.not_false,Bool.not_true],_,rfl,s.pick _ ?_⟩)))))
         exact Yo _ (Yp _ (List.Sublist.refl _))
        ·skip
         cases k4:(decide (300<(m.l.getD d9 qO).2.2.2.size):Bool)
         ·refine ap ac 4 h rfl λf h=>bX h rfl (ag (ae (aJ.of_own s 1 rfl) 3 (rfl)) h hI rfl rfl λf h=>bX h rfl (ai h (dd Z7 (h.ev rfl)) rfl λf h=>bX h rfl (kw ac h rfl (Ys (by have:=Yr k4;omega)) λf h=>e9 ac 1 h rfl λf h=>m4 h rfl (wpIn_skip (bw (⟨by show jk _ _=_;unfold jk;simp only [k0,k1,k2,k3,k4,Bool.true_or,Bool.false_or,Bool.or_true,Bool.not_false,Bool.not_true],_,rfl,s.pick _ ?_⟩))))))
          exact Yo _ (Yp _ (List.Sublist.refl _))
         ·refine ap ac 4 h rfl λf h=>bX h rfl (ag (ae (aJ.of_own s 1 rfl) 3 (rfl)) h hI rfl rfl λf h=>bX h rfl (ai h (dd Z7 (h.ev rfl)) rfl λf h=>bX h rfl (gO ac h rfl (Yt (by have:=Yq k4;omega)) λf h=>e9 ac 1 h rfl λf h=>dQ h rfl (qr (aR 3 h s cI rfl rfl rfl (by simp) (rfl) λw1 s=>nt (Y8 (bo (⟨by show jk _ _=_;unfold jk;simp only [k0,k1,k2,k3,k4,Bool.true_or,Bool.false_or,Bool.or_true,Bool.not_false,Bool.not_true],_,rfl,s.pick _ ?_⟩))))))))
          exact Yo _ (Yp _ (List.Sublist.refl _))
      ·refine e9 ac 19 h rfl λf h=>dQ h rfl (qr (aR 3 h s cI rfl rfl rfl (by simp) (rfl) λw1 s=>nt (Y8 (bo (⟨by show jk _ _=_;unfold jk;simp only [k0,k1,Bool.true_or,Bool.false_or,Bool.or_true,Bool.not_false,Bool.not_true],_,rfl,s.pick _ ?_⟩)))))
       exact Yo _ (Yp _ (List.Sublist.refl _))
     ·refine e9 ac 25 h rfl λf h=>dQ h rfl (qr (aR 3 h s cI rfl rfl rfl (by simp) (rfl) λw1 s=>nt (Y8 (bo (⟨by show jk _ _=_;unfold jk;simp only [k0,Bool.true_or,Bool.false_or,Bool.or_true,Bool.not_false,Bool.not_true],_,rfl,s.pick _ ?_⟩)))))
      exact Yo _ (Yp _ (List.Sublist.refl _))
    ·intro D9 A9 w2 hJ9 hq9 s
     obtain rfl:=hJ9
     replace h:Sl _ {f with defers:={target:=.collected D9,args:=#[]}::f.defers} _ [{target:=.collected D9,args:=#[]}]:=⟨h.size,by rw [h.defers],h.holds⟩
     refine bw (aO (qr (aR 2 h s cI rfl rfl rfl (by simp) (rfl) λw1 s=>nt (Y8 ?_))))
     exact fQ 2 0 rfl h s cI rfl rfl rfl rfl rfl (λw9=>by show _=_;rw [zb h0 h1 h2 hq9];rfl)
    ·intro D9 d9 A9 w2 hd9 hqd9 hq9 hJ9 s
     obtain rfl:=hJ9
     replace h:Sl _ {f with defers:={target:=.collected D9,args:=#[]}::f.defers} _ [{target:=.collected D9,args:=#[]}]:=⟨h.size,by rw [h.defers],h.holds⟩
     refine bo (aV ?_)
     exact fQ 2 0 rfl h s cI rfl rfl rfl rfl rfl (λw9=>by show _=_;rw [zg hd9 hqd9];rfl)
theorem FA (l:List Lt) (hln:l.length<=1000) (a9:Option Addr) (n9 c9:Nat) (w:World) (hR:bp w (.slice a9 n9 c9) 4 l.length (bD l)):Calls Tryz.prog 57 [.slice a9 n9 c9].toArray w (bW w (λv w'=>cq w' w.heap.size 61 4 v l.length (bD l))):=by
 refine bG Tryz.func57 rfl Tryz.ntmps57 rfl λf h s=>bF ac 1 h rfl λf h=>ah (ah ?_)
 cases hn:(a9.isNone:Bool)
 ·refine rs ac 1 h rfl λf h=>ai h (bq (.bool false) (bR aa1 (h.ev rfl) (h.ev rfl)) (Yu Value.bool hn)) rfl λf h=>f7 h rfl (qr (ej (base:=w.heap.size) h aa1 Bc (YM _) rfl λf w2 v5 h hE3 e5=>ap ac 1 h rfl λf h=>dh (base:=w.heap.size) e5 (hR.keep hE3) h aa1 Bc rfl rfl hE3.le (uN _) (by unfold maxLen;omega) (by omega) rfl λf w3 v7 h hE4 e7=>?_))
  replace s:=s.sl_new (hE3.trans hE4) e7
  refine e9 ac 1 h rfl λf h=>Y8 (au rfl h s rfl (s.getSl 0 rfl))
 ·refine rs ac 1 h rfl λf h=>ai h (bq (.bool true) (bR aa1 (h.ev rfl) (h.ev rfl)) (Yu Value.bool hn)) rfl λf h=>ie h rfl (bF ac 1 h rfl λf h=>rt (au rfl h s rfl (by obtain rfl:=Ci hn hR;exact dT _ _ _ _)))
theorem rP (l:List Lt) (hln:l.length<=1000) (v9:Value) (w:World) (hR:bp w v9 4 l.length (bD l)):Calls Tryz.prog 57 [v9].toArray w (bW w (λv w'=>cq w' w.heap.size 61 4 v l.length (bD l))):=by
 obtain ⟨a,c,rfl⟩:=hR.len
 exact FA l hln a _ c w hR
theorem pI (m:Ml) (v9:Value) (w:World) (hR:bp w v9 4 m.l.length (bD m.l)) (hln:m.l.length<=1000):Calls Tryz.prog 177 [.agg (cK m v9)].toArray w (bW w (is (.bool (decide (m.l.length=64))))):=by
 refine bG Tryz.func177 rfl Tryz.ntmps177 rfl λf h s=>qr (bh ((cK m v9)) h s rfl rfl rfl λf w1 b1 h s=>e9 ac 1 h rfl λf h=>cu ac 1 h rfl λf h=>ag (ae (aJ.of_own s 0 rfl) 0 (rfl)) h gf rfl rfl λf h=>ce h (hR.keep s.ext) aa1 rfl rfl λf h=>lL ac (.bool (decide (m.l.length=64))) h rfl (Yu Value.bool (YE.2 (by omega))) rfl λf h=>e9 ac 1 h rfl λf h=>Y8 (au rfl h s rfl (rfl)))
theorem yY (m:Ml) (v9:Value) (x:Lt) (w:World) (hR:bp w v9 4 m.l.length (bD m.l)) (hln:m.l.length<=1000):Calls Tryz.prog 178 [.agg (cK m v9),.agg (dl x)].toArray w (bW w (Cj 61 w.heap.size {m with l:=m.l++[x]})):=by
 refine bG Tryz.func178 rfl Tryz.ntmps178 rfl λf h s=>qr (bh ((cK m v9)) h s rfl rfl rfl λf w1 b2 h s=>bh ((dl x)) h s rfl rfl rfl λf w1 b3 h s=>aS (cK x7 (.slice none 0 0)) h s zU rfl rfl λf w1 b4 h s=>nt (ah (eu 0 6 [[],[0],[0,1],[],[3],[0,1,2,3,4],[0,1,2,3,4,5],[0,1,2,3,4,5,6]] [[],[],[],[],[],[2,4],[],[]] [] [.v _,.v v9,.m (λv=>[.sl (v 2) 61 4 m.l.length (bD m.l)]),.v (.agg (dl x)),.m (λv=>[.sl (v 4) 61 4 1 (dl x).toList]),.m (λv=>[.sl (v 5) 61 4 (m.l++[x]).length (bD (m.l++[x]))]),.n,.n] _ h s rfl (by kernel_rfl) (by kernel_rfl) (by kernel_rfl) (fB ac h rfl rfl rfl (cp ?_ (cp ?_ (cp ?_ (cp ?_ (cp ?_ (trivial))))))) [0,1,3,5] (by kernel_rfl) ?_)))
 ·intro f9 w2 vl1 E9 hs9 hd9 hl hF s
  have h:=cG [(5,_)] h hs9 hd9 ⟨bg hl 5 0 (by kernel_rfl) (hF 0 (by decide)),trivial⟩
  refine ag (ae (aJ.of_own s 2 rfl) 0 (rfl)) h gf rfl rfl λf h=>ay ⟨_,bk 6 h rfl rfl,rfl,s⟩
 ·intro f9 w2 vl1 E9 hs9 hd9 hl hF s
  have h:=cG [(6,_)] h hs9 hd9 ⟨bg hl 6 1 (by kernel_rfl) (hF 1 (by decide)),trivial⟩
  refine bB h s LY (rP m.l hln v9 _ (hR.keep s.ext)) rfl rfl ?_;intro f w1 v7 hT hE h sq;replace s:=s.sl_new hE hT
  exact ay ⟨_,bk 7 h rfl rfl,trivial,s⟩
 ·intro f9 w2 vl1 E9 hs9 hd9 hl hF s
  have h:=cG [(3,_)] h hs9 hd9 ⟨fh hl 3 (by kernel_rfl) (h.holds 3 _ rfl),trivial⟩
  refine al 1 h s qY rfl rfl (rfl) rfl λf h=>ay ⟨_,bk 8 h rfl rfl,rfl,s⟩
 ·intro f9 w2 vl1 E9 hs9 hd9 hl hF s
  have h:=cG [(8,_)] h hs9 hd9 ⟨bg hl 8 3 (by kernel_rfl) (hF 3 (by decide)),trivial⟩
  refine cT (vs:=[.agg (dl x)]) [.tmp 8] h s aa1 Bc rfl rfl (xN _) rfl rfl rfl λf w1 v9 h s=>?_
  replace s:=s.resl (m:=1) (ys:=(dl x).toList) 0 rfl rfl (QO _)
  exact ay ⟨_,bk 9 h rfl rfl,trivial,s⟩
 ·intro f9 w2 vl1 E9 hs9 hd9 hl hF s
  have e7:f9.tmps.getD 7 undef=(vl1 2):=du hl 7 2 (by kernel_rfl) (by kernel_rfl)
  have e9:f9.tmps.getD 9 undef=(vl1 4):=du hl 9 4 (by kernel_rfl) (by kernel_rfl)
  have h:=cU [(7,(vl1 2)),(9,(vl1 4))] (hs9.trans h.size) (hd9.trans h.defers) (holds_lk ⟨e7,e9,trivial⟩)
  refine ei 0 1 h s aa1 Bc rfl rfl rfl rfl (by decide) (iN x) (by unfold maxLen;omega) (by omega) rfl λf w1 v10 h s=>?_
  replace s:=s.resl (m:=(m.l++[x]).length) (ys:=bD (m.l++[x])) 0 rfl (by rw [Yy];rfl) (zn _ _)
  exact ay ⟨_,bk 10 h rfl rfl,trivial,(s.pick _ (Yo _ (Yp _ (Yo _ (Yo _ (Yo _ (List.Sublist.refl _)))))))⟩
 intro f w1 vl1 hs9 hd9 hv hr hF s
 replace hv:=λi d h9=>hv i d (show Nat.blt i 6=true from h9)
 replace h:=dN 6 (ops:=_) [(5,_),(6,_),(7,(vl1 2)),(8,_),(9,(vl1 4)),(10,(vl1 5))] h hs9 hd9 hr ⟨(hv 0 5 rfl rfl).trans (hF 0 rfl),(hv 1 6 rfl rfl).trans (hF 1 rfl),hv 2 7 rfl rfl,(hv 3 8 rfl rfl).trans (hF 3 rfl),hv 4 9 rfl rfl,hv 5 10 rfl rfl,trivial⟩ (by kernel_rfl)
 replace s:St w [.sl (vl1 5) 61 4 (m.l++[x]).length (bD (m.l++[x])),.blk b4 (.cells (cK x7 (.slice none 0 0)) 29),.blk b3 (.cells ((dl x)) 61),.blk b2 (.cells ((cK m v9)) 29)] _:=s
 refine ap ac 1 h rfl λf h=>aR 3 h s gf rfl rfl rfl (by show _<3;decide) (bA (s.getSl 0 rfl)) λw1 s=>?_
 replace s:=s.recell (D:=cK {m with l:=m.l++[x]} (vl1 5)) 3 rfl rfl
 refine nt (qr (al 3 h s dP rfl rfl (rfl) rfl λf h=>ak 1 h s dP rfl rfl rfl (rfl) (rfl) (ew _ _ (bA (s.getSl 0 rfl))) λw1 s=>nt (Y8 (nq 1 rfl h s dP rfl rfl (rfl) (⟨(vl1 5),rfl,s.getSl 0 rfl⟩)))))
theorem Ek (m:Ml) (v9:Value) (fr tt:Int) (dx:ByteArray) (w:World) (hR:bp w v9 4 m.l.length (bD m.l)) (hln:m.l.length<=1000):Calls Tryz.prog 223 [.agg (cK m v9),.int .i64 fr,.int .i64 tt,.string dx].toArray w (bW w (Ec 61 w.heap.size m fr tt dx)):=by
 refine bG Tryz.func223 rfl Tryz.ntmps223 rfl λf h s=>qr (bh ((cK m v9)) h s rfl rfl rfl λf w1 b4 h s=>aS (cK x7 (.slice none 0 0)) h s zU rfl rfl λf w1 b8 h s=>e9 ac 2 h rfl λf h=>ah (ah ?_))
 refine aG (al 1 h s dP rfl rfl (rfl) rfl λf h=>eK h s Mv (qx m v9 _ (hR.keep s.ext) hln) rfl rfl (λhr f w1 h s=>?_) (λhr f w1 h s=>?_))
 ·refine e9 ac 11 h rfl λf h=>dQ h rfl (qr (ai h (eD rE) rfl λf h=>ak 0 h s dP rfl rfl rfl (rfl) (rfl) (ew _ _ rfl) λw1 s=>e9 ac 2 h rfl λf h=>rt ?_))
  exact d5 0 rfl h s dP rfl rfl (rfl) rfl rfl (kg (ot (by rw [hr];rfl)) (by decide))
 ·skip
  refine ap ac 3 h rfl λf h=>bX h rfl (eK h s BD (oA _ _) rfl rfl (λhf f w1 h s=>?_) (λhf f w1 h s=>?_))
  ·refine e9 ac 7 h rfl λf h=>dQ h rfl (qr (ai h (eD rE) rfl λf h=>ak 0 h s dP rfl rfl rfl (rfl) (rfl) (ew _ _ rfl) λw1 s=>e9 ac 2 h rfl λf h=>rt ?_))
   exact d5 0 rfl h s dP rfl rfl (rfl) rfl rfl (kg (ot (by rw [hr,hf];rfl)) (by decide))
  ·skip
   refine ap ac 4 h rfl λf h=>bX h rfl (eK h s BD (oA _ _) rfl rfl (λht f w1 h s=>?_) (λht f w1 h s=>?_))
   ·refine e9 ac 2 h rfl λf h=>dQ h rfl (qr (ai h (eD rE) rfl λf h=>ak 0 h s dP rfl rfl rfl (rfl) (rfl) (ew _ _ rfl) λw1 s=>e9 ac 2 h rfl λf h=>rt ?_))
    exact d5 0 rfl h s dP rfl rfl (rfl) rfl rfl (kg (ot (by rw [hr,hf,ht];rfl)) (by decide))
   ·refine e9 ac 2 h rfl λf h=>qC h rfl (ah (cu ac 1 h rfl λf h=>ai h (dd Z7 (h.ev rfl)) rfl λf h=>e9 ac 1 h rfl λf h=>cA h rfl (λhc=>?_) (λhc=>?_)))
    ·replace hc:=Yq hc
     have hb:(!cM m || (!nC fr || !nC tt))=false:=by rw [hr,hf,ht];rfl
     refine qr (ai h (eD rE) rfl λf h=>ak 0 h s dP rfl rfl rfl (rfl) (rfl) (ew _ _ rfl) λw1 s=>e9 ac 2 h rfl λf h=>rt ?_)
     exact d5 0 rfl h s dP rfl rfl (rfl) rfl rfl (kg (AO hb (by omega)) (by decide))
    ·have hsz:=Yr hc
     have hb:(!cM m || (!nC fr || !nC tt))=false:=by rw [hr,hf,ht];rfl
     refine kt (ah (ah ?_))
     cases hu:(decide (m.l.length=64):Bool)
     ·skip
      cases hv:(decide (m.last=1099511627776):Bool)
      ·refine aG (al 1 h s dP rfl rfl (rfl) rfl λf h=>bB h s zK (aX (.bool false) (pI m v9 _ (hR.keep s.ext) hln) (Yu Value.bool hu)) rfl rfl ?_);intro f w1 v9 hT hE h s;obtain rfl:=hT
       refine ap ac 2 h rfl λf h=>bX h rfl (ag (ae (aJ.of_own s 1 rfl) 1 (rfl)) h bs rfl rfl λf h=>bX h rfl (kw ac h rfl hv λf h=>e9 ac 1 h rfl λf h=>qC h rfl (cu ac 1 h rfl λf h=>?_)))
       have hbd:=((fG m).1 hr).2.1
       refine ag (ae (aJ.of_own s 1 rfl) 1 (rfl)) h bs rfl rfl λf h=>ai h (bS (h.ev rfl) (h.ev rfl) (by omega)) rfl λf h=>ap ac 1 h rfl λf h=>aR 1 h s bs rfl rfl rfl (by show _<3;decide) (rfl) λw1 s=>?_
       replace s:=s.recell (D:=cK {m with last:=m.last+1} v9) 1 rfl rfl
       refine nt (ah ?_)
       have hvv:=hv
       replace s:St w [.blk b8 (.cells (cK x7 (.slice none 0 0)) 29),.blk b4 (.cells (cK {m with last:=m.last+1} v9) 29)] _:=s
       refine eu 1 11 [[],[],[1],[],[],[],[1,2,3,4,5],[0,1,2,3,4,5,6],[],[8],[0,1,2,3,4,5,6,7],[0,1,2,3,4,5,6,7,8,9,10],[0,1,2,3,4,5,6,7,8,9,10,11]] [[],[],[],[],[],[],[],[],[],[],[13],[],[]] [[_]] [.v (.agg (cK {m with last:=m.last+1} v9)),.v _,.v (.int .i64 (m.last+1)),.v _,.v _,.v _,.v (.agg (dl (m.last+1,fr,tt,dx))),.r (λv=>[.sl (Nb (v 7)) 61 4 (⟨m.l++[(m.last+1,fr,tt,dx)],m.last+1,m.now⟩:Ml).l.length (bD (⟨m.l++[(m.last+1,fr,tt,dx)],m.last+1,m.now⟩:Ml).l)]) (λv=>v 7=.agg (cK ⟨m.l++[(m.last+1,fr,tt,dx)],m.last+1,m.now⟩ (Nb (v 7)))),.v _,.v (.int .i64 (m.last+1)),.m (λv=>[.blk b8 (.cells (cK ⟨m.l++[(m.last+1,fr,tt,dx)],m.last+1,m.now⟩ (Nb (v 7))) 29)]),.n,.n] _ h s rfl (by kernel_rfl) (by kernel_rfl) (by kernel_rfl) (cp ?_ (fB ac h rfl rfl rfl (cp ?_ (fB ac h rfl rfl rfl (fB ac h rfl rfl rfl (fB ac h rfl rfl rfl (cp ?_ (cp ?_ (fB ac h rfl rfl rfl (cp ?_ (cp ?_ (trivial)))))))))))) [0,1,2,3,4,5,6,7,8,9,10] (by kernel_rfl) ?_
       ·intro f9 w2 vl8 E9 hs9 hd9 hl hF s
        have h:=cG [(4,_)] h hs9 hd9 ⟨fh hl 4 (by kernel_rfl) (h.holds 4 _ rfl),trivial⟩
        refine al 0 h s dP rfl rfl (rfl) rfl λf h=>ay ⟨_,bk 41 h rfl rfl,rfl,s⟩
       ·intro f9 w2 vl8 E9 hs9 hd9 hl hF s
        have h:=cG [(42,_)] h hs9 hd9 ⟨bg hl 42 1 (by kernel_rfl) (hF 1 (by decide)),trivial⟩
        refine ag (ae (aJ.of_own s 0 rfl) 1 (rfl)) h bs rfl rfl λf h=>ay ⟨_,bk 43 h rfl rfl,rfl,s⟩
       ·intro f9 w2 vl8 E9 hs9 hd9 hl hF s
        have h:=cG [(43,_),(44,_),(45,_),(46,_)] h hs9 hd9 ⟨bg hl 43 2 (by kernel_rfl) (hF 2 (by decide)),bg hl 44 3 (by kernel_rfl) (hF 3 (by decide)),bg hl 45 4 (by kernel_rfl) (hF 4 (by decide)),bg hl 46 5 (by kernel_rfl) (hF 5 (by decide)),trivial⟩
        refine ai h (w7 S0 (h.ev rfl) (h.ev rfl) (h.ev rfl) (h.ev rfl)) rfl λf h=>ay ⟨_,bk 47 h rfl rfl,rfl,s⟩
       ·intro f9 w2 vl8 E9 hs9 hd9 hl hF s
        have h:=cG [(41,_),(47,_)] h hs9 hd9 ⟨bg hl 41 0 (by kernel_rfl) (hF 0 (by decide)),bg hl 47 6 (by kernel_rfl) (hF 6 (by decide)),trivial⟩
        refine bB h s Px (yY {m with last:=m.last+1} v9 (m.last+1,fr,tt,dx) _ (hR.keep s.ext) hln) rfl rfl ?_;rintro f w1 v48 ⟨vx,rfl,hT⟩ hE h sq;replace s:=s.sl_new hE hT
        obtain ⟨a9,c9,rfl⟩:=dA (s.getSl 0 rfl)
        exact ay ⟨_,bk 48 h rfl rfl,rfl,s⟩
       ·intro f9 w2 vl8 E9 hs9 hd9 hl hF s
        have h:=cG [(49,_)] h hs9 hd9 ⟨bg hl 49 8 (by kernel_rfl) (hF 8 (by decide)),trivial⟩
        refine ag (ae (aJ.of_own s 0 rfl) 1 (rfl)) h bs rfl rfl λf h=>ay ⟨_,bk 50 h rfl rfl,rfl,s⟩
       ·intro f9 w2 vl8 E9 hs9 hd9 hl hF s
        have h:=cG [(8,_),(48,.agg (cK ⟨m.l++[(m.last+1,fr,tt,dx)],m.last+1,m.now⟩ (Nb (vl8 7))))] h hs9 hd9 ⟨fh hl 8 (by kernel_rfl) (h.holds 8 _ rfl),bg hl 48 7 (by kernel_rfl) (hF 7 (by decide)),trivial⟩
        refine ak 0 h s dP rfl rfl rfl (rfl) (rfl) (ew _ _ (Lx _)) λw1 s=>ay ⟨undef,l8 rfl,trivial,s⟩
       intro f w1 vl8 hs9 hd9 hv hr hF s
       replace hv:=λi d h9=>hv i d (show Nat.blt i 11=true from h9)
       replace h:=dN 11 (ops:=_) [(41,_),(42,_),(43,_),(44,_),(45,_),(46,_),(47,_),(48,.agg (cK ⟨m.l++[(m.last+1,fr,tt,dx)],m.last+1,m.now⟩ (Nb (vl8 7)))),(49,_),(50,_)] h hs9 hd9 hr ⟨(hv 0 41 rfl rfl).trans (hF 0 rfl),(hv 1 42 rfl rfl).trans (hF 1 rfl),(hv 2 43 rfl rfl).trans (hF 2 rfl),(hv 3 44 rfl rfl).trans (hF 3 rfl),(hv 4 45 rfl rfl).trans (hF 4 rfl),(hv 5 46 rfl rfl).trans (hF 5 rfl),(hv 6 47 rfl rfl).trans (hF 6 rfl),(hv 7 48 rfl rfl).trans (hF 7 rfl),(hv 8 49 rfl rfl).trans (hF 8 rfl),(hv 9 50 rfl rfl).trans (hF 9 rfl),trivial⟩ (by kernel_rfl)
       replace s:St w [.sl (Nb (vl8 7)) 61 4 (⟨m.l++[(m.last+1,fr,tt,dx)],m.last+1,m.now⟩:Ml).l.length (bD (⟨m.l++[(m.last+1,fr,tt,dx)],m.last+1,m.now⟩:Ml).l),.blk b8 (.cells (cK ⟨m.l++[(m.last+1,fr,tt,dx)],m.last+1,m.now⟩ (Nb (vl8 7))) 29),.blk b4 (.cells (cK {m with last:=m.last+1} v9) 29)] _:=s
       refine e9 ac 2 h rfl λf h=>Y8 ?_
       exact d5 1 rfl h s dP rfl rfl (rfl) rfl rfl (Js (IT hb (by omega) (by rw [hu,hvv];rfl)) (s.getSl 0 rfl))
      ·refine aG (al 1 h s dP rfl rfl (rfl) rfl λf h=>m9 false h s zK (pI m v9 _ (hR.keep s.ext) hln) (hu) rfl rfl λf w1 h s=>ap ac 2 h rfl λf h=>bX h rfl (ag (ae (aJ.of_own s 1 rfl) 1 (rfl)) h bs rfl rfl λf h=>bX h rfl (gO ac h rfl hv λf h=>e9 ac 1 h rfl λf h=>dQ h rfl (qr (ai h (eD rE) rfl λf h=>ak 0 h s dP rfl rfl rfl (rfl) (rfl) (ew _ _ rfl) λw1 s=>e9 ac 2 h rfl λf h=>rt ?_)))))
       exact d5 0 rfl h s dP rfl rfl (rfl) rfl rfl (kg (uK hb (by omega) (by rw [hu,hv];rfl)) (by decide))
     ·refine aG (al 1 h s dP rfl rfl (rfl) rfl λf h=>m9 true h s zK (pI m v9 _ (hR.keep s.ext) hln) (hu) rfl rfl λf w1 h s=>e9 ac 5 h rfl λf h=>dQ h rfl (qr (ai h (eD rE) rfl λf h=>ak 0 h s dP rfl rfl rfl (rfl) (rfl) (ew _ _ rfl) λw1 s=>e9 ac 2 h rfl λf h=>rt ?_)))
      exact d5 0 rfl h s dP rfl rfl (rfl) rfl rfl (kg (uK hb (by omega) (by rw [hu];rfl)) (by decide))
end Go.Proofs.YtkhepdpfdhdlaaaGreatDoor
