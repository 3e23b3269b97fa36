/- Package mail: what its functions answer. -/
import Derived.Test.YthmlflaiidhoiaaGreatDoorCon
set_option linter.unusedSimpArgs false
set_option linter.unusedVariables false
namespace Go.Proofs.YthmlflaiidhoiaaGreatDoor
open Go.RowKit
theorem Gx (n:Int) (w:World):Calls Tryz.prog 73 [.int .i64 n].toArray w (cb w (is (.bool (IP n)))):=by
 refine bK Tryz.func73 rfl Tryz.ntmps73 rfl λf h s=>bE ac 1 h rfl λf h=>ah ?_
 refine rs ac 1 h rfl λf h=>lL ac h rfl (λh0 f h=>?_) (λh0 f h=>?_)
 ·refine e9 ac 5 h rfl λf h=>aL3 (av rfl h s rfl (by show _=_;unfold IP;rw [h0];rfl))
 ·refine e9 ac 5 h rfl λf h=>aL3 (av rfl h s rfl (by show _=_;unfold IP;rw [h0];rfl))
theorem Cz (m:Ml) (v9:Value) (B9:List Own) (w0 w:World) (s:St w0 B9 w):Calls Tryz.prog 74 [.agg (dH m v9)].toArray w (λe w9=>∃ r,e=.returned r/\∃ bx,r=.func (.func 127) #[] #[.pointer (some ⟨bx,0,none⟩)]/\St w0 (.blk bx (.cells (dH m v9) 29)::B9) w9):=by
 refine c7 Tryz.func74 rfl Tryz.ntmps74 rfl [(0,.agg (dH m v9))] (by simp) λf h=>?_
 refine qr (aV ((dH m v9)) h s rfl rfl rfl λf w1 b1 h s=>e9 ac 1 h rfl λf h=>qr (ai h (cO [.pointer (some ⟨b1,0,none⟩)] (ke h rfl)) rfl λf h=>e9 ac 1 h rfl λf h=>aL3 (dK rfl h rfl (⟨_,rfl,b1,rfl,s⟩))))
theorem G7 (m:Ml) (hln:m.l.length<=1000) (v9:Value) (lp bx:Nat) (q:Nat->Bool) (GG:Nat->Own->Prop) (g0:Own) (w0 w:World) (s:St w0 [.blk bx (.cells (dH m v9) 29),g0] w) (hg0:GG 0 g0) (hR:bs w0 v9 4 m.l.length (cg m.l)) (hY:∀ (d:Nat) (B9:List Own) (w9:World) (i:Nat) (g:Own),d<m.l.length->(∀ j,j<d->q j=false)->GG d g->St w0 B9 w9->B9[i]? = some g->l9 Tryz.prog lp [Value.int .i64 (d:Int),.agg (eu (m.l.getD d Eg))].toArray w9 (λv w2=>v=.bool (!q d)/\∃ g',GG (d+1) g'/\St w0 (B9.set i g') w2)):Calls Tryz.prog 127 [.func (.yield lp) #[] #[],.pointer (some ⟨bx,0,none⟩)].toArray w (λe w9=>(∃ v,e=.returned v)/\∃ d g,GG d g/\St w0 ([.blk bx (.cells (dH m v9) 29)]++[g]) w9/\d<=m.l.length/\(∀ j,j+1<d->q j=false)/\(lq q d=false->d=m.l.length)):=by
 refine c7 Tryz.func127 rfl Tryz.ntmps127 rfl [(0,.func (.yield lp) #[] #[]),(1,.pointer (some ⟨bx,0,none⟩))] (by simp) λf h=>?_
 refine bU ac 1 h rfl λf h=>ag (ae (aJ.of_own s 0 rfl) 0 (rfl)) h nU rfl rfl λf h=>ck h (hR.keep s.ext) aR8 rfl rfl λf h=>e9 ac 1 h rfl λf h=>aL4 (aL6 (λnn aa ww=>∃ d:Nat,∃ gg:Own,Sl 19 aa [(0,.func (.yield lp) #[] #[]),(1,.pointer (some ⟨bx,0,none⟩)),(6,v9),(7,.int .i64 (m.l.length:Int)),(8,.int .i64 (d:Int))]/\St w0 [.blk bx (.cells (dH m v9) 29),(gg)] ww/\nn=m.l.length - d/\d<=m.l.length/\GG d gg/\∀ j,j<d->q j=false) (m.l.length - (0)) ⟨0,g0,h.only ⟨rfl,rfl,rfl,rfl,ao rfl (by omega),trivial⟩,s.as ⟨rfl,rfl,trivial⟩,rfl,aJ3 _,hg0,λj hj=>aO7 hj (aM6 _)⟩ ?_)
 rintro _ f w1 ⟨d,gg,h,s,hnn,hp0,hp1,hp2⟩
 refine bE ac 1 h rfl λf h=>ah (cB h rfl (λhc=>?_) (λhc=>?_))
 ·refine kt (ah (aL4 (bU ac 1 h rfl λf h=>?_)))
  have hdl:d<m.l.length:=by omega
  refine ai h (bj (hR.keep s.ext) (d) aR8 XA (h.ev rfl) (h.ev rfl) (by omega) (by omega)) rfl λf h=>ap ((hR.keep s.ext).el (d) (by omega) (by decide) (D:=eu (m.l.getD d Eg)) ((ac3 m.l d hdl).trans (ltD hdl))) h qE rfl (rfl) rfl λf h=>aK (eu Eg) h s E0 rfl rfl λf w1 b4 h s=>am ac 1 h rfl λf h=>al 0 h s qE rfl rfl rfl (rfl) (rfl) (lw _) λw1 s=>nt (ah ?_)
  cases hq:(q d:Bool)
  ·refine rs ac 2 h rfl λf h=>ak 0 h s qE rfl rfl (rfl) rfl λf h=>iR (V:=.bool true) (G:=GG (d+1)) [.int .i64 (d:Int),.agg (eu (m.l.getD d Eg))] 2 h rfl rfl (by have h9:=hY d _ _ 2 gg hdl hp2 hp1 s rfl;rw [hq] at h9;exact h9) rfl ?_;intro f w1 g1 hg1 h s
   refine e9 ac 1 h rfl λf h=>kQ h rfl (wpIn_skip (aW (aD (aw (ai h (bo (h.ev rfl) (h.ev rfl) (by omega)) rfl λf h=>e9 ac 1 h rfl λf h=>?_)))))
   exact ⟨_,by omega,⟨d+1,g1,h.only ⟨rfl,rfl,rfl,rfl,ao rfl (by omega),trivial⟩,St.as (s.pick _ (aI8 [_] _)) ⟨rfl,rfl,trivial⟩,rfl,by omega,hg1,fF hp2 hq⟩⟩
  ·refine rs ac 2 h rfl λf h=>ak 0 h s qE rfl rfl (rfl) rfl λf h=>iR (V:=.bool false) (G:=GG (d+1)) [.int .i64 (d:Int),.agg (eu (m.l.getD d Eg))] 2 h rfl rfl (by have h9:=hY d _ _ 2 gg hdl hp2 hp1 s rfl;rw [hq] at h9;exact h9) rfl ?_;intro f w1 g1 hg1 h s
   refine e9 ac 1 h rfl λf h=>dG h rfl (aL3 (bA (aS (aS (bA ?_)))))
   exact sG rfl h (⟨⟨_,rfl⟩,d+1,g1,hg1,s.pick _ (aJ2 _ _),by omega,λj hj=>hp2 j (by omega),λh9=>aO7 (hq.symm.trans h9) (by decide)⟩)
 ·refine aL5 (aO (aO (bS ?_)))
  exact cX rfl h (⟨⟨_,rfl⟩,d,gg,hp1,s,hp0,λj hj=>hp2 j (by omega),λ_=>by omega⟩)
theorem sr (n:Int) (w:World):Calls Tryz.prog 75 [.int .i64 n].toArray w (cb w (is (.bool (xH n)))):=by
 refine bK Tryz.func75 rfl Tryz.ntmps75 rfl λf h s=>bE ac 1 h rfl λf h=>ah ?_
 refine rs ac 1 h rfl λf h=>lL ac h rfl (λh0 f h=>?_) (λh0 f h=>?_)
 ·refine e9 ac 5 h rfl λf h=>aL3 (av rfl h s rfl (by show _=_;unfold xH;rw [h0];rfl))
 ·refine e9 ac 5 h rfl λf h=>aL3 (av rfl h s rfl (by show _=_;unfold xH;rw [h0];rfl))
theorem tK (m:Ml) (v9:Value) (w:World) (hR:bs w v9 4 m.l.length (cg m.l)) (hln:m.l.length<=1000):Calls Tryz.prog 29 [.agg (dH m v9)].toArray w (cb w (is (.bool (dV m)))):=by
 refine go Tryz.func29 rfl Tryz.ntmps29 rfl [(0,.agg (dH m v9))] (by simp) λf h=>?_
 have s:=St.start w
 refine qr (aV ((dH m v9)) h s rfl rfl rfl λf w1 b1 h s=>aK (#[.bool false]) h s ET rfl rfl λf w1 b2 h s=>nt (ah (ah ?_)))
 cases h0:(decide (m.l.length<=64):Bool)
 ·refine rs ac 1 h rfl λf h=>ag (ae (aJ.of_own s 1 rfl) 0 (rfl)) h nU rfl rfl λf h=>ck h (hR.keep s.ext) aR8 rfl rfl λf h=>jK ac h rfl (aH2 (by have:=aH0 h0;omega)) λf h=>e9 ac 12 h rfl λf h=>dG h rfl (qr (aM 0 h s dq rfl rfl rfl (by simp) (rfl) λw1 s=>nt (rt ?_)))
  exact lZ 0 rfl h s dq rfl rfl rfl (λw9=>by show _=_;rw [IK h0];rfl)
 ·skip
  refine rs ac 1 h rfl λf h=>ag (ae (aJ.of_own s 1 rfl) 0 (rfl)) h nU rfl rfl λf h=>ck h (hR.keep s.ext) aR8 rfl rfl λf h=>lj ac h rfl (aH1 (by have:=aG9 h0;omega)) λf h=>am ac 2 h rfl λf h=>cy h rfl (ag (ae (aJ.of_own s 1 rfl) 1 (rfl)) h bJ rfl rfl λf h=>cy h rfl (fh h s TJ (Gx _ _) rfl rfl (λh1 f w1 h s=>?_) (λh1 f w1 h s=>?_)))
  ·refine e9 ac 8 h rfl λf h=>dG h rfl (qr (aM 0 h s dq rfl rfl rfl (by simp) (rfl) λw1 s=>nt (rt ?_)))
   exact lZ 0 rfl h s dq rfl rfl rfl (λw9=>by show _=_;rw [Hw h1];rfl)
  ·skip
   refine am ac 4 h rfl λf h=>cy h rfl (ag (ae (aJ.of_own s 1 rfl) 2 (rfl)) h bJ rfl rfl λf h=>cy h rfl (fh h s TJ (Gx _ _) rfl rfl (λh2 f w1 h s=>?_) (λh2 f w1 h s=>?_)))
   ·refine e9 ac 2 h rfl λf h=>dG h rfl (qr (aM 0 h s dq rfl rfl rfl (by simp) (rfl) λw1 s=>nt (rt ?_)))
    exact lZ 0 rfl h s dq rfl rfl rfl (λw9=>by show _=_;rw [G0 h2];rfl)
   ·refine e9 ac 2 h rfl λf h=>nH h rfl (ah (qr (ak 1 h s eS rfl rfl (rfl) rfl λf h=>cM [.agg (dH m v9)] h ZN (Cz m v9 _ _ _ s) rfl rfl ?_)));rintro f w1 r ⟨bx,rfl,s⟩ h
    refine nt (aL4 (gr (λ_ A9=>A9=[.blk b2 (.cells #[.bool false] 4),.blk b1 (.cells (dH m v9) 29)]) [.blk b2 (.cells #[.bool false] 4),.blk b1 (.cells (dH m v9) 29)] [.blk bx (.cells (dH m v9) 29)] (m.l.length) (Iw m) (λd=>[Value.int .i64 (d:Int),.agg (eu (m.l.getD d Eg))]) h s rfl Xh (List.Perm.refl _) (rfl) (λ_=>rfl) ?_ ?_ ?_ ?_))
    ·intro lp w2 GG g0 hg0 s2 hY;exact G7 m hln v9 lp bx (Iw m) GG g0 w w2 s2 hg0 hR hY
    ·intro lp D9 d9 rc R9 A9 w2 hd9 hq9 hJ9 s
     obtain rfl:=hJ9
     have h:=Sl.round2 (p:=23) (q:=24) (V:=.int .i64 (d9:Int)) (U:=.agg (eu (m.l.getD d9 Eg))) h rfl rfl
     refine aw (aK (eu Eg) h s E0 rfl rfl λf w1 b4 h s=>al 0 h s qE rfl rfl rfl (rfl) (rfl) (lw _) λw1 s=>nt (⟨_,s.perm (aO2 (l₁:=[_])),λw3 s=>?_⟩))
     refine aL4 (ah ?_)
     refine rs ac 1 h rfl λf h=>ag (ae (aJ.of_own s 1 rfl) 0 (rfl)) h bJ rfl rfl λf h=>lL ac h rfl (λk0 f h=>?_) (λk0 f h=>?_)
     ·skip
      refine am ac 2 h rfl λf h=>cy h rfl (ag (ae (aJ.of_own s 1 rfl) 0 (rfl)) h bJ rfl rfl λf h=>am ac 1 h rfl λf h=>cy h rfl (ag (ae (aJ.of_own s 4 rfl) 1 (rfl)) h bJ rfl rfl λf h=>cy h rfl (lL ac h rfl (λk1 f h=>?_) (λk1 f h=>?_))))
      ·skip
       refine am ac 3 h rfl λf h=>cy h rfl (ag (ae (aJ.of_own s 1 rfl) 1 (rfl)) h bJ rfl rfl λf h=>cy h rfl (fh h s FM (sr _ _) rfl rfl (λk2 f w1 h s=>?_) (λk2 f w1 h s=>?_)))
       ·refine e9 ac 14 h rfl λf h=>dG h rfl (qr (aM 3 h s dq rfl rfl rfl (by simp) (rfl) λw1 s=>nt (aL3 (bA (⟨by show oH _ _=_;unfold oH;simp only [k0,k1,k2,Bool.true_or,Bool.false_or,Bool.or_true,Bool.not_false,Bool.not_true],_,rfl,s.pick _ ?_⟩)))))
        exact aG7 _ (aG8 _ (List.Sublist.refl _))
       ·skip
        refine am ac 4 h rfl λf h=>cy h rfl (ag (ae (aJ.of_own s 1 rfl) 2 (rfl)) h bJ rfl rfl λf h=>cy h rfl (fh h s FM (sr _ _) rfl rfl (λk3 f w1 h s=>?_) (λk3 f w1 h s=>?_)))
        ·refine e9 ac 8 h rfl λf h=>dG h rfl (qr (aM 3 h s dq rfl rfl rfl (by simp) (rfl) λw1 s=>nt (aL3 (bA (⟨by show oH _ _=_;unfold oH;simp only [k0,k1,k2,k3,Bool.true_or,Bool.false_or,Bool.or_true,Bool.not_false,Bool.not_true],_,rfl,s.pick _ ?_⟩)))))
         exact aG7 _ (aG8 _ (List.Sublist.refl _))
        ·skip
         cases k4:(decide (300<(m.l.getD d9 Eg).2.2.2.size):Bool)
         ·refine am ac 4 h rfl λf h=>cy h rfl (ag (ae (aJ.of_own s 1 rfl) 3 (rfl)) h jv rfl rfl λf h=>cy h rfl (ai h (dU aR4 (h.ev rfl)) rfl λf h=>cy h rfl (lj ac h rfl (aH1 (by have:=aH0 k4;omega)) λf h=>e9 ac 1 h rfl λf h=>kQ h rfl (wpIn_skip (aW (⟨by show oH _ _=_;unfold oH;simp only [k0,k1,k2,k3,k4,Bool.true_or,Bool.false_or,Bool.or_true,Bool.not_false,Bool.not_true],_,rfl,s.pick _ ?_⟩))))))
          exact aG7 _ (aG8 _ (List.Sublist.refl _))
         ·refine am ac 4 h rfl λf h=>cy h rfl (ag (ae (aJ.of_own s 1 rfl) 3 (rfl)) h jv rfl rfl λf h=>cy h rfl (ai h (dU aR4 (h.ev rfl)) rfl λf h=>cy h rfl (jK ac h rfl (aH2 (by have:=aG9 k4;omega)) λf h=>e9 ac 1 h rfl λf h=>dG h rfl (qr (aM 3 h s dq rfl rfl rfl (by simp) (rfl) λw1 s=>nt (aL3 (bA (⟨by show oH _ _=_;unfold oH;simp only [k0,k1,k2,k3,k4,Bool.true_or,Bool.false_or,Bool.or_true,Bool.not_false,Bool.not_true],_,rfl,s.pick _ ?_⟩))))))))
          exact aG7 _ (aG8 _ (List.Sublist.refl _))
      ·refine e9 ac 19 h rfl λf h=>dG h rfl (qr (aM 3 h s dq rfl rfl rfl (by simp) (rfl) λw1 s=>nt (aL3 (bA (⟨by show oH _ _=_;unfold oH;simp only [k0,k1,Bool.true_or,Bool.false_or,Bool.or_true,Bool.not_false,Bool.not_true],_,rfl,s.pick _ ?_⟩)))))
       exact aG7 _ (aG8 _ (List.Sublist.refl _))
     ·refine e9 ac 25 h rfl λf h=>dG h rfl (qr (aM 3 h s dq rfl rfl rfl (by simp) (rfl) λw1 s=>nt (aL3 (bA (⟨by show oH _ _=_;unfold oH;simp only [k0,Bool.true_or,Bool.false_or,Bool.or_true,Bool.not_false,Bool.not_true],_,rfl,s.pick _ ?_⟩)))))
      exact aG7 _ (aG8 _ (List.Sublist.refl _))
    ·intro D9 A9 w2 hJ9 hq9 s
     obtain rfl:=hJ9
     replace h:Sl _ {f with defers:={target:=.collected D9,args:=#[]}::f.defers} _ [{target:=.collected D9,args:=#[]}]:=⟨h.size,by rw [h.defers],h.holds⟩
     refine aW (aD (qr (aM 2 h s dq rfl rfl rfl (by simp) (rfl) λw1 s=>nt (aL3 ?_))))
     exact iK 2 0 rfl h s dq rfl rfl rfl rfl rfl (λw9=>by show _=_;rw [CQ h0 h1 h2 hq9];rfl)
    ·intro D9 d9 A9 w2 hd9 hqd9 hq9 hJ9 s
     obtain rfl:=hJ9
     replace h:Sl _ {f with defers:={target:=.collected D9,args:=#[]}::f.defers} _ [{target:=.collected D9,args:=#[]}]:=⟨h.size,by rw [h.defers],h.holds⟩
     refine bA (aS ?_)
     exact iK 2 0 rfl h s dq rfl rfl rfl rfl rfl (λw9=>by show _=_;rw [DB hd9 hqd9];rfl)
theorem JW (l:List Lt) (hln:l.length<=1000) (a9:Option Addr) (n9 c9:Nat) (w:World) (hR:bs w (.slice a9 n9 c9) 4 l.length (cg l)):Calls Tryz.prog 69 [.slice a9 n9 c9].toArray w (cb w (λv w'=>cF w' w.heap.size 132 4 v l.length (cg l))):=by
 refine bK Tryz.func69 rfl Tryz.ntmps69 rfl λf h s=>bE ac 1 h rfl λf h=>ah (ah ?_)
 cases hn:(a9.isNone:Bool)
 ·refine rs ac 1 h rfl λf h=>ai h (bz (.bool false) (ct aR8 (h.ev rfl) (h.ev rfl)) (aH3 Value.bool hn)) rfl λf h=>gS h rfl (qr (fB (base:=w.heap.size) h aR8 xU (aJ1 _) rfl λf w2 v5 h hE3 e5=>am ac 1 h rfl λf h=>dZ (base:=w.heap.size) e5 (hR.keep hE3) h aR8 xU rfl rfl hE3.le (zu _) (by unfold maxLen;omega) (by omega) rfl λf w3 v7 h hE4 e7=>?_))
  replace s:=s.sl_new (hE3.trans hE4) e7
  refine e9 ac 1 h rfl λf h=>aL3 (av rfl h s rfl (s.getSl 0 rfl))
 ·refine rs ac 1 h rfl λf h=>ai h (bz (.bool true) (ct aR8 (h.ev rfl) (h.ev rfl)) (aH3 Value.bool hn)) rfl λf h=>iY h rfl (bE ac 1 h rfl λf h=>rt (av rfl h s rfl (by obtain rfl:=G4 hn hR;exact eh _ _ _ _)))
theorem wx (l:List Lt) (hln:l.length<=1000) (v9:Value) (w:World) (hR:bs w v9 4 l.length (cg l)):Calls Tryz.prog 69 [v9].toArray w (cb w (λv w'=>cF w' w.heap.size 132 4 v l.length (cg l))):=by
 obtain ⟨a,c,rfl⟩:=hR.len
 exact JW l hln a _ c w hR
theorem uz (m:Ml) (v9:Value) (w:World) (hR:bs w v9 4 m.l.length (cg m.l)) (hln:m.l.length<=1000):Calls Tryz.prog 194 [.agg (dH m v9)].toArray w (cb w (is (.bool (decide (m.l.length=64))))):=by
 refine bK Tryz.func194 rfl Tryz.ntmps194 rfl λf h s=>qr (aV ((dH m v9)) h s rfl rfl rfl λf w1 b1 h s=>e9 ac 1 h rfl λf h=>bU ac 1 h rfl λf h=>ag (ae (aJ.of_own s 0 rfl) 0 (rfl)) h nU rfl rfl λf h=>ck h (hR.keep s.ext) aR8 rfl rfl λf h=>gW ac (.bool (decide (m.l.length=64))) h rfl (aH3 Value.bool (aI3.2 (by omega))) rfl λf h=>e9 ac 1 h rfl λf h=>aL3 (av rfl h s rfl (rfl)))
theorem CN (m:Ml) (v9:Value) (x:Lt) (w:World) (hR:bs w v9 4 m.l.length (cg m.l)) (hln:m.l.length<=1000):Calls Tryz.prog 195 [.agg (dH m v9),.agg (eu x)].toArray w (cb w (ap4 132 w.heap.size {m with l:=m.l++[x]})):=by
 refine bK Tryz.func195 rfl Tryz.ntmps195 rfl λf h s=>qr (aV ((dH m v9)) h s rfl rfl rfl λf w1 b2 h s=>aV ((eu x)) h s rfl rfl rfl λf w1 b3 h s=>aK (dH CX (.slice none 0 0)) h s Es rfl rfl λf w1 b4 h s=>nt (ah (fC 0 6 [[],[0],[0,1],[],[3],[0,1,2,3,4],[0,1,2,3,4,5],[0,1,2,3,4,5,6]] [[],[],[],[],[],[2,4],[],[]] [] [.v _,.v v9,.m (λv=>[.sl (v 2) 132 4 m.l.length (cg m.l)]),.v (.agg (eu x)),.m (λv=>[.sl (v 4) 132 4 1 (eu x).toList]),.m (λv=>[.sl (v 5) 132 4 (m.l++[x]).length (cg (m.l++[x]))]),.n,.n] _ h s rfl (by kernel_rfl) (by kernel_rfl) (by kernel_rfl) (gL ac h rfl rfl rfl (cm ?_ (cm ?_ (cm ?_ (cm ?_ (cm ?_ (trivial))))))) [0,1,3,5] (by kernel_rfl) ?_)))
 ·intro f9 w2 vl1 E9 hs9 hd9 hl hF s
  have h:=cq [(5,_)] h hs9 hd9 ⟨a7 hl 5 0 (by kernel_rfl) (hF 0 (by decide)),trivial⟩
  refine ag (ae (aJ.of_own s 2 rfl) 0 (rfl)) h nU rfl rfl λf h=>az ⟨_,br 6 h rfl rfl,rfl,s⟩
 ·intro f9 w2 vl1 E9 hs9 hd9 hl hF s
  have h:=cq [(6,_)] h hs9 hd9 ⟨a7 hl 6 1 (by kernel_rfl) (hF 1 (by decide)),trivial⟩
  refine aY h s T8 (wx m.l hln v9 _ (hR.keep s.ext)) rfl rfl ?_;intro f w1 v7 hT hE h sq;replace s:=s.sl_new hE hT
  exact az ⟨_,br 7 h rfl rfl,trivial,s⟩
 ·intro f9 w2 vl1 E9 hs9 hd9 hl hF s
  have h:=cq [(3,_)] h hs9 hd9 ⟨fu hl 3 (by kernel_rfl) (h.holds 3 _ rfl),trivial⟩
  refine ak 1 h s qE rfl rfl (rfl) rfl λf h=>az ⟨_,br 8 h rfl rfl,rfl,s⟩
 ·intro f9 w2 vl1 E9 hs9 hd9 hl hF s
  have h:=cq [(8,_)] h hs9 hd9 ⟨a7 hl 8 3 (by kernel_rfl) (hF 3 (by decide)),trivial⟩
  refine cf (vs:=[.agg (eu x)]) [.tmp 8] h s aR8 xU rfl rfl (Ap _) rfl rfl rfl λf w1 v9 h s=>?_
  replace s:=s.resl (m:=1) (ys:=(eu x).toList) 0 rfl rfl (Vv _)
  exact az ⟨_,br 9 h rfl rfl,trivial,s⟩
 ·intro f9 w2 vl1 E9 hs9 hd9 hl hF s
  have h:=cq [(7,_),(9,_)] h hs9 hd9 ⟨ff hl 7 2 (by kernel_rfl) (by kernel_rfl),ff hl 9 4 (by kernel_rfl) (by kernel_rfl),trivial⟩
  refine dD 0 1 h s aR8 xU rfl rfl rfl rfl (by decide) (lw x) (by unfold maxLen;omega) (by omega) rfl λf w1 v10 h s=>?_
  replace s:=s.resl (m:=(m.l++[x]).length) (ys:=cg (m.l++[x])) 0 rfl (by rw [aH7];rfl) (El _ _)
  exact az ⟨_,br 10 h rfl rfl,trivial,(s.pick _ (aG7 _ (aG8 _ (aG7 _ (aG7 _ (aG7 _ (List.Sublist.refl _)))))))⟩
 intro f w1 vl1 hs9 hd9 hv hr hF s
 replace hv:=λi d h9=>hv i d (show Nat.blt i 6=true from h9)
 replace h:=ew 6 (ops:=_) [(5,_),(6,_),(7,(vl1 2)),(8,_),(9,(vl1 4)),(10,(vl1 5))] h hs9 hd9 hr ⟨(hv 0 5 rfl rfl).trans (hF 0 rfl),(hv 1 6 rfl rfl).trans (hF 1 rfl),hv 2 7 rfl rfl,(hv 3 8 rfl rfl).trans (hF 3 rfl),hv 4 9 rfl rfl,hv 5 10 rfl rfl,trivial⟩ (by kernel_rfl)
 replace s:St w [.sl (vl1 5) 132 4 (m.l++[x]).length (cg (m.l++[x])),.blk b4 (.cells (dH CX (.slice none 0 0)) 29),.blk b3 (.cells ((eu x)) 132),.blk b2 (.cells ((dH m v9)) 29)] _:=s
 refine am ac 1 h rfl λf h=>aM 3 h s nU rfl rfl rfl (by show _<3;decide) (bk (s.getSl 0 rfl)) λw1 s=>?_
 replace s:=s.recell (D:=dH {m with l:=m.l++[x]} (vl1 5)) 3 rfl rfl
 refine nt (qr (ak 3 h s eS rfl rfl (rfl) rfl λf h=>al 1 h s eS rfl rfl rfl (rfl) (rfl) (fS _ _ (bk (s.getSl 0 rfl))) λw1 s=>nt (aL3 (lH 1 rfl h s eS rfl rfl (rfl) (⟨(vl1 5),rfl,s.getSl 0 rfl⟩)))))
theorem KV (m:Ml) (v9:Value) (fr tt:Int) (dx:ByteArray) (w:World) (hR:bs w v9 4 m.l.length (cg m.l)) (hln:m.l.length<=1000):Calls Tryz.prog 231 [.agg (dH m v9),.int .i64 fr,.int .i64 tt,.string dx].toArray w (cb w (Oe 132 w.heap.size m fr tt dx)):=by
 refine bK Tryz.func231 rfl Tryz.ntmps231 rfl λf h s=>qr (aV ((dH m v9)) h s rfl rfl rfl λf w1 b4 h s=>aK (dH CX (.slice none 0 0)) h s Es rfl rfl λf w1 b8 h s=>e9 ac 2 h rfl λf h=>ah (ah ?_))
 refine aw (ak 1 h s eS rfl rfl (rfl) rfl λf h=>fh h s Uj (tK m v9 _ (hR.keep s.ext) hln) rfl rfl (λhr f w1 h s=>?_) (λhr f w1 h s=>?_))
 ·refine e9 ac 11 h rfl λf h=>dG h rfl (qr (ai h (fY w7) rfl λf h=>al 0 h s eS rfl rfl rfl (rfl) (rfl) (fS _ _ rfl) λw1 s=>e9 ac 2 h rfl λf h=>rt ?_))
  exact cY 0 rfl h s eS rfl rfl (rfl) rfl rfl (mQ (yw (by rw [hr];rfl)) (by decide))
 ·skip
  refine am ac 3 h rfl λf h=>cy h rfl (fh h s FM (sr _ _) rfl rfl (λhf f w1 h s=>?_) (λhf f w1 h s=>?_))
  ·refine e9 ac 7 h rfl λf h=>dG h rfl (qr (ai h (fY w7) rfl λf h=>al 0 h s eS rfl rfl rfl (rfl) (rfl) (fS _ _ rfl) λw1 s=>e9 ac 2 h rfl λf h=>rt ?_))
   exact cY 0 rfl h s eS rfl rfl (rfl) rfl rfl (mQ (yw (by rw [hr,hf];rfl)) (by decide))
  ·skip
   refine am ac 4 h rfl λf h=>cy h rfl (fh h s FM (sr _ _) rfl rfl (λht f w1 h s=>?_) (λht f w1 h s=>?_))
   ·refine e9 ac 2 h rfl λf h=>dG h rfl (qr (ai h (fY w7) rfl λf h=>al 0 h s eS rfl rfl rfl (rfl) (rfl) (fS _ _ rfl) λw1 s=>e9 ac 2 h rfl λf h=>rt ?_))
    exact cY 0 rfl h s eS rfl rfl (rfl) rfl rfl (mQ (yw (by rw [hr,hf,ht];rfl)) (by decide))
   ·refine e9 ac 2 h rfl λf h=>nH h rfl (ah (bU ac 1 h rfl λf h=>ai h (dU aR4 (h.ev rfl)) rfl λf h=>e9 ac 1 h rfl λf h=>bV h rfl (λhc=>?_) (λhc=>?_)))
    ·replace hc:=aG9 hc
     have hb:(!dV m || (!xH fr || !xH tt))=false:=by rw [hr,hf,ht];rfl
     refine qr (ai h (fY w7) rfl λf h=>al 0 h s eS rfl rfl rfl (rfl) (rfl) (fS _ _ rfl) λw1 s=>e9 ac 2 h rfl λf h=>rt ?_)
     exact cY 0 rfl h s eS rfl rfl (rfl) rfl rfl (mQ (Qp hb (by omega)) (by decide))
    ·have hsz:=aH0 hc
     have hb:(!dV m || (!xH fr || !xH tt))=false:=by rw [hr,hf,ht];rfl
     refine kt (ah (ah ?_))
     cases hu:(decide (m.l.length=64):Bool)
     ·skip
      cases hv:(decide (m.last=1099511627776):Bool)
      ·refine aw (ak 1 h s eS rfl rfl (rfl) rfl λf h=>aY h s DF (aR (.bool false) (uz m v9 _ (hR.keep s.ext) hln) (aH3 Value.bool hu)) rfl rfl ?_);intro f w1 v9 hT hE h s;obtain rfl:=hT
       refine am ac 2 h rfl λf h=>cy h rfl (ag (ae (aJ.of_own s 1 rfl) 1 (rfl)) h bJ rfl rfl λf h=>cy h rfl (lj ac h rfl hv λf h=>e9 ac 1 h rfl λf h=>nH h rfl (bU ac 1 h rfl λf h=>?_)))
       have hbd:=((np m).1 hr).2.1
       refine ag (ae (aJ.of_own s 1 rfl) 1 (rfl)) h bJ rfl rfl λf h=>ai h (bo (h.ev rfl) (h.ev rfl) (by omega)) rfl λf h=>am ac 1 h rfl λf h=>aM 1 h s bJ rfl rfl rfl (by show _<3;decide) (rfl) λw1 s=>?_
       replace s:=s.recell (D:=dH {m with last:=m.last+1} v9) 1 rfl rfl
       refine nt (ah ?_)
       have hvv:=hv
       refine fC 1 11 [[],[],[1],[],[],[],[1,2,3,4,5],[0,1,2,3,4,5,6],[],[8],[0,1,2,3,4,5,6,7],[0,1,2,3,4,5,6,7,8,9,10],[0,1,2,3,4,5,6,7,8,9,10,11]] [[],[],[],[],[],[],[],[],[],[],[13],[],[]] [[_]] [.v (.agg (dH {m with last:=m.last+1} v9)),.v _,.v (.int .i64 (m.last+1)),.v _,.v _,.v _,.v (.agg (eu (m.last+1,fr,tt,dx))),.r (λv=>[.sl (Xq (v 7)) 132 4 (⟨m.l++[(m.last+1,fr,tt,dx)],m.last+1,m.now⟩:Ml).l.length (cg (⟨m.l++[(m.last+1,fr,tt,dx)],m.last+1,m.now⟩:Ml).l)]) (λv=>v 7=.agg (dH ⟨m.l++[(m.last+1,fr,tt,dx)],m.last+1,m.now⟩ (Xq (v 7)))),.v _,.v (.int .i64 (m.last+1)),.m (λv=>[.blk b8 (.cells (dH ⟨m.l++[(m.last+1,fr,tt,dx)],m.last+1,m.now⟩ (Xq (v 7))) 29)]),.n,.n] _ h s rfl (by kernel_rfl) (by kernel_rfl) (by kernel_rfl) (cm ?_ (gL ac h rfl rfl rfl (cm ?_ (gL ac h rfl rfl rfl (gL ac h rfl rfl rfl (gL ac h rfl rfl rfl (cm ?_ (cm ?_ (gL ac h rfl rfl rfl (cm ?_ (cm ?_ (trivial)))))))))))) [0,1,2,3,4,5,6,7,8,9,10] (by kernel_rfl) ?_
       ·intro f9 w2 vl8 E9 hs9 hd9 hl hF s
        have h:=cq [(4,_)] h hs9 hd9 ⟨fu hl 4 (by kernel_rfl) (h.holds 4 _ rfl),trivial⟩
        refine ak 0 h s eS rfl rfl (rfl) rfl λf h=>az ⟨_,br 41 h rfl rfl,rfl,s⟩
       ·intro f9 w2 vl8 E9 hs9 hd9 hl hF s
        have h:=cq [(42,_)] h hs9 hd9 ⟨a7 hl 42 1 (by kernel_rfl) (hF 1 (by decide)),trivial⟩
        refine ag (ae (aJ.of_own s 0 rfl) 1 (rfl)) h bJ rfl rfl λf h=>az ⟨_,br 43 h rfl rfl,rfl,s⟩
       ·intro f9 w2 vl8 E9 hs9 hd9 hl hF s
        have h:=cq [(43,_),(44,_),(45,_),(46,_)] h hs9 hd9 ⟨a7 hl 43 2 (by kernel_rfl) (hF 2 (by decide)),a7 hl 44 3 (by kernel_rfl) (hF 3 (by decide)),a7 hl 45 4 (by kernel_rfl) (hF 4 (by decide)),a7 hl 46 5 (by kernel_rfl) (hF 5 (by decide)),trivial⟩
        refine ai h (Aw ac2 (h.ev rfl) (h.ev rfl) (h.ev rfl) (h.ev rfl)) rfl λf h=>az ⟨_,br 47 h rfl rfl,rfl,s⟩
       ·intro f9 w2 vl8 E9 hs9 hd9 hl hF s
        have h:=cq [(41,_),(47,_)] h hs9 hd9 ⟨a7 hl 41 0 (by kernel_rfl) (hF 0 (by decide)),a7 hl 47 6 (by kernel_rfl) (hF 6 (by decide)),trivial⟩
        refine aY h s V7 (CN {m with last:=m.last+1} v9 (m.last+1,fr,tt,dx) _ (hR.keep s.ext) hln) rfl rfl ?_;rintro f w1 v48 ⟨vx,rfl,hT⟩ hE h sq;replace s:=s.sl_new hE hT
        obtain ⟨a9,c9,rfl⟩:=d5 (s.getSl 0 rfl)
        exact az ⟨_,br 48 h rfl rfl,rfl,s⟩
       ·intro f9 w2 vl8 E9 hs9 hd9 hl hF s
        have h:=cq [(49,_)] h hs9 hd9 ⟨a7 hl 49 8 (by kernel_rfl) (hF 8 (by decide)),trivial⟩
        refine ag (ae (aJ.of_own s 0 rfl) 1 (rfl)) h bJ rfl rfl λf h=>az ⟨_,br 50 h rfl rfl,rfl,s⟩
       ·intro f9 w2 vl8 E9 hs9 hd9 hl hF s
        have h:=cq [(8,_),(48,_)] h hs9 hd9 ⟨fu hl 8 (by kernel_rfl) (h.holds 8 _ rfl),a7 hl 48 7 (by kernel_rfl) (hF 7 (by decide)),trivial⟩
        refine al 0 h s eS rfl rfl rfl (rfl) (rfl) (fS _ _ (Qi _)) λw1 s=>az ⟨undef,gV rfl,trivial,s⟩
       intro f w1 vl8 hs9 hd9 hv hr hF s
       replace hv:=λi d h9=>hv i d (show Nat.blt i 11=true from h9)
       replace h:=ew 11 (ops:=_) [(41,_),(42,_),(43,_),(44,_),(45,_),(46,_),(47,_),(48,.agg (dH ⟨m.l++[(m.last+1,fr,tt,dx)],m.last+1,m.now⟩ (Xq (vl8 7)))),(49,_),(50,_)] h hs9 hd9 hr ⟨(hv 0 41 rfl rfl).trans (hF 0 rfl),(hv 1 42 rfl rfl).trans (hF 1 rfl),(hv 2 43 rfl rfl).trans (hF 2 rfl),(hv 3 44 rfl rfl).trans (hF 3 rfl),(hv 4 45 rfl rfl).trans (hF 4 rfl),(hv 5 46 rfl rfl).trans (hF 5 rfl),(hv 6 47 rfl rfl).trans (hF 6 rfl),(hv 7 48 rfl rfl).trans (hF 7 rfl),(hv 8 49 rfl rfl).trans (hF 8 rfl),(hv 9 50 rfl rfl).trans (hF 9 rfl),trivial⟩ (by kernel_rfl)
       replace s:St w [.sl (Xq (vl8 7)) 132 4 (⟨m.l++[(m.last+1,fr,tt,dx)],m.last+1,m.now⟩:Ml).l.length (cg (⟨m.l++[(m.last+1,fr,tt,dx)],m.last+1,m.now⟩:Ml).l),.blk b8 (.cells (dH ⟨m.l++[(m.last+1,fr,tt,dx)],m.last+1,m.now⟩ (Xq (vl8 7))) 29),.blk b4 (.cells (dH {m with last:=m.last+1} v9) 29)] _:=s
       refine e9 ac 2 h rfl λf h=>aL3 ?_
       exact cY 1 rfl h s eS rfl rfl (rfl) rfl rfl (QQ (PC hb (by omega) (by rw [hu,hvv];rfl)) (s.getSl 0 rfl))
      ·refine aw (ak 1 h s eS rfl rfl (rfl) rfl λf h=>jD false h s DF (uz m v9 _ (hR.keep s.ext) hln) (hu) rfl rfl λf w1 h s=>am ac 2 h rfl λf h=>cy h rfl (ag (ae (aJ.of_own s 1 rfl) 1 (rfl)) h bJ rfl rfl λf h=>cy h rfl (jK ac h rfl hv λf h=>e9 ac 1 h rfl λf h=>dG h rfl (qr (ai h (fY w7) rfl λf h=>al 0 h s eS rfl rfl rfl (rfl) (rfl) (fS _ _ rfl) λw1 s=>e9 ac 2 h rfl λf h=>rt ?_)))))
       exact cY 0 rfl h s eS rfl rfl (rfl) rfl rfl (mQ (EY hb (by omega) (by rw [hu,hv];rfl)) (by decide))
     ·refine aw (ak 1 h s eS rfl rfl (rfl) rfl λf h=>jD true h s DF (uz m v9 _ (hR.keep s.ext) hln) (hu) rfl rfl λf w1 h s=>e9 ac 5 h rfl λf h=>dG h rfl (qr (ai h (fY w7) rfl λf h=>al 0 h s eS rfl rfl rfl (rfl) (rfl) (fS _ _ rfl) λw1 s=>e9 ac 2 h rfl λf h=>rt ?_)))
      exact cY 0 rfl h s eS rfl rfl (rfl) rfl rfl (mQ (EY hb (by omega) (by rw [hu];rfl)) (by decide))
end Go.Proofs.YthmlflaiidhoiaaGreatDoor
