/- Package mail and what it stands on, so far as it is wanted: what each function answers. -/
import Derived.Test.YthmlflaiidhoiaaGreatDoorCon
set_option linter.unusedVariables false
set_option linter.unusedSimpArgs false
set_option linter.unusedSectionVars false
namespace Go.Proofs.YthmlflaiidhoiaaGreatDoor
open Go.RowKit
theorem DC (n:Int) (w:World):Calls Tryz.prog 73 [.int .i64 n].toArray w (bW w (is (.bool (G2 n)))):=by
 refine bG Tryz.func73 rfl Tryz.ntmps73 rfl λf h s=>bD ac 1 h rfl λf h=>ag ?_
 refine rs ac 1 h rfl λf h=>kJ ac h rfl (λh0 f h=>?_) (λh0 f h=>?_)
 ·refine e9 ac 5 h rfl λf h=>au3 (aA rfl h s rfl (by show _=_;unfold G2;rw [h0];rfl))
 ·refine e9 ac 5 h rfl λf h=>au3 (aA rfl h s rfl (by show _=_;unfold G2;rw [h0];rfl))
theorem BL (m:Ml) (v9:Value) (B9:List Own) (w0 w:World) (s:St w0 B9 w):Calls Tryz.prog 74 [.agg (eL m v9)].toArray w (λe w9=>∃ r,e=.returned r/\∃ bx,r=.func (.func 127) #[] #[.pointer (some ⟨bx,0,none⟩)]/\St w0 (.blk bx (.cells (eL m v9) 29)::B9) w9):=by
 refine da Tryz.func74 rfl Tryz.ntmps74 rfl [(0,.agg (eL m v9))] (by simp) λf h=>?_
 refine qr (ba ((eL m v9)) h s rfl rfl rfl λf w1 b1 h s=>e9 ac 1 h rfl λf h=>qr (ak h (de [.pointer (some ⟨b1,0,none⟩)] (lL h rfl)) rfl λf h=>e9 ac 1 h rfl λf h=>au3 (gB rfl h rfl (⟨_,rfl,b1,rfl,s⟩))))
theorem FU (m:Ml) (hln:m.l.length<=1000) (v9:Value) (lp bx:Nat) (q:Nat->Bool) (GG:Nat->Own->Prop) (g0:Own) (w0 w:World) (s:St w0 [.blk bx (.cells (eL m v9) 29),g0] w) (hg0:GG 0 g0) (hR:a7 w0 v9 4 m.l.length (ck m.l)) (hY:∀ (d:Nat) (B9:List Own) (w9:World) (i:Nat) (g:Own),d<m.l.length->(∀ j,j<d->q j=false)->GG d g->St w0 B9 w9->B9[i]? = some g->i6 Tryz.prog lp [Value.int .i64 (d:Int),.agg (gl (m.l.getD d Ba))].toArray w9 (λv w2=>v=.bool (!q d)/\∃ g',GG (d+1) g'/\St w0 (B9.set i g') w2)):Calls Tryz.prog 127 [.func (.yield lp) #[] #[],.pointer (some ⟨bx,0,none⟩)].toArray w (λe w9=>(∃ v,e=.returned v)/\∃ d g,GG d g/\St w0 ([.blk bx (.cells (eL m v9) 29)]++[g]) w9/\d<=m.l.length/\(∀ j,j+1<d->q j=false)/\(lq q d=false->d=m.l.length)):=by
 refine da Tryz.func127 rfl Tryz.ntmps127 rfl [(0,.func (.yield lp) #[] #[]),(1,.pointer (some ⟨bx,0,none⟩))] (by simp) λf h=>?_
 refine cw ac 1 h rfl λf h=>ai (ah (aX.of_own s 0 rfl) 0 (rfl)) h mO rfl rfl λf h=>cb h (hR.keep s.ext) aA4 rfl rfl λf h=>e9 ac 1 h rfl λf h=>au4 (au6 (λnn aa ww=>∃ d:Nat,∃ gg:Own,Sl 19 aa [(0,.func (.yield lp) #[] #[]),(1,.pointer (some ⟨bx,0,none⟩)),(6,v9),(7,.int .i64 (m.l.length:Int)),(8,.int .i64 (d:Int))]/\St w0 [.blk bx (.cells (eL m v9) 29),(gg)] ww/\nn=m.l.length - d/\d<=m.l.length/\GG d gg/\∀ j,j<d->q j=false) (m.l.length - (0)) ⟨0,g0,h.only ⟨rfl,rfl,rfl,rfl,aw rfl (by omega),trivial⟩,s.as ⟨rfl,rfl,trivial⟩,rfl,as3 _,hg0,λj hj=>ax7 hj (av6 _)⟩ ?_)
 rintro _ f w1 ⟨d,gg,h,s,hnn,hp0,hp1,hp2⟩
 refine bD ac 1 h rfl λf h=>ag (cZ h rfl (λhc=>?_) (λhc=>?_))
 ·refine kt (ag (au4 (cw ac 1 h rfl λf h=>?_)))
  have hdl:d<m.l.length:=by omega
  refine ak h (bj (hR.keep s.ext) (d) aA4 TV (h.ev rfl) (h.ev rfl) (by omega) (by omega)) rfl λf h=>ax ((hR.keep s.ext).el (d) (by omega) (by decide) (D:=gl (m.l.getD d Ba)) ((Xe m.l d hdl).trans (ltD hdl))) h uk rfl (rfl) rfl λf h=>aK (gl Ba) h s Dj rfl rfl λf w1 b4 h s=>ap ac 1 h rfl λf h=>am 0 h s uk rfl rfl rfl (rfl) (rfl) (ng _) λw1 s=>nt (ag ?_)
  cases hq:(q d:Bool)
  ·refine rs ac 2 h rfl λf h=>al 0 h s uk rfl rfl (rfl) rfl λf h=>eC (V:=.bool true) (G:=GG (d+1)) [.int .i64 (d:Int),.agg (gl (m.l.getD d Ba))] 2 h rfl rfl (by have h9:=hY d _ _ 2 gg hdl hp2 hp1 s rfl;rw [hq] at h9;exact h9) rfl ?_;intro f w1 g1 hg1 h s
   refine e9 ac 1 h rfl λf h=>mx h rfl (wpIn_skip (aW (aG (aC (ak h (bB (h.ev rfl) (h.ev rfl) (by omega)) rfl λf h=>e9 ac 1 h rfl λf h=>?_)))))
   exact ⟨_,by omega,⟨d+1,g1,h.only ⟨rfl,rfl,rfl,rfl,aw rfl (by omega),trivial⟩,St.as (s.pick _ (ar8 [_] _)) ⟨rfl,rfl,trivial⟩,rfl,by omega,hg1,eM hp2 hq⟩⟩
  ·refine rs ac 2 h rfl λf h=>al 0 h s uk rfl rfl (rfl) rfl λf h=>eC (V:=.bool false) (G:=GG (d+1)) [.int .i64 (d:Int),.agg (gl (m.l.getD d Ba))] 2 h rfl rfl (by have h9:=hY d _ _ 2 gg hdl hp2 hp1 s rfl;rw [hq] at h9;exact h9) rfl ?_;intro f w1 g1 hg1 h s
   refine e9 ac 1 h rfl λf h=>dF h rfl (au3 (aY (aQ (aQ (aY ?_)))))
   exact jo rfl h (⟨⟨_,rfl⟩,d+1,g1,hg1,s.pick _ (as2 _ _),by omega,λj hj=>hp2 j (by omega),λh9=>ax7 (hq.symm.trans h9) (by decide)⟩)
 ·refine au5 (aT (aT (bS ?_)))
  exact dN rfl h (⟨⟨_,rfl⟩,d,gg,hp1,s,hp0,λj hj=>hp2 j (by omega),λ_=>by omega⟩)
theorem Dz (n:Int) (w:World):Calls Tryz.prog 75 [.int .i64 n].toArray w (bW w (is (.bool (uU n)))):=by
 refine bG Tryz.func75 rfl Tryz.ntmps75 rfl λf h s=>bD ac 1 h rfl λf h=>ag ?_
 refine rs ac 1 h rfl λf h=>kJ ac h rfl (λh0 f h=>?_) (λh0 f h=>?_)
 ·refine e9 ac 5 h rfl λf h=>au3 (aA rfl h s rfl (by show _=_;unfold uU;rw [h0];rfl))
 ·refine e9 ac 5 h rfl λf h=>au3 (aA rfl h s rfl (by show _=_;unfold uU;rw [h0];rfl))
theorem jZ (m:Ml) (v9:Value) (w:World) (hR:a7 w v9 4 m.l.length (ck m.l)) (hln:m.l.length<=1000):Calls Tryz.prog 29 [.agg (eL m v9)].toArray w (bW w (is (.bool (bU m)))):=by
 refine eh Tryz.func29 rfl Tryz.ntmps29 rfl [(0,.agg (eL m v9))] (by simp) λf h=>?_
 have s:=St.start w
 refine qr (ba ((eL m v9)) h s rfl rfl rfl λf w1 b1 h s=>aK (#[.bool false]) h s zD rfl rfl λf w1 b2 h s=>nt (ag (ag ?_)))
 cases h0:(decide (m.l.length<=64):Bool)
 ·refine rs ac 1 h rfl λf h=>ai (ah (aX.of_own s 1 rfl) 0 (rfl)) h mO rfl rfl λf h=>cb h (hR.keep s.ext) aA4 rfl rfl λf h=>jy ac h rfl (aq2 (by have:=aq0 h0;omega)) λf h=>e9 ac 12 h rfl λf h=>dF h rfl (qr (aB 0 h s ez rfl rfl rfl (by simp) (rfl) λw1 s=>nt (rt ?_)))
  exact g6 0 rfl h s ez rfl rfl rfl (λw9=>by show _=_;rw [GR h0];rfl)
 ·skip
  refine rs ac 1 h rfl λf h=>ai (ah (aX.of_own s 1 rfl) 0 (rfl)) h mO rfl rfl λf h=>cb h (hR.keep s.ext) aA4 rfl rfl λf h=>jd ac h rfl (aq1 (by have:=ap9 h0;omega)) λf h=>ap ac 2 h rfl λf h=>cg h rfl (ai (ah (aX.of_own s 1 rfl) 1 (rfl)) h bQ rfl rfl λf h=>cg h rfl (fx h s Rw (DC _ _) rfl rfl (λh1 f w1 h s=>?_) (λh1 f w1 h s=>?_)))
  ·refine e9 ac 8 h rfl λf h=>dF h rfl (qr (aB 0 h s ez rfl rfl rfl (by simp) (rfl) λw1 s=>nt (rt ?_)))
   exact g6 0 rfl h s ez rfl rfl rfl (λw9=>by show _=_;rw [FQ h1];rfl)
  ·skip
   refine ap ac 4 h rfl λf h=>cg h rfl (ai (ah (aX.of_own s 1 rfl) 2 (rfl)) h bQ rfl rfl λf h=>cg h rfl (fx h s Rw (DC _ _) rfl rfl (λh2 f w1 h s=>?_) (λh2 f w1 h s=>?_)))
   ·refine e9 ac 2 h rfl λf h=>dF h rfl (qr (aB 0 h s ez rfl rfl rfl (by simp) (rfl) λw1 s=>nt (rt ?_)))
    exact g6 0 rfl h s ez rfl rfl rfl (λw9=>by show _=_;rw [Gf h2];rfl)
   ·refine e9 ac 2 h rfl λf h=>ry h rfl (ag (qr (al 1 h s iN rfl rfl (rfl) rfl λf h=>df [.agg (eL m v9)] h Zd (BL m v9 _ _ _ s) rfl rfl ?_)));rintro f w1 r ⟨bx,rfl,s⟩ h
    refine nt (au4 (eg (λ_ A9=>A9=[.blk b2 (.cells #[.bool false] 4),.blk b1 (.cells (eL m v9) 29)]) [.blk b2 (.cells #[.bool false] 4),.blk b1 (.cells (eL m v9) 29)] [.blk bx (.cells (eL m v9) 29)] (m.l.length) (Fy m) (λd=>[Value.int .i64 (d:Int),.agg (gl (m.l.getD d Ba))]) h s rfl UO (List.Perm.refl _) (rfl) (λ_=>rfl) ?_ ?_ ?_ ?_))
    ·intro lp w2 GG g0 hg0 s2 hY;exact FU m hln v9 lp bx (Fy m) GG g0 w w2 s2 hg0 hR hY
    ·intro lp D9 d9 rc R9 A9 w2 hd9 hq9 hJ9 s
     obtain rfl:=hJ9
     have h:=Sl.round2 (p:=23) (q:=24) (V:=.int .i64 (d9:Int)) (U:=.agg (gl (m.l.getD d9 Ba))) h rfl rfl
     refine aC (aK (gl Ba) h s Dj rfl rfl λf w1 b4 h s=>am 0 h s uk rfl rfl rfl (rfl) (rfl) (ng _) λw1 s=>nt (⟨_,s.perm (ax2 (l₁:=[_])),λw3 s=>?_⟩))
     refine au4 (ag ?_)
     refine rs ac 1 h rfl λf h=>ai (ah (aX.of_own s 1 rfl) 0 (rfl)) h bQ rfl rfl λf h=>kJ ac h rfl (λk0 f h=>?_) (λk0 f h=>?_)
     ·skip
      refine ap ac 2 h rfl λf h=>cg h rfl (ai (ah (aX.of_own s 1 rfl) 0 (rfl)) h bQ rfl rfl λf h=>ap ac 1 h rfl λf h=>cg h rfl (ai (ah (aX.of_own s 4 rfl) 1 (rfl)) h bQ rfl rfl λf h=>cg h rfl (kJ ac h rfl (λk1 f h=>?_) (λk1 f h=>?_))))
      ·skip
       refine ap ac 3 h rfl λf h=>cg h rfl (ai (ah (aX.of_own s 1 rfl) 1 (rfl)) h bQ rfl rfl λf h=>cg h rfl (fx h s QX (Dz _ _) rfl rfl (λk2 f w1 h s=>?_) (λk2 f w1 h s=>?_)))
       ·refine e9 ac 14 h rfl λf h=>dF h rfl (qr (aB 3 h s ez rfl rfl rfl (by simp) (rfl) λw1 s=>nt (au3 (aY (⟨by show ln _ _=_;unfold ln;simp only [k0,k1,k2,Bool.true_or,Bool.false_or,Bool.or_true,Bool.not_false,Bool.not_true],_,rfl,s.pick _ ?_⟩)))))
        exact ap7 _ (ap8 _ (List.Sublist.refl _))
       ·skip
        refine ap ac 4 h rfl λf h=>cg h rfl (ai (ah (aX.of_own s 1 rfl) 2 (rfl)) h bQ rfl rfl λf h=>cg h rfl (fx h s QX (Dz _ _) rfl rfl (λk3 f w1 h s=>?_) (λk3 f w1 h s=>?_)))
        ·refine e9 ac 8 h rfl λf h=>dF h rfl (qr (aB 3 h s ez rfl rfl rfl (by simp) (rfl) λw1 s=>nt (au3 (aY (⟨by show ln _ _=_;unfold ln;simp only [k0,k1,k2,k3,Bool.true_or,Bool.false_or,Bool.or_true,Bool.not_false,Bool.not_true],_,rfl,s.pick _ ?_⟩)))))
         exact ap7 _ (ap8 _ (List.Sublist.refl _))
        ·skip
         cases k4:(decide (300<(m.l.getD d9 Ba).2.2.2.size):Bool)
         ·refine ap ac 4 h rfl λf h=>cg h rfl (ai (ah (aX.of_own s 1 rfl) 3 (rfl)) h Nr rfl rfl λf h=>cg h rfl (ak h (kv aA0 (h.ev rfl)) rfl λf h=>cg h rfl (jd ac h rfl (aq1 (by have:=aq0 k4;omega)) λf h=>e9 ac 1 h rfl λf h=>mx h rfl (wpIn_skip (aW (⟨by show ln _ _=_;unfold ln;simp only [k0,k1,k2,k3,k4,Bool.true_or,Bool.false_or,Bool.or_true,Bool.not_false,Bool.not_true],_,rfl,s.pick _ ?_⟩))))))
          exact ap7 _ (ap8 _ (List.Sublist.refl _))
         ·refine ap ac 4 h rfl λf h=>cg h rfl (ai (ah (aX.of_own s 1 rfl) 3 (rfl)) h Nr rfl rfl λf h=>cg h rfl (ak h (kv aA0 (h.ev rfl)) rfl λf h=>cg h rfl (jy ac h rfl (aq2 (by have:=ap9 k4;omega)) λf h=>e9 ac 1 h rfl λf h=>dF h rfl (qr (aB 3 h s ez rfl rfl rfl (by simp) (rfl) λw1 s=>nt (au3 (aY (⟨by show ln _ _=_;unfold ln;simp only [k0,k1,k2,k3,k4,Bool.true_or,Bool.false_or,Bool.or_true,Bool.not_false,Bool.not_true],_,rfl,s.pick _ ?_⟩))))))))
          exact ap7 _ (ap8 _ (List.Sublist.refl _))
      ·refine e9 ac 19 h rfl λf h=>dF h rfl (qr (aB 3 h s ez rfl rfl rfl (by simp) (rfl) λw1 s=>nt (au3 (aY (⟨by show ln _ _=_;unfold ln;simp only [k0,k1,Bool.true_or,Bool.false_or,Bool.or_true,Bool.not_false,Bool.not_true],_,rfl,s.pick _ ?_⟩)))))
       exact ap7 _ (ap8 _ (List.Sublist.refl _))
     ·refine e9 ac 25 h rfl λf h=>dF h rfl (qr (aB 3 h s ez rfl rfl rfl (by simp) (rfl) λw1 s=>nt (au3 (aY (⟨by show ln _ _=_;unfold ln;simp only [k0,Bool.true_or,Bool.false_or,Bool.or_true,Bool.not_false,Bool.not_true],_,rfl,s.pick _ ?_⟩)))))
      exact ap7 _ (ap8 _ (List.Sublist.refl _))
    ·intro D9 A9 w2 hJ9 hq9 s
     obtain rfl:=hJ9
     replace h:Sl _ {f with defers:={target:=.collected D9,args:=#[]}::f.defers} _ [{target:=.collected D9,args:=#[]}]:=⟨h.size,by rw [h.defers],h.holds⟩
     refine aW (aG (qr (aB 2 h s ez rfl rfl rfl (by simp) (rfl) λw1 s=>nt (au3 ?_))))
     exact fT 2 0 rfl h s ez rfl rfl rfl rfl rfl (λw9=>by show _=_;rw [Bf h0 h1 h2 hq9];rfl)
    ·intro D9 d9 A9 w2 hd9 hqd9 hq9 hJ9 s
     obtain rfl:=hJ9
     replace h:Sl _ {f with defers:={target:=.collected D9,args:=#[]}::f.defers} _ [{target:=.collected D9,args:=#[]}]:=⟨h.size,by rw [h.defers],h.holds⟩
     refine aY (aQ ?_)
     exact fT 2 0 rfl h s ez rfl rfl rfl rfl rfl (λw9=>by show _=_;rw [BB hd9 hqd9];rfl)
theorem Ic (l:List Lt) (hln:l.length<=1000) (a9:Option Addr) (n9 c9:Nat) (w:World) (hR:a7 w (.slice a9 n9 c9) 4 l.length (ck l)):Calls Tryz.prog 69 [.slice a9 n9 c9].toArray w (bW w (λv w'=>cd w' w.heap.size 132 4 v l.length (ck l))):=by
 refine bG Tryz.func69 rfl Tryz.ntmps69 rfl λf h s=>bD ac 1 h rfl λf h=>ag (ag ?_)
 cases hn:(a9.isNone:Bool)
 ·refine rs ac 1 h rfl λf h=>ak h (bk (.bool false) (bZ aA4 (h.ev rfl) (h.ev rfl)) (aq3 Value.bool hn)) rfl λf h=>iA h rfl (qr (fC (base:=w.heap.size) h aA4 Lp (as1 _) rfl λf w2 v5 h hE3 e5=>ap ac 1 h rfl λf h=>dL (base:=w.heap.size) e5 (hR.keep hE3) h aA4 Lp rfl rfl hE3.le (xD _) (by unfold maxLen;omega) (by omega) rfl λf w3 v7 h hE4 e7=>?_))
  replace s:=s.sl_new (hE3.trans hE4) e7
  refine e9 ac 1 h rfl λf h=>au3 (aA rfl h s rfl (s.getSl 0 rfl))
 ·refine rs ac 1 h rfl λf h=>ak h (bk (.bool true) (bZ aA4 (h.ev rfl) (h.ev rfl)) (aq3 Value.bool hn)) rfl λf h=>iz h rfl (bD ac 1 h rfl λf h=>rt (aA rfl h s rfl (by obtain rfl:=GC hn hR;exact dT _ _ _ _)))
theorem vX (l:List Lt) (hln:l.length<=1000) (v9:Value) (w:World) (hR:a7 w v9 4 l.length (ck l)):Calls Tryz.prog 69 [v9].toArray w (bW w (λv w'=>cd w' w.heap.size 132 4 v l.length (ck l))):=by
 obtain ⟨a,c,rfl⟩:=hR.len
 exact Ic l hln a _ c w hR
theorem Hf (m:Ml) (v9:Value) (tk:Int) (w:World) (hR:a7 w v9 4 m.l.length (ck m.l)) (hln:m.l.length<=1000):Calls Tryz.prog 106 [.agg (eL m v9),.int .i64 tk].toArray w (bW w (HW 132 w.heap.size m tk)):=by
 refine bG Tryz.func106 rfl Tryz.ntmps106 rfl λf h s=>qr (ba ((eL m v9)) h s rfl rfl rfl λf w1 b2 h s=>aK (eL Ll (.slice none 0 0)) h s U5 rfl rfl λf w1 b4 h s=>e9 ac 1 h rfl λf h=>ag (ag ?_))
 cases hr:(bU m:Bool)
 ·refine aC (al 1 h s iN rfl rfl (rfl) rfl λf h=>jX false h s Da (jZ m v9 _ (hR.keep s.ext) hln) (hr) rfl rfl λf w1 h s=>e9 ac 5 h rfl λf h=>dF h rfl (qr (ak h (o6 QS) rfl λf h=>am 0 h s iN rfl rfl rfl (rfl) (rfl) (nx _ _ rfl) λw1 s=>e9 ac 1 h rfl λf h=>rt (cc 0 rfl h s iN rfl rfl (rfl) rfl (Dc (wZ (by rw [hr];rfl)))))))
 ·skip
  cases ht:(decide (tk<0):Bool)
  ·refine aC (al 1 h s iN rfl rfl (rfl) rfl λf h=>bg h s Da (bK (.bool true) (jZ m v9 _ (hR.keep s.ext) hln) (aq3 Value.bool hr)) rfl rfl ?_);intro f w1 v9 hT hE h s;obtain rfl:=hT
   refine ap ac 3 h rfl λf h=>cg h rfl (jd ac h rfl ht λf h=>e9 ac 1 h rfl λf h=>ry h rfl (cw ac 1 h rfl λf h=>?_))
   have hbd:=((dP m).1 hr).2.2.1
   have htk:=aq0 ht
   refine ai (ah (aX.of_own s 1 rfl) 2 (rfl)) h bQ rfl rfl λf h=>ap ac 2 h rfl λf h=>ai (ah (aX.of_own s 1 rfl) 2 (rfl)) h bQ rfl rfl λf h=>ak h (fp (h.ev rfl) (h.ev rfl) (by omega)) rfl λf h=>ak h (bk (.int .i64 (min tk (1099511627776 - m.now))) (Hy (h.ev rfl) (h.ev rfl)) (aq3 (Value.int .i64) (by omega))) rfl λf h=>ak h (bB (h.ev rfl) (h.ev rfl) (by omega)) rfl λf h=>ap ac 1 h rfl λf h=>aB 1 h s bQ rfl rfl rfl (by show _<3;decide) (rfl) λw1 s=>?_
   replace s:=s.recell (D:=eL {m with now:=m.now+min tk (1099511627776 - m.now)} v9) 1 rfl rfl
   refine nt (cw ac 1 h rfl λf h=>ai (ah (aX.of_own s 1 rfl) 0 (rfl)) h mO rfl rfl λf h=>bg h s QU (vX m.l hln v9 _ (hR.keep s.ext)) rfl rfl ?_);intro f w1 v25 hT hE h sq;replace s:=s.sl_new hE hT
   refine ap ac 1 h rfl λf h=>aB 2 h s mO rfl rfl rfl (by show _<3;decide) (aZ (s.getSl 0 rfl)) λw1 s=>?_
   replace s:=s.recell (D:=eL {m with now:=m.now+min tk (1099511627776 - m.now)} v25) 2 rfl rfl
   refine nt (qr (al 2 h s iN rfl rfl (rfl) rfl λf h=>am 1 h s iN rfl rfl rfl (rfl) (rfl) (nx _ _ (aZ (s.getSl 0 rfl))) λw1 s=>e9 ac 1 h rfl λf h=>au3 (cc 1 rfl h s iN rfl rfl (rfl) rfl (Oc (N6 (by rw [hr,ht];rfl)) (s.getSl 0 rfl)))))
  ·refine aC (al 1 h s iN rfl rfl (rfl) rfl λf h=>jX true h s Da (jZ m v9 _ (hR.keep s.ext) hln) (hr) rfl rfl λf w1 h s=>ap ac 3 h rfl λf h=>cg h rfl (jy ac h rfl ht λf h=>e9 ac 1 h rfl λf h=>dF h rfl (qr (ak h (o6 QS) rfl λf h=>am 0 h s iN rfl rfl rfl (rfl) (rfl) (nx _ _ rfl) λw1 s=>e9 ac 1 h rfl λf h=>rt (cc 0 rfl h s iN rfl rfl (rfl) rfl (Dc (wZ (by rw [hr,ht];rfl))))))))
end Go.Proofs.YthmlflaiidhoiaaGreatDoor
