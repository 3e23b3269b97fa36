/- Package node and what it stands on, so far as it is wanted: what each function answers. -/
import Derived.Test.YthmlflaiidhoiaaGreatDoorCon
set_option linter.unusedVariables false
set_option linter.unusedSimpArgs false
set_option linter.unusedSectionVars false
namespace Go.Proofs.YthmlflaiidhoiaaGreatDoor
open Go.RowKit
theorem jT (m:Mb) (w:World):Calls Tryz.prog 130 [.agg (ar m)].toArray w (bW w (is (.bool (ib m)))):=by
 refine bG Tryz.func130 rfl Tryz.ntmps130 rfl λf h s=>qr (ba ((ar m)) h s rfl rfl rfl λf w1 b1 h s=>e9 ac 1 h rfl λf h=>ag ?_)
 refine rs ac 1 h rfl λf h=>ai (ah (aX.of_own s 0 rfl) 0 (bH _)) h bQ rfl rfl λf h=>kJ ac h rfl (λh0 f h=>?_) (λh0 f h=>?_)
 ·refine e9 ac 6 h rfl λf h=>au3 (aA rfl h s rfl (by show _=_;rw [Yr h0]<;>rfl))
 ·refine ap ac 2 h rfl λf h=>cg h rfl (ai (ah (aX.of_own s 0 rfl) 0 (bH _)) h bQ rfl rfl λf h=>e9 ac 3 h rfl λf h=>au3 (aA rfl h s rfl (by show _=_;rw [Zw h0]<;>rfl)))
theorem gk  (w:World):Calls Tryz.prog 204 [].toArray w (bW w (is (.agg (ar fj)))):=by
 refine bG Tryz.func204 rfl Tryz.ntmps204 rfl λf h s=>qr (aK (ar aS) h s cQ rfl rfl λf w1 b0 h s=>nt (qr (ak h (oO sO rfl) rfl λf h=>am 0 h s aI rfl rfl rfl (ae _) (ae _) (aP _) λw1 s=>nt (au3 (g7 0 rfl h s aI rfl rfl (ae _) (rfl))))))
theorem NV (m:Mb) (no:Int) (w:World):Calls Tryz.prog 131 [.agg (ar m),.int .i64 no].toArray w (bW w (is (.bool (sE m no)))):=by
 refine bG Tryz.func131 rfl Tryz.ntmps131 rfl λf h s=>qr (ba ((ar m)) h s rfl rfl rfl λf w1 b2 h s=>e9 ac 1 h rfl λf h=>ag ?_)
 cases q0:(decide (m=fj):Bool)
 ·skip
  cases q1:(ib m:Bool)
  ·refine cK 14 h (by kernel_rfl) (aH 0 h s aI rfl rfl (ae _) rfl λf h=>bR h ki (λw9 hE9=>gk w9) rfl rfl λf h=>aF h (bk (.bool false) (gj (Bb _ _) (by kernel_rfl) (by decide) (h.ev rfl) (h.ev rfl) (decide (m=fj)) (mm _ _)) (aq3 Value.bool q0)) rfl λf h=>aD ac 1 h rfl λf h=>cj h rfl (aH 0 h s aI rfl rfl (ae _) rfl λf h=>cj h rfl (bR h pW (λw9 hE9=>bK (.bool false) (jT m w9) (aq3 Value.bool q1)) rfl rfl λf h=>aD ac 8 h rfl λf h=>bF s λw1 s=>nt (au3 (aA rfl h s rfl (by show _=_;rw [YG q0 q1]))))))
  ·skip
   refine cK 14 h (by kernel_rfl) (aH 0 h s aI rfl rfl (ae _) rfl λf h=>bR h ki (λw9 hE9=>gk w9) rfl rfl λf h=>aF h (bk (.bool false) (gj (Bb _ _) (by kernel_rfl) (by decide) (h.ev rfl) (h.ev rfl) (decide (m=fj)) (mm _ _)) (aq3 Value.bool q0)) rfl λf h=>aD ac 1 h rfl λf h=>cj h rfl (aH 0 h s aI rfl rfl (ae _) rfl λf h=>cj h rfl (bR h pW (λw9 hE9=>bK (.bool true) (jT m w9) (aq3 Value.bool q1)) rfl rfl λf h=>aD ac 2 h rfl λf h=>cj h rfl (bw (ah (aX.of_own s 0 rfl) 0 (bH _)) h bQ rfl rfl λf h=>aD ac 1 h rfl λf h=>cj h rfl (UC ac h rfl (λq2 f h=>?_) (λq2 f h=>?_))))))
   ·refine aD ac 3 h rfl λf h=>bF s λw1 s=>nt (au3 (aA rfl h s rfl (by show _=_;rw [Rl q0 q1,q2])))
   ·refine aD ac 3 h rfl λf h=>bF s λw1 s=>nt (au3 (aA rfl h s rfl (by show _=_;rw [Rl q0 q1,q2])))
 ·refine cK 14 h (by kernel_rfl) (aH 0 h s aI rfl rfl (ae _) rfl λf h=>bR h ki (λw9 hE9=>gk w9) rfl rfl λf h=>aF h (bk (.bool true) (gj (Bb _ _) (by kernel_rfl) (by decide) (h.ev rfl) (h.ev rfl) (decide (m=fj)) (mm _ _)) (aq3 Value.bool q0)) rfl λf h=>aD ac 11 h rfl λf h=>bF s λw1 s=>nt (au3 (aA rfl h s rfl (by show _=_;rw [W1 q0]))))
theorem BY (x:Mb) (no:Int) (bx:Nat) (w:World) (hb:jA w bx #[.int .i64 no]):Calls Tryz.prog 299 [.agg (ar x),.pointer (some ⟨bx,0,none⟩)].toArray w (bW w (is (.bool (decide (x.1=no))))):=by
 refine bG Tryz.func299 rfl Tryz.ntmps299 rfl λf h s=>qr (ba ((ar x)) h s rfl rfl rfl λf w1 b2 h s=>e9 ac 1 h rfl λf h=>cw ac 1 h rfl λf h=>ai (ah (aX.of_own s 0 rfl) 0 (bH _)) h bQ rfl rfl λf h=>ai (V:=.int .i64 no) (ah (aX.of_tab (hb.keep s.ext)) 0 (rfl)) h bQ rfl rfl λf h=>e9 ac 2 h rfl λf h=>au3 (aA rfl h s rfl (rfl)))
theorem qG (l:List Mb) (vh:Value) (m:Mb) (B9:List Own) (w0 w:World) (s:St w0 (.sl vh 60 33 (l).length (aj (l))::B9) w):Calls Tryz.prog 272 [vh,.agg (ar m)].toArray w (λe w9=>∃ v9,e=.returned v9/\St w0 (.sl v9 60 33 (nY l m).length (aj (nY l m))::B9) w9):=by
 refine da Tryz.func272 rfl Tryz.ntmps272 rfl [(0,vh),(1,.agg (ar m))] (by simp) λf h=>?_
 refine qr (ba ((ar m)) h s rfl rfl rfl λf w1 b3 h s=>e9 ac 1 h rfl λf h=>ag (cw ac 1 h rfl λf h=>eF 1 h s aA6 rfl rfl rfl λf h=>e9 ac 1 h rfl λf h=>cT h rfl (λhc=>?_) (λhc=>?_)))
 ·have h0:l.length=0:=by have:=ap9 hc;omega
  refine qr (al 0 h s aI rfl rfl (ae _) rfl λf h=>ef (vs:=[.agg (ar m)]) [.tmp 8] h s aA6 im rfl rfl (vy _) rfl rfl rfl λf w1 v9 h s=>?_)
  replace s:=s.resl (m:=[m].length) (ys:=aj [m]) 0 rfl rfl (by rw [lF,gX])
  refine e9 ac 1 h rfl λf h=>rt (gB rfl h rfl (⟨_,rfl,yh (EK h0).symm (s.pick _ (ap7 _ (ap8 _ (ap8 _ (List.Sublist.refl _)))))⟩))
 ·have h0:¬ l.length=0:=by have:=aq0 hc;omega
  refine kt (bD ac 2 h rfl λf h=>au3 (gB rfl h rfl (⟨_,rfl,yh (vY h0).symm (s.pick _ (ap8 _ (ap7 _ (List.Sublist.refl _))))⟩)))
theorem NL (no:Int) (a9:Option Addr) (n9 c9:Nat) (B9:List Own) (w0 w:World) (s:St w0 B9 w):Calls Tryz.prog 275 [.int .i64 no,.slice a9 n9 c9].toArray w (λe w9=>∃ r,e=.returned r/\∃ bs bn,r=.func (.func 311) #[] #[.pointer (some ⟨bs,0,none⟩),.pointer (some ⟨bn,0,none⟩)]/\St w0 (.blk bs (.cells #[.slice a9 n9 c9] 61)::.blk bn (.cells #[.int .i64 no] 3)::B9) w9):=by
 refine da Tryz.func275 rfl Tryz.ntmps275 rfl [(0,.int .i64 no),(1,.slice a9 n9 c9)] (by simp) λf h=>?_
 refine qr (ba (#[.int .i64 no]) h s rfl rfl rfl λf w1 b2 h s=>ba (#[.slice a9 n9 c9]) h s rfl rfl rfl λf w1 b3 h s=>e9 ac 1 h rfl λf h=>qr (ak h (de [.pointer (some ⟨b3,0,none⟩),.pointer (some ⟨b2,0,none⟩)] (lL h rfl)) rfl λf h=>e9 ac 1 h rfl λf h=>au3 (gB rfl h rfl (⟨_,rfl,b3,b2,rfl,s⟩))))
theorem Fv (no:Int) (l:List Mb) (hln:l.length<=1000) (vh:Value) (lp bs bn:Nat) (q:Nat->Bool) (GG:Nat->Own->Prop) (g0:Own) (w0 w:World) (s:St w0 [.blk bs (.cells #[vh] 61),.blk bn (.cells #[.int .i64 no] 3),.sl vh 60 33 l.length (aj l),g0] w) (hg0:GG 0 g0) (hY:∀ (d:Nat) (B9:List Own) (w9:World) (i:Nat) (g:Own),d<(dH no l).length->(∀ j,j<d->q j=false)->GG d g->St w0 B9 w9->B9[i]? = some g->i6 Tryz.prog lp [Value.agg (ar ((dH no l).getD d aS))].toArray w9 (λv w2=>v=.bool (!q d)/\∃ g',GG (d+1) g'/\St w0 (B9.set i g') w2)):Calls Tryz.prog 311 [.func (.yield lp) #[] #[],.pointer (some ⟨bs,0,none⟩),.pointer (some ⟨bn,0,none⟩)].toArray w (λe w9=>(∃ v,e=.returned v)/\∃ d g,GG d g/\St w0 ([.blk bs (.cells #[vh] 61),.blk bn (.cells #[.int .i64 no] 3),.sl vh 60 33 l.length (aj l)]++[g]) w9/\d<=(dH no l).length/\(∀ j,j+1<d->q j=false)/\(lq q d=false->d=(dH no l).length)):=by
 refine da Tryz.func311 rfl Tryz.ntmps311 rfl [(0,.func (.yield lp) #[] #[]),(1,.pointer (some ⟨bs,0,none⟩)),(2,.pointer (some ⟨bn,0,none⟩))] (by simp) λf h=>?_
 refine qr (bT 0 h s ci rfl rfl (rfl) rfl λf h=>eF 2 h s aA6 rfl rfl rfl λf h=>e9 ac 1 h rfl λf h=>au4 (au6 (λnn aa ww=>∃ d:Nat,∃ gg:Own,Sl 23 aa [(0,.func (.yield lp) #[] #[]),(1,.pointer (some ⟨bs,0,none⟩)),(2,.pointer (some ⟨bn,0,none⟩)),(6,vh),(7,.int .i64 (l.length:Int)),(8,.int .i64 (d:Int))]/\St w0 [.blk bs (.cells (#[vh]) 61),.blk bn (.cells (#[.int .i64 no]) 3),.sl vh 60 33 l.length (aj l),(gg)] ww/\nn=l.length - d/\d<=(dH no l).length/\GG d gg/\∀ j,j<d->q j=false) (l.length - (0)) ⟨0,g0,h.only ⟨rfl,rfl,rfl,rfl,rfl,aw rfl (by omega),trivial⟩,s.as ⟨rfl,rfl,rfl,rfl,trivial⟩,rfl,as3 _,hg0,λj hj=>ax7 hj (av6 _)⟩ ?_))
 rintro _ f w1 ⟨d,gg,h,s,hnn,hp0,hp1,hp2⟩
 refine bD ac 1 h rfl λf h=>ag (cZ h rfl (λhc=>?_) (λhc=>?_))
 ·refine kt (ag (au4 (qr ?_)))
  have hdl:d<l.length:=by omega
  refine ak h (bj (a7.of_own (s.getSl 2 rfl)) (d) aA6 dd (h.ev rfl) (h.ev rfl) (by omega) (by omega)) rfl λf h=>ax ((a7.of_own (s.getSl 2 rfl)).el (d) (by omega) (by decide) (D:=ar (l.getD d aS)) (dI l d hdl)) h aI rfl (ae _) rfl λf h=>aK (ar aS) h s cQ rfl rfl λf w1 b5 h s=>am 0 h s aI rfl rfl rfl (ae _) (ae _) (aP _) λw1 s=>nt (ag ?_)
  refine rs ac 1 h rfl λf h=>ai (ah (aX.of_own s 0 rfl) 0 (bH _)) h bQ rfl rfl λf h=>bT 2 h s bQ rfl rfl (rfl) rfl λf h=>kJ ac h rfl (λhs9 f h=>?_) (λhs9 f h=>?_)
  ·skip
   cases hq:(q d:Bool)
   ·refine ap ac 1 h rfl λf h=>cg h rfl ?_
    have hdm:d<(dH no l).length:=Dk hp0 hdl hs9
    refine ap ac 1 h rfl λf h=>cg h rfl (al 0 h s aI rfl rfl (ae _) rfl λf h=>cg h rfl (eC (V:=.bool true) (G:=GG (d+1)) [.agg (ar (l.getD d aS))] 4 h rfl rfl (by have h9:=hY d _ _ 4 gg hdm hp2 hp1 s rfl;rw [hq,oy hdm] at h9;exact h9) rfl ?_));intro f w1 g1 hg1 h s
    refine e9 ac 2 h rfl λf h=>mx h rfl (wpIn_skip (aW (aG (aC (ak h (bB (h.ev rfl) (h.ev rfl) (by omega)) rfl λf h=>e9 ac 1 h rfl λf h=>?_)))))
    exact ⟨_,by omega,⟨d+1,g1,h.only ⟨rfl,rfl,rfl,rfl,rfl,aw rfl (by omega),trivial⟩,St.as (s.pick _ (ar8 [_] _)) ⟨rfl,rfl,rfl,rfl,trivial⟩,rfl,hdm,hg1,eM hp2 hq⟩⟩
   ·refine ap ac 1 h rfl λf h=>cg h rfl ?_
    have hdm:d<(dH no l).length:=Dk hp0 hdl hs9
    refine ap ac 1 h rfl λf h=>cg h rfl (al 0 h s aI rfl rfl (ae _) rfl λf h=>cg h rfl (eC (V:=.bool false) (G:=GG (d+1)) [.agg (ar (l.getD d aS))] 4 h rfl rfl (by have h9:=hY d _ _ 4 gg hdm hp2 hp1 s rfl;rw [hq,oy hdm] at h9;exact h9) rfl ?_));intro f w1 g1 hg1 h s
    refine e9 ac 2 h rfl λf h=>dF h rfl (au3 (aY (aQ (aQ (aY ?_)))))
    exact jo rfl h (⟨⟨_,rfl⟩,d+1,g1,hg1,s.pick _ (as2 _ _),hdm,λj hj=>hp2 j (by omega),λh9=>ax7 (hq.symm.trans h9) (by decide)⟩)
  ·refine e9 ac 6 h rfl λf h=>dF h rfl (au3 (aY (aQ (aQ (aY ?_)))))
   exact jo rfl h (⟨⟨_,rfl⟩,d,gg,hp1,s.pick _ (as2 _ _),hp0,λj hj=>hp2 j (by omega),λ_=>Nat.le_antisymm hp0 (Gq (ap9 hs9) hdl)⟩)
 ·refine au5 (aT (aT (bS ?_)))
  exact dN rfl h (⟨⟨_,rfl⟩,d,gg,hp1,s,hp0,λj hj=>hp2 j (by omega),λ_=>(by have:=NX no l;omega)⟩)
end Go.Proofs.YthmlflaiidhoiaaGreatDoor
