/- Package table and what it stands on, so far as it is wanted: what each function answers. -/
import Derived.Test.YthmlflaiidhoiaaGreatDoorZl
import Derived.Test.YthmlflaiidhoiaaGreatDoorZm
import Derived.Test.YthmlflaiidhoiaaGreatDoorZh
set_option linter.unusedVariables false
set_option linter.unusedSimpArgs false
set_option linter.unusedSectionVars false
namespace Go.Proofs.YthmlflaiidhoiaaGreatDoor
open Go.RowKit
theorem Ga (x y:Tg) (w:World):Calls Tryz.prog 142 [.agg (aV x),.agg (aV y)].toArray w (bW w (is (.int .i64 (qI x y 0)))):=by
 refine bG Tryz.func142 rfl Tryz.ntmps142 rfl λf h s=>qr (ba (aV x) h s rfl rfl rfl λf w1 b2 h s=>ba (aV y) h s rfl rfl rfl λf w1 b3 h s=>e9 ac 1 h rfl λf h=>cw ac 1 h rfl λf h=>ax (aX.subL (aX.of_own s 1 rfl) 0 32 (D:=aJ (_)) (jJ _)) h bO rfl (by first|exact az _|exact ay _ _) rfl λf h=>ap ac 1 h rfl λf h=>ax (aX.subL (aX.of_own s 0 rfl) 0 32 (D:=aJ (_)) (jJ _)) h bO rfl (by first|exact az _|exact ay _ _) rfl λf h=>fP h s Do (jm x.1 y.1 _) rfl rfl λf w1 h s=>e9 ac 1 h rfl λf h=>au3 (aA rfl h s rfl (rfl)))
theorem Cl (x y:Tg) (w:World):Calls Tryz.prog 144 [.agg (aV x),.agg (aV y)].toArray w (bW w (is (.int .i64 (qI x y 2)))):=by
 refine bG Tryz.func144 rfl Tryz.ntmps144 rfl λf h s=>qr (ba (aV x) h s rfl rfl rfl λf w1 b2 h s=>ba (aV y) h s rfl rfl rfl λf w1 b3 h s=>e9 ac 1 h rfl λf h=>cw ac 2 h rfl λf h=>ax (aX.subL (aX.of_own s 1 rfl) 33 32 (D:=aJ (_)) (vR _)) h bO rfl (by first|exact az _|exact ay _ _) rfl λf h=>ap ac 2 h rfl λf h=>ax (aX.subL (aX.of_own s 0 rfl) 33 32 (D:=aJ (_)) (vR _)) h bO rfl (by first|exact az _|exact ay _ _) rfl λf h=>fP h s Do (jm x.2.1.2.1 y.2.1.2.1 _) rfl rfl λf w1 h s=>e9 ac 1 h rfl λf h=>au3 (aA rfl h s rfl (rfl)))
theorem EI (x y:Tg) (k:Nat) (hk:k<4) (w:World):Fnc Tryz.prog (fn4 142 143 144 145 k)/\Calls Tryz.prog (fn4 142 143 144 145 k) [.agg (aV x),.agg (aV y)].toArray w (bW w (is (.int .i64 (qI x y k)))):=by
 match k,hk with
 |0,_=>exact ⟨Sn,Ga x y w⟩
 |1,_=>exact ⟨UA,AB x y w⟩
 |2,_=>exact ⟨VP,Cl x y w⟩
 |3,_=>exact ⟨Sf,yF x y w⟩
theorem fy (x y:Tg) (w:World):Calls Tryz.prog 91 [.agg (aV x),.agg (aV y)].toArray w (bW w (is (.int .i64 (vE x y)))):=by
 refine bG Tryz.func91 rfl Tryz.ntmps91 rfl λf h s=>qr (ba (aV x) h s rfl rfl rfl λf w1 b2 h s=>ba (aV y) h s rfl rfl rfl λf w1 b3 h s=>e9 ac 1 h rfl λf h=>qr (ak h (xk [.func 142,.func 143,.func 144,.func 145] [.func (.func 142) #[] #[],.func (.func 143) #[] #[],.func (.func 144) #[] #[],.func (.func 145) #[] #[]] az5 D0 ⟨_,Dx,rfl⟩ rfl (evs h rfl) (by simp [Value.cells]) rfl) rfl λf h=>aK (#[.nilFunc,.nilFunc,.nilFunc,.nilFunc]) h s Dx rfl rfl λf w1 b5 h s=>am 0 h s Kv rfl rfl rfl (rfl) (rfl) (by decide) λw1 s=>nt (ag (qr (al 0 h s Kv rfl rfl (rfl) rfl λf h=>e9 ac 1 h rfl λf h=>au4 (au6 (λnn aa ww=>∃ k:Nat,Sl 22 aa [(0,.agg (aV x)),(1,.agg (aV y)),(2,.pointer (some ⟨b2,0,none⟩)),(3,.pointer (some ⟨b3,0,none⟩)),(5,.pointer (some ⟨b5,0,none⟩)),(10,.agg (#[.func (.func 142) #[] #[],.func (.func 143) #[] #[],.func (.func 144) #[] #[],.func (.func 145) #[] #[]])),(11,.int .i64 (k:Int))]/\St w [.blk b5 (.cells (#[.func (.func 142) #[] #[],.func (.func 143) #[] #[],.func (.func 144) #[] #[],.func (.func 145) #[] #[]]) 219),.blk b3 (.cells (aV y) 49),.blk b2 (.cells (aV x) 49)] ww/\nn=4 - k/\k<=4/\∀ j,j<k->qI x y j=0) (4 - (0)) ⟨0,h.only ⟨rfl,rfl,rfl,rfl,rfl,rfl,aw rfl (by omega),trivial⟩,s.as ⟨rfl,rfl,rfl,trivial⟩,rfl,as3 _,λj hj=>ax7 hj (av6 _)⟩ ?_))))))
 rintro _ f w1 ⟨k,h,s,hnn,hp0,hp1⟩
 refine bD ac 1 h rfl λf h=>ag (cZ h rfl (λhc=>?_) (λhc=>?_))
 ·refine kt (ag (au4 (qr ?_)))
  have hk4:k<4:=by omega
  obtain ⟨hfn4,_⟩:=EI x y k hk4 w
  refine ak h (yU k az5 D0 Tryz.underlying216 (h.ev rfl) (h.ev rfl) rfl (by omega) (T0 hk4)) rfl λf h=>e9 ac 1 h rfl λf h=>cw ac 1 h rfl λf h=>al 2 h s cO rfl rfl (aN _) rfl λf h=>al 1 h s cO rfl rfl (aN _) rfl λf h=>gQ [.agg (aV x),.agg (aV y)] (caps:=[]) h s hfn4 rfl (EI x y k hk4 _).2 rfl rfl ?_;intro f w1 v17 hT hE h s;obtain rfl:=hT
  refine e9 ac 1 h rfl λf h=>bD ac 2 h rfl λf h=>cT h rfl (λhc=>?_) (λhc=>?_)
  ·have hc:=ap9 hc
   refine bD ac 2 h rfl λf h=>au3 (aY (aQ (aQ (aY (aQ (aA rfl h s rfl (by show _=_;rw [M6 hk4 hp1 hc])))))))
  ·have hc:=Decidable.of_not_not (aq0 hc)
   refine wpIn_skip (aW (aG (aC (ak h (bB (h.ev rfl) (h.ev rfl) (by omega)) rfl λf h=>e9 ac 1 h rfl λf h=>?_))))
   exact ⟨_,by omega,⟨k+1,h.only ⟨rfl,rfl,rfl,rfl,rfl,rfl,aw rfl (by omega),trivial⟩,St.as s ⟨rfl,rfl,rfl,trivial⟩,rfl,by omega,OQ hp1 hc⟩⟩
 ·refine au5 (aT (aT (bS (aG (bD ac 1 h rfl λf h=>au3 (aA rfl h s rfl (by show _=_;rw [Ov (λj hj=>hp1 j (by omega))])))))))
theorem sY (l:List Tg) (vh:Value) (w:World) (hR:a7 w vh 67 l.length (bz l)) (hln:l.length<=1000):Calls Tryz.prog 42 [vh].toArray w (bW w (is (.bool (eu l)))):=by
 refine bG Tryz.func42 rfl Tryz.ntmps42 rfl λf h s=>bD ac 1 h rfl λf h=>ag (cw ac 1 h rfl λf h=>cb h (hR.keep s.ext) aA5 rfl rfl λf h=>e9 ac 1 h rfl λf h=>cT h rfl (λhc=>?_) (λhc=>?_))
 ·have h32:¬ l.length<=32:=by have:=ap9 hc;omega
  refine bD ac 1 h rfl λf h=>rt (aA rfl h s rfl (by first|(unfold eu;rw [aq1 h32,Bool.and_false];rfl)|(obtain rfl:k=l.length:=(by omega);show _=_;rw [u6 hp1];exact aq3 Value.bool (aq2 h32).symm)))
 ·have h32:l.length<=32:=by have:=aq0 hc;omega
  refine kt (ag (cw ac 1 h rfl λf h=>cb h (hR.keep s.ext) aA5 rfl rfl λf h=>e9 ac 1 h rfl λf h=>au4 (au6 (λnn aa ww=>∃ k:Nat,Sl 33 aa [(0,vh),(8,vh),(9,.int .i64 (l.length:Int)),(10,.int .i64 (k:Int))]/\St w [] ww/\nn=l.length - k/\k<=l.length/\∀ j,j<k->DZ l j=true) (l.length - (0)) ⟨0,h.only ⟨rfl,rfl,rfl,aw rfl (by omega),trivial⟩,s.as trivial,rfl,as3 _,λj hj=>ax7 hj (av6 _)⟩ ?_)))
  rintro _ f w1 ⟨k,h,s,hnn,hp0,hp1⟩
  refine bD ac 1 h rfl λf h=>ag (cZ h rfl (λhc=>?_) (λhc=>?_))
  ·refine kt (ag (au4 (cw ac 1 h rfl λf h=>?_)))
   have hkl:k<l.length:=by omega
   refine ak h (bj (hR.keep s.ext) (k) aA5 ir (h.ev rfl) (h.ev rfl) (by omega) (by omega)) rfl λf h=>ax ((hR.keep s.ext).el (k) (by omega) (by decide) (D:=aV (l.getD k cr)) (iO l k hkl)) h cO rfl (aN _) rfl λf h=>aK (aV cr) h s nz rfl rfl λf w1 b4 h s=>ap ac 1 h rfl λf h=>am 0 h s cO rfl rfl rfl (aN _) (aN _) (ft _) λw1 s=>nt (ag ?_)
   cases h0:(gH (l.getD k cr):Bool)
   ·refine cK 17 h (by kernel_rfl) (aH 0 h s cO rfl rfl (aN _) rfl λf h=>bR h Ab (λw9 hE9=>bK (.bool false) (gV (l.getD k cr) w9) (aq3 Value.bool h0)) rfl rfl λf h=>aD ac 15 h rfl λf h=>bF s λw1 s=>iz h rfl (bD ac 1 h rfl λf h=>au3 (aY (aQ (aQ (aY (aQ (aA rfl h s rfl (by show _=_;rw [sP hkl (ae7 h0)])))))))))
   ·skip
    cases h1:(decide (k=0):Bool)
    ·skip
     cases h2:(mt (l.getD (k - 1) cr) (l.getD k cr):Bool)
     ·refine cK 17 h (by kernel_rfl) (aH 0 h s cO rfl rfl (aN _) rfl λf h=>bR h Ab (λw9 hE9=>bK (.bool true) (gV (l.getD k cr) w9) (aq3 Value.bool h0)) rfl rfl λf h=>aD ac 3 h rfl λf h=>cj h rfl (ql ac h rfl (aq2 (by have:=aq0 h1;omega)) λf h=>aD ac 3 h rfl λf h=>cj h rfl (aF h (fp (h.ev rfl) (h.ev rfl) (by omega)) rfl λf h=>cj h rfl (aF h (bj (hR.keep s.ext) ((k - 1)) aA5 ir (h.ev rfl) (h.ev rfl) (by have:=aq0 h1;omega) (by omega)) rfl λf h=>cj h rfl (aU ((hR.keep s.ext).el ((k - 1)) (by omega) (by decide) (D:=aV (l.getD (k - 1) cr)) (iO l (k - 1) (by omega))) h cO rfl (aN _) rfl λf h=>cj h rfl (aH 0 h s cO rfl rfl (aN _) rfl λf h=>cj h rfl (bR h vd (λw9 hE9=>fy (l.getD (k - 1) cr) (l.getD k cr) w9) rfl rfl λf h=>cj h rfl (ql ac h rfl ((H3 _ _).trans (by rw [h2];rfl)) λf h=>aD ac 2 h rfl λf h=>bF s λw1 s=>iz h rfl (bD ac 1 h rfl λf h=>au3 (aY (aQ (aQ (aY (aQ (aA rfl h s rfl (by show _=_;rw [sP hkl ((YI h0 (aq0 h1)).trans h2)]))))))))))))))))
     ·refine cK 17 h (by kernel_rfl) (aH 0 h s cO rfl rfl (aN _) rfl λf h=>bR h Ab (λw9 hE9=>bK (.bool true) (gV (l.getD k cr) w9) (aq3 Value.bool h0)) rfl rfl λf h=>aD ac 3 h rfl λf h=>cj h rfl (ql ac h rfl (aq2 (by have:=aq0 h1;omega)) λf h=>aD ac 3 h rfl λf h=>cj h rfl (aF h (fp (h.ev rfl) (h.ev rfl) (by omega)) rfl λf h=>cj h rfl (aF h (bj (hR.keep s.ext) ((k - 1)) aA5 ir (h.ev rfl) (h.ev rfl) (by have:=aq0 h1;omega) (by omega)) rfl λf h=>cj h rfl (aU ((hR.keep s.ext).el ((k - 1)) (by omega) (by decide) (D:=aV (l.getD (k - 1) cr)) (iO l (k - 1) (by omega))) h cO rfl (aN _) rfl λf h=>cj h rfl (aH 0 h s cO rfl rfl (aN _) rfl λf h=>cj h rfl (bR h vd (λw9 hE9=>fy (l.getD (k - 1) cr) (l.getD k cr) w9) rfl rfl λf h=>cj h rfl (sT ac h rfl ((H3 _ _).trans (by rw [h2];rfl)) λf h=>aD ac 2 h rfl λf h=>bF s λw1 s=>tS h rfl (wpIn_skip (aW (aG (aC (ak h (bB (h.ev rfl) (h.ev rfl) (by omega)) rfl λf h=>e9 ac 1 h rfl λf h=>?_)))))))))))))
      exact ⟨_,by omega,⟨k+1,h.only ⟨rfl,rfl,rfl,aw rfl (by omega),trivial⟩,St.as (s.pick _ (ar8 [_] _)) trivial,rfl,by omega,zm hp1 ((YI h0 (aq0 h1)).trans h2)⟩⟩
    ·refine cK 17 h (by kernel_rfl) (aH 0 h s cO rfl rfl (aN _) rfl λf h=>bR h Ab (λw9 hE9=>bK (.bool true) (gV (l.getD k cr) w9) (aq3 Value.bool h0)) rfl rfl λf h=>aD ac 3 h rfl λf h=>cj h rfl (sT ac h rfl (aq1 (by have:=ap9 h1;omega)) λf h=>aD ac 11 h rfl λf h=>bF s λw1 s=>tS h rfl (wpIn_skip (aW (aG (aC (ak h (bB (h.ev rfl) (h.ev rfl) (by omega)) rfl λf h=>e9 ac 1 h rfl λf h=>?_)))))))
     exact ⟨_,by omega,⟨k+1,h.only ⟨rfl,rfl,rfl,aw rfl (by omega),trivial⟩,St.as (s.pick _ (ar8 [_] _)) trivial,rfl,by omega,zm hp1 (ad9 h0 (ap9 h1))⟩⟩
  ·refine au5 (aT (aT (bS (aG (bD ac 1 h rfl λf h=>au3 (aA rfl h s rfl (by first|(unfold eu;rw [aq1 h32,Bool.and_false];rfl)|(obtain rfl:k=l.length:=(by omega);show _=_;rw [u6 hp1];exact aq3 Value.bool (aq2 h32).symm))))))))
theorem wA (l:List Tg) (vh:Value) (x:Tg) (w:World) (hR:a7 w vh 67 l.length (bz l)) (hln:l.length<=1000) (hs9:mn l):Calls Tryz.prog 93 [vh,.agg (aV x),.func (.func 91) #[] #[]].toArray w (bW w (λv _=>∃ n b,v=.tuple #[.int .i64 ((n:Nat):Int),.bool b]/\FndT l x n b)):=by
 refine bG Tryz.func93 rfl Tryz.ntmps93 rfl λf h s=>qr (ba (aV x) h s rfl rfl rfl λf w1 b4 h s=>e9 ac 2 h rfl λf h=>cw ac 1 h rfl λf h=>cb h (hR.keep s.ext) aA5 rfl rfl λf h=>e9 ac 1 h rfl λf h=>bD ac 3 h rfl λf h=>ag (au4 (au6 (λnn aa ww=>∃ i:Nat,∃ j:Nat,Sl 49 aa [(1,.agg (aV x)),(4,.pointer (some ⟨b4,0,none⟩)),(0,vh),(2,.func (.func 91) #[] #[]),(8,.int .i64 (l.length:Int)),(9,.int .i64 (i:Int)),(10,.int .i64 (j:Int))]/\St w [.blk b4 (.cells (aV x) 49)] ww/\nn=j - i/\i<=j/\j<=l.length/\(∀ q,q<i->mt (l.getD q cr) x=true)/\∀ q,j<=q->q<l.length->mt (l.getD q cr) x=false) ((l.length) - (0)) ⟨0,l.length,h.only ⟨rfl,rfl,rfl,rfl,rfl,aw rfl (by omega),aw rfl (by omega),trivial⟩,s.as ⟨rfl,trivial⟩,rfl,as3 _,as1 _,λq hq=>ax7 hq (av6 _),λq h1 h2=>ax7 h2 (by omega)⟩ ?_)))
 rintro _ f w1 ⟨i,j,h,s,hnn,hp0,hp1,hp2,hp3⟩
 refine ag (bD ac 3 h rfl λf h=>cZ h rfl (λhc=>?_) (λhc=>?_))
 ·refine kt (au4 (cw ac 2 h rfl λf h=>ak h (bB (h.ev rfl) (h.ev rfl) (by omega)) rfl λf h=>ak h (jW az8 aB6 (h.ev rfl) (IntWalk.u64_in _ (by omega))) rfl λf h=>ak h (bk (.int .u64 ((((i+j) / 2):Nat):Int)) (S5 (h.ev rfl) (h.ev rfl) (by omega)) (aq3 (Value.int .u64) (MH i j))) rfl λf h=>ak h (jW aB6 az8 (h.ev rfl) (IntWalk.i64_in _ (by omega))) rfl λf h=>e9 ac 1 h rfl λf h=>ag ?_))
  cases hq:(mt (l.getD ((i+j) / 2) cr) x:Bool)
  ·refine cK 8 h (by kernel_rfl) (aD ac 3 h rfl λf h=>aF h (bj (hR.keep s.ext) (((i+j) / 2)) aA5 ir (h.ev rfl) (h.ev rfl) (rfl) (by omega)) rfl λf h=>aU ((hR.keep s.ext).el (((i+j) / 2)) (by omega) (by decide) (D:=aV (l.getD ((i+j) / 2) cr)) (iO l _ (by omega))) h cO rfl (aN _) rfl λf h=>aH 0 h s cO rfl rfl (aN _) rfl λf h=>je [.agg (aV (l.getD ((i+j) / 2) cr)),.agg (aV x)] (caps:=[]) h vd rfl (λw9 h9=>fy _ _ w9) rfl rfl ?_);intro f h
   refine sT ac h rfl ((w7 _ _).trans hq) λf h=>bF s λw1 s=>tS h rfl (rs ac 2 h rfl λf h=>aE (aW (aG ?_)))
   exact ⟨_,by omega,⟨i,((i+j) / 2),h.only ⟨rfl,rfl,rfl,rfl,rfl,aw rfl (by omega),aw rfl (by omega),trivial⟩,St.as s ⟨rfl,trivial⟩,rfl,by omega,by omega,hp2,Yn hs9 hq⟩⟩
  ·refine cK 8 h (by kernel_rfl) (aD ac 3 h rfl λf h=>aF h (bj (hR.keep s.ext) (((i+j) / 2)) aA5 ir (h.ev rfl) (h.ev rfl) (rfl) (by omega)) rfl λf h=>aU ((hR.keep s.ext).el (((i+j) / 2)) (by omega) (by decide) (D:=aV (l.getD ((i+j) / 2) cr)) (iO l _ (by omega))) h cO rfl (aN _) rfl λf h=>aH 0 h s cO rfl rfl (aN _) rfl λf h=>je [.agg (aV (l.getD ((i+j) / 2) cr)),.agg (aV x)] (caps:=[]) h vd rfl (λw9 h9=>fy _ _ w9) rfl rfl ?_);intro f h
   refine ql ac h rfl ((w7 _ _).trans hq) λf h=>bF s λw1 s=>iz h rfl (rs ac 1 h rfl λf h=>ak h (bB (h.ev rfl) (h.ev rfl) (by omega)) rfl λf h=>ap ac 1 h rfl λf h=>aE (aW (aG ?_)))
   exact ⟨_,by omega,⟨((i+j) / 2)+1,j,h.only ⟨rfl,rfl,rfl,rfl,rfl,aw rfl (by omega),aw rfl (by omega),trivial⟩,St.as s ⟨rfl,trivial⟩,rfl,by omega,hp1,WF hs9 (by omega) hq,hp3⟩⟩
 ·refine au5 (aT (aT (bS (aG (ag ?_)))))
  refine cK 16 h (by kernel_rfl) (aD ac 3 h rfl λf h=>HM ac (decide (i<l.length)) h rfl ((ar3.2 (by omega))) (λhn f h=>?_) (λhn f h=>?_))
  ·refine aD ac 12 h rfl λf h=>bF s λw1 s=>nt (au3 (gC rfl h s rfl rfl (⟨i,_,rfl,⟨by omega,hp2,λq h1 h2=>hp3 q (by omega) h2,by rw [hn];rfl⟩⟩)))
  ·skip
   cases he:(vC x.1 x.2.1 (l.getD i cr):Bool)
   ·refine aD ac 4 h rfl λf h=>cj h rfl ?_
    have hil:i<l.length:=ap9 hn
    refine aF h (bj (hR.keep s.ext) (i) aA5 ir (h.ev rfl) (h.ev rfl) (rfl) (by omega)) rfl λf h=>cj h rfl (aU ((hR.keep s.ext).el (i) (by omega) (by decide) (D:=aV (l.getD i cr)) (iO l i hil)) h cO rfl (aN _) rfl λf h=>cj h rfl (aH 0 h s cO rfl rfl (aN _) rfl λf h=>cj h rfl (je [.agg (aV (l.getD i cr)),.agg (aV x)] (caps:=[]) h vd rfl (λw9 h9=>fy _ _ w9) rfl rfl ?_)));intro f h
    refine cj h rfl (sT ac h rfl ((zV _ _).trans he) λf h=>aD ac 3 h rfl λf h=>bF s λw1 s=>nt (au3 (gC rfl h s rfl rfl (⟨i,_,rfl,⟨by omega,hp2,λq h1 h2=>hp3 q (by omega) h2,by rw [hn,he];rfl⟩⟩))))
   ·refine aD ac 4 h rfl λf h=>cj h rfl ?_
    have hil:i<l.length:=ap9 hn
    refine aF h (bj (hR.keep s.ext) (i) aA5 ir (h.ev rfl) (h.ev rfl) (rfl) (by omega)) rfl λf h=>cj h rfl (aU ((hR.keep s.ext).el (i) (by omega) (by decide) (D:=aV (l.getD i cr)) (iO l i hil)) h cO rfl (aN _) rfl λf h=>cj h rfl (aH 0 h s cO rfl rfl (aN _) rfl λf h=>cj h rfl (je [.agg (aV (l.getD i cr)),.agg (aV x)] (caps:=[]) h vd rfl (λw9 h9=>fy _ _ w9) rfl rfl ?_)));intro f h
    refine cj h rfl (ql ac h rfl ((zV _ _).trans he) λf h=>aD ac 3 h rfl λf h=>bF s λw1 s=>nt (au3 (gC rfl h s rfl rfl (⟨i,_,rfl,⟨by omega,hp2,λq h1 h2=>hp3 q (by omega) h2,by rw [hn,he];rfl⟩⟩))))
theorem GD (l:List Tg) (vh:Value) (x:Tg) (w:World) (hR:a7 w vh 67 l.length (bz l)) (hln:l.length<=1000) (hs9:mn l):Calls Tryz.prog 44 [vh,.agg (aV x)].toArray w (bW w (λv _=>∃ n b,v=.tuple #[.int .i64 ((n:Nat):Int),.bool b]/\FndT l x n b)):=by
 refine bG Tryz.func44 rfl Tryz.ntmps44 rfl λf h s=>qr (ba (aV x) h s rfl rfl rfl λf w1 b3 h s=>e9 ac 2 h rfl λf h=>cw ac 1 h rfl λf h=>al 0 h s cO rfl rfl (aN _) rfl λf h=>bg h s WP (wA l vh x _ (hR.keep s.ext) hln hs9) rfl rfl ?_);rintro f w1 v8 ⟨n,b,rfl,hf9⟩ hE h s
 refine e9 ac 4 h rfl λf h=>au3 (gC rfl h s rfl rfl (⟨n,b,rfl,hf9⟩))
set_option maxHeartbeats 1000000 in
theorem Kg (l:List Tg) (vh:Value) (x:Tg) (w:World) (hR:a7 w vh 67 l.length (bz l)) (hln:l.length<=1000):Calls Tryz.prog 22 [vh,.agg (aV x)].toArray w (bW w (TbP w vh l (mr l x) (iD l x))):=by
 refine bG Tryz.func22 rfl Tryz.ntmps22 rfl λf h s=>qr (ba (aV x) h s rfl rfl rfl λf w1 b3 h s=>e9 ac 2 h rfl λf h=>ag (ag ?_))
 refine rs ac 1 h rfl λf h=>fx h s R2 (sY l vh _ (hR.keep s.ext) hln) rfl rfl (λr0 f w1 h s=>?_) (λr0 f w1 h s=>?_)
 ·refine e9 ac 6 h rfl λf h=>dF h rfl (bD ac 2 h rfl λf h=>rt (gC rfl h s rfl rfl (yw (Ma r0 x).1 (Ma r0 x).2 (s.sel [] rfl (by decide)))))
 ·skip
  refine ap ac 2 h rfl λf h=>cg h rfl (al 0 h s cO rfl rfl (aN _) rfl λf h=>cg h rfl (fx h s Ab (gV x _) rfl rfl (λm0 f w1 h s=>?_) (λm0 f w1 h s=>?_)))
  ·refine e9 ac 2 h rfl λf h=>dF h rfl (bD ac 2 h rfl λf h=>rt (gC rfl h s rfl rfl (yw (HO l m0).1 (HO l m0).2 (s.sel [] rfl (by decide)))))
  ·refine e9 ac 2 h rfl λf h=>ry h rfl (qr ?_)
   have hrt:=d7.1 r0
   have hl32:=hrt.len
   refine ap ac 1 h rfl λf h=>al 0 h s cO rfl rfl (aN _) rfl λf h=>bg h s X9 (GD l vh x _ (hR.keep s.ext) hln hrt.srt) rfl rfl ?_;rintro f w1 v19 ⟨n,b,rfl,hf9⟩ hE h s
   refine e9 ac 5 h rfl λf h=>ag (ag ?_)
   refine aC (nq ac (b) h rfl (rfl) (λb9 f h=>?_) (λb9 f h=>?_))
   ·refine iA h rfl (ag (qr ?_))
    rw [b9] at hf9
    have hnl:=hf9.le
    refine ap ac 1 h rfl λf h=>cb h (hR.keep s.ext) aA5 rfl rfl λf h=>e9 ac 1 h rfl λf h=>cT h rfl (λhc=>?_) (λhc=>?_)
    ·have h32:l.length=32:=by have:=ap9 hc;omega
     refine bD ac 2 h rfl λf h=>rt (gC rfl h s rfl rfl (yw (Rj hrt m0 hf9 h32).1 (Rj hrt m0 hf9 h32).2 (s.sel [] rfl (by decide))))
    ·have h32:¬ l.length=32:=by have:=aq0 hc;omega
     refine kt (ag (jC 0 10 [[],[],[0,1],[],[3],[],[],[5,6],[0,1,2,3,4,5,6,7],[0,1,2,3,4,5,6,7,8],[0,1,2,3,4,5,6,7,8,9],[0,1,2,3,4,5,6,7,8,9,10]] [[],[],[],[],[],[],[],[],[],[8,4],[],[]] [] [.v _,.v _,.v (gG vh n),.v (.agg (aV x)),.r (λv=>[.sl (v 4) 49 67 [x].length (bz [x])]) (λv=>(v 4).oneCell'=true),.v _,.v _,.v (hQ vh 67 n),.m (λv=>[.sl (v 8) 34 1 3 [gG vh n,(v 4),hQ vh 67 n]]),.m (λv=>[.sl (v 9) 49 67 (l.take n++([x]++l.drop n)).length (bz (l.take n++([x]++l.drop n)))]),.n,.n] _ h s rfl (by kernel_rfl) (by kernel_rfl) (by kernel_rfl) (iG ac h rfl rfl rfl (iG ac h rfl rfl rfl (cq ?_ (cq ?_ (cq ?_ (iG ac h rfl rfl rfl (iG ac h rfl rfl rfl (cq ?_ (cq ?_ (cq ?_ (trivial))))))))))) [0,1,2,3,5,6,7,9] (by kernel_rfl) ?_))
     ·intro f9 w2 vl10 E9 hs9 hd9 hl hF s
      have h:=cJ [(41,_),(42,_)] h hs9 hd9 ⟨bp hl 41 0 (by kernel_rfl) (hF 0 (by decide)),bp hl 42 1 (by kernel_rfl) (hF 1 (by decide)),trivial⟩
      refine ak h (ei (hR.keep s.ext) (n) aA5 ir (h.ev rfl) (h.ev rfl) (rfl) (by omega)) rfl λf h=>aE ⟨_,bq 43 h rfl rfl,rfl,s⟩
     ·intro f9 w2 vl10 E9 hs9 hd9 hl hF s
      have h:=cJ [(3,_)] h hs9 hd9 ⟨gp hl 3 (by kernel_rfl) (h.holds 3 _ rfl),trivial⟩
      refine al 0 h s cO rfl rfl (aN _) rfl λf h=>aE ⟨_,bq 44 h rfl rfl,rfl,s⟩
     ·intro f9 w2 vl10 E9 hs9 hd9 hl hF s
      have h:=cJ [(44,_)] h hs9 hd9 ⟨bp hl 44 3 (by kernel_rfl) (hF 3 (by decide)),trivial⟩
      refine ef (vs:=[.agg (aV x)]) [.tmp 44] h s aA5 yC rfl rfl (YX _) rfl rfl rfl λf w1 v45 h s=>?_
      replace s:=s.resl (m:=[x].length) (ys:=bz [x]) 0 rfl rfl (by rw [TY,kU])
      exact aE ⟨_,bq 45 h rfl rfl,aZ (s.getSl 0 rfl),s⟩
     ·intro f9 w2 vl10 E9 hs9 hd9 hl hF s
      have h:=cJ [(46,_),(47,_)] h hs9 hd9 ⟨bp hl 46 5 (by kernel_rfl) (hF 5 (by decide)),bp hl 47 6 (by kernel_rfl) (hF 6 (by decide)),trivial⟩
      refine ak h (xH (hR.keep s.ext) (n) aA5 ir (h.ev rfl) (h.ev rfl) (rfl) (by omega)) rfl λf h=>aE ⟨_,bq 48 h rfl rfl,rfl,s⟩
     ·intro f9 w2 vl10 E9 hs9 hd9 hl hF s
      have e43:f9.tmps.getD 43 undef=gG vh n:=(eN hl 43 2 (by kernel_rfl) (by kernel_rfl)).trans (hF 2 (by decide))
      have e45:f9.tmps.getD 45 undef=(vl10 4):=eN hl 45 4 (by kernel_rfl) (by kernel_rfl)
      have e48:f9.tmps.getD 48 undef=(hQ vh 67 n):=(eN hl 48 7 (by kernel_rfl) (by kernel_rfl)).trans (hF 7 (by decide))
      have h:=dU [(43,gG vh n),(45,(vl10 4)),(48,(hQ vh 67 n))] (hs9.trans h.size) (hd9.trans h.defers) (holds_lk ⟨e43,e45,e48,trivial⟩)
      refine ef (vs:=[gG vh n,(vl10 4),hQ vh 67 n]) [.tmp 43,.tmp 45,.tmp 48] h s aB8 WU rfl rfl (by intro v hv;simp only [ar6,ar9,or_false] at hv;rcases hv with rfl|rfl|rfl;exact pb (xu (hR.keep s.ext) n (by omega));exact(Rf (hF 4 (by decide))).1;exact pb (wD (hR.keep s.ext) n (by omega))) rfl rfl rfl λf w1 v49 h s=>?_
      replace s:=s.resl (m:=3) (ys:=[gG vh n,(vl10 4),hQ vh 67 n]) 0 rfl rfl (by simp [k6 (xu (hR.keep s.ext) n (by omega)),show (vl10 4).cells.toList=[vl10 4] from (Rf (hF 4 (by decide))).2,k6 (wD (hR.keep s.ext) n (by omega))])
      exact aE ⟨_,bq 49 h rfl rfl,trivial,s⟩
     ·intro f9 w2 vl10 E9 hs9 hd9 hl hF s
      have e49:f9.tmps.getD 49 undef=(vl10 8):=eN hl 49 8 (by kernel_rfl) (by kernel_rfl)
      have h:=dU [(49,(vl10 8))] (hs9.trans h.size) (hd9.trans h.defers) (holds_lk ⟨e49,trivial⟩)
      refine bg h s Yw (zT (vl10 8) [gG vh n,(vl10 4),hQ vh 67 n] [l.take n,[x],l.drop n] rfl (by rw [lD];simp only [aq7,au0,at2,at5,at6];omega) (by simp) _ (a7.of_own (s.getSl 0 rfl)) (FG (xu (hR.keep s.ext) n (by omega)) (a7.of_own (s.getSl 1 rfl)) (wD (hR.keep s.ext) n (by omega)))) rfl rfl ?_;intro f w1 v9_ hT hE h sq
      replace s:=s.sl_new hE (hT.seq (m:=(l.take n++([x]++l.drop n)).length) (ys:=bz (l.take n++([x]++l.drop n))) (by rw [lD]) (by rw [lD]))
      exact aE ⟨_,bq 50 h rfl rfl,trivial,(s.pick _ (ap7 _ (ap8 _ (ap8 _ (ap7 _ (List.Sublist.refl _))))))⟩
     intro f w1 vl10 hs9 hd9 hv hr hF s
     replace hv:=λi d h9=>hv i d (show Nat.blt i 10=true from h9)
     replace h:=jx 10 (ops:=_) [(41,_),(42,_),(43,_),(44,_),(45,(vl10 4)),(46,_),(47,_),(48,_),(49,(vl10 8)),(50,(vl10 9))] h hs9 hd9 hr ⟨(hv 0 41 rfl rfl).trans (hF 0 rfl),(hv 1 42 rfl rfl).trans (hF 1 rfl),(hv 2 43 rfl rfl).trans (hF 2 rfl),(hv 3 44 rfl rfl).trans (hF 3 rfl),hv 4 45 rfl rfl,(hv 5 46 rfl rfl).trans (hF 5 rfl),(hv 6 47 rfl rfl).trans (hF 6 rfl),(hv 7 48 rfl rfl).trans (hF 7 rfl),hv 8 49 rfl rfl,hv 9 50 rfl rfl,trivial⟩ (by kernel_rfl)
     replace s:St w [.sl (vl10 9) 49 67 (l.take n++([x]++l.drop n)).length (bz (l.take n++([x]++l.drop n))),.blk b3 (.cells (aV x) 49)] _:=s
     refine e9 ac 2 h rfl λf h=>au3 (gC rfl h s rfl rfl (EM (Re hrt m0 hf9 h32).1 (Re hrt m0 hf9 h32).2 (s.sel [0] rfl (by decide))))
   ·refine iz h rfl (qr ?_)
    rw [b9] at hf9
    have hnl:=(QJ hrt.srt hf9).1
    refine ap ac 1 h rfl λf h=>bg h s RC (sG l hln vh _ (hR.keep s.ext)) rfl rfl ?_;intro f w1 v24 hT hE h sq;replace s:=s.sl_new hE hT
    refine e9 ac 1 h rfl λf h=>ag (cK 12 h (by kernel_rfl) (aD ac 4 h rfl λf h=>aF h (bj (a7.of_own (s.getSl 0 rfl)) (n) aA5 ir (h.ev rfl) (h.ev rfl) (rfl) (by omega)) rfl λf h=>aF h (a6 wT (h.ev rfl) ((a7.of_own (s.getSl 0 rfl)).some (by omega))) rfl λf h=>bw (V:=.int .i64 (l.getD n cr).2.2) (dt (a7.of_own (s.getSl 0 rfl)) (n*67+66) (X2 l n hnl)) h bQ rfl rfl λf h=>aD ac 1 h rfl λf h=>bw (ah (aX.of_own s 1 rfl) 66 (gd _)) h bQ rfl rfl λf h=>aF h (bk (.int .i64 (max (l.getD n cr).2.2 x.2.2)) (Vn (h.ev rfl) (h.ev rfl)) (aq3 (Value.int .i64) (by split<;>omega))) rfl λf h=>aF h (bj (a7.of_own (s.getSl 0 rfl)) (n) aA5 ir (h.ev rfl) (h.ev rfl) (rfl) (by omega)) rfl λf h=>aF h (a6 wT (h.ev rfl) ((a7.of_own (s.getSl 0 rfl)).some (by omega))) rfl λf h=>bF s λw1 s=>ej 0 h s bQ rfl rfl rfl (by omega) (rfl) (TD hnl (V5 l x n) 66 _ (by decide) (Qr _ _)) λw1 s=>?_))
    replace s:=s.resl (m:=(l.set n (V5 l x n)).length) (ys:=bz (l.set n (V5 l x n))) 0 rfl (by rw [List.length_set]) (rfl)
    refine nt (bD ac 3 h rfl λf h=>rt (gC rfl h s rfl rfl (EM (X6 hrt m0 hf9).1 (X6 hrt m0 hf9).2 (s.sel [0] rfl (by decide)))))
end Go.Proofs.YthmlflaiidhoiaaGreatDoor
