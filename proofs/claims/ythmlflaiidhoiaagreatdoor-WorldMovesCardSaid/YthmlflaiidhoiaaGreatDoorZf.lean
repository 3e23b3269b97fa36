/- Package stack: what its functions answer. -/
import Derived.Test.YthmlflaiidhoiaaGreatDoorCon
set_option linter.unusedVariables false
namespace Go.Proofs.YthmlflaiidhoiaaGreatDoor
open Go.RowKit
theorem mj (e:dN) (w:World):Calls Tryz.prog 92 [.agg (cG e)].toArray w (cb w (is (.bool (pZ e)))):=by
 refine bK Tryz.func92 rfl Tryz.ntmps92 rfl λf h s=>qr (aV ((cG e)) h s rfl rfl rfl λf w1 b1 h s=>e9 ac 1 h rfl λf h=>ah (bU ac 1 h rfl λf h=>ag (ae (aJ.of_own s 0 rfl) 0 (kH _)) h bJ rfl rfl λf h=>nt (aL4 (bE ac 2 h rfl λf h=>cB h rfl (λhc=>?_) (λhc=>?_)))))
 ·refine bU ac 1 h rfl λf h=>ag (ae (aJ.of_own s 0 rfl) 33 (ik _)) h bJ rfl rfl λf h=>e9 ac 2 h rfl λf h=>aL3 (bA (aS (av rfl h s rfl (by show _=_;rw [RC _ hc]))))
 ·have hk:=hc
  refine bE ac 2 h rfl λf h=>cB h rfl (λhc=>?_) (λhc=>?_)
  ·refine ah ?_
   cases hz:(decide (e.2.1=0#256):Bool)
   ·refine rs ac 1 h rfl λf h=>ap (aJ.subL (aJ.of_own s 0 rfl) 1 32 (D:=aH (_)) (mY _)) h bW rfl (by first|exact aA _|exact au _ _) rfl λf h=>ai h (fT gE) rfl λf h=>ai h (bz (.bool false) (dC gE (h.ev rfl) (h.ev rfl)) (aH3 Value.bool hz)) rfl λf h=>e9 ac 11 h rfl λf h=>aL3 (bA (aS (av rfl h s rfl (by show _=_;rw [xG _ hc,hz];rfl))))
   ·skip
    refine rs ac 1 h rfl λf h=>ap (aJ.subL (aJ.of_own s 0 rfl) 1 32 (D:=aH (_)) (mY _)) h bW rfl (by first|exact aA _|exact au _ _) rfl λf h=>ai h (fT gE) rfl λf h=>ai h (bz (.bool true) (dC gE (h.ev rfl) (h.ev rfl)) (aH3 Value.bool hz)) rfl λf h=>am ac 2 h rfl λf h=>cy h rfl (ag (ae (aJ.of_own s 0 rfl) 33 (ik _)) h bJ rfl rfl λf h=>cy h rfl (lL ac h rfl (λhg f h=>?_) (λhg f h=>?_)))
    ·refine e9 ac 7 h rfl λf h=>aL3 (bA (aS (av rfl h s rfl (by show _=_;rw [xG _ hc,hz,hg];rfl))))
    ·refine am ac 3 h rfl λf h=>cy h rfl (ag (ae (aJ.of_own s 0 rfl) 33 (ik _)) h bJ rfl rfl λf h=>e9 ac 3 h rfl λf h=>aL3 (bA (aS (av rfl h s rfl (by show _=_;rw [xG _ hc,hz,hg];rfl)))))
  ·refine wpIn_skip (aW (aD (bE ac 1 h rfl λf h=>aL3 (av rfl h s rfl (by show _=_;rw [Ok _ hk hc])))))
theorem PU (l:List dN) (vh:Value) (w:World) (hv:bs w vh 34 l.length (ed l)) (hln:l.length<=1000000):Calls Tryz.prog 232 [vh].toArray w (cb w (is (.bool (l.all pZ)))):=by
 refine bK Tryz.func232 rfl Tryz.ntmps232 rfl λf h s=>bE ac 1 h rfl λf h=>ah (bU ac 1 h rfl λf h=>ck h (hv.keep s.ext) aS1 rfl rfl λf h=>e9 ac 1 h rfl λf h=>aL4 (aL6 (λnn aa ww=>∃ k:Nat,Sl 15 aa [(0,vh),(5,vh),(6,.int .i64 (l.length:Int)),(7,.int .i64 (k:Int))]/\St w [] ww/\nn=l.length - k/\k<=l.length/\∀ i (hi:i<l.length),i<k->pZ l[i]=true) (l.length - (0)) ⟨0,h.only ⟨rfl,rfl,rfl,ao rfl (by omega),trivial⟩,s.as trivial,rfl,aJ3 _,λi hi h9=>aO7 h9 (aM6 _)⟩ ?_))
 rintro _ f w1 ⟨k,h,s,hnn,hp0,hp1⟩
 refine bE ac 1 h rfl λf h=>ah (cB h rfl (λhc=>?_) (λhc=>?_))
 ·refine kt (ah (aL4 (qr ?_)))
  have hkl:k<l.length:=by omega
  refine ai h (bj (hv.keep s.ext) (k) aS1 As (h.ev rfl) (h.ev rfl) (by omega) (by omega)) rfl λf h=>ap ((hv.keep s.ext).el (k) (by omega) (by decide) (D:=cG l[k]) (W4 l k hkl)) h eY rfl (bR _) rfl λf h=>aK (cG (0,0#256,0)) h s Nh rfl rfl λf w1 b4 h s=>al 0 h s eY rfl rfl rfl (bR _) (bR _) (kw _) λw1 s=>nt (qr (ak 0 h s eY rfl rfl (bR _) rfl λf h=>dF h s rj (mj _ _) rfl rfl λf w1 h s=>e9 ac 1 h rfl λf h=>bV h rfl (λhc=>?_) (λhc=>?_)))
  ·refine bE ac 1 h rfl λf h=>aL3 (bA (aS (aS (bA (aS (av rfl h s rfl (aH3 Value.bool (Va hkl hc))))))))
  ·refine wpIn_skip (aW (aD (aw (ai h (bo (h.ev rfl) (h.ev rfl) (by omega)) rfl λf h=>e9 ac 1 h rfl λf h=>?_))))
   exact ⟨_,by omega,⟨k+1,h.only ⟨rfl,rfl,rfl,ao rfl (by omega),trivial⟩,St.as (s.pick _ (aI8 [_] _)) trivial,rfl,by omega,tU (λy=>pZ y=true) hp1 hkl (by simpa using hc)⟩⟩
 ·refine aL5 (aO (aO (bS (aD (bE ac 1 h rfl λf h=>aL3 (av rfl h s rfl (aH3 Value.bool (Pr (by omega) hp1))))))))
theorem fj (l:List dN) (vh:Value) (w:World) (hv:bs w vh 34 l.length (ed l)) (hln:l.length<=1000000):Calls Tryz.prog 175 [vh].toArray w (cb w (is (.bool (dQ l)))):=by
 refine bK Tryz.func175 rfl Tryz.ntmps175 rfl λf h s=>bE ac 1 h rfl λf h=>ah ?_
 refine rs ac 1 h rfl λf h=>ck h (hv.keep s.ext) aS1 rfl rfl λf h=>j8 ac (decide (0<l.length)) h rfl ((aI3.2 (by omega))) (λh1 f h=>?_) (λh1 f h=>?_)
 ·refine e9 ac 10 h rfl λf h=>aL3 (av rfl h s rfl (by show _=_;unfold dQ;rw [h1];rfl))
 ·skip
  refine am ac 2 h rfl λf h=>cy h rfl (ck h (hv.keep s.ext) aS1 rfl rfl λf h=>cy h rfl (j8 ac (decide (l.length<=4)) h rfl ((aI3.2 (by omega))) (λh2 f h=>?_) (λh2 f h=>?_)))
  ·refine e9 ac 6 h rfl λf h=>aL3 (av rfl h s rfl (by show _=_;unfold dQ;rw [h1,h2];rfl))
  ·refine am ac 3 h rfl λf h=>cy h rfl (dF h s UB (PU l vh _ (hv.keep s.ext) hln) rfl rfl λf w1 h s=>e9 ac 2 h rfl λf h=>aL3 (av rfl h s rfl (by show _=_;unfold dQ;rw [h1,h2];rfl)))
theorem LC (l:List dN) (hr:dQ l=false) (hln:l.length<=1000000) (vh:Value) (w:World) (hv:bs w vh 34 l.length (ed l)):Calls Tryz.prog 315 [vh].toArray w (cb w (is (.tuple #[.string ⟨#[]⟩,.int .i64 1]))):=by
 refine bK Tryz.func315 rfl Tryz.ntmps315 rfl λf h s=>bE ac 2 h rfl λf h=>ah (bU ac 1 h rfl λf h=>jD false h s kM (fj l vh _ (hv.keep s.ext) hln) (hr) rfl rfl λf w1 h s=>e9 ac 1 h rfl λf h=>dG h rfl (bE ac 2 h rfl λf h=>rt (fc rfl h s rfl rfl (rfl))))
theorem Rd (l:List dN) (hr:dQ l=true) (vh:Value) (w:World) (hv:bs w vh 34 l.length (ed l)):Calls Tryz.prog 315 [vh].toArray w (cb w (is (.tuple #[.string (An l),.int .i64 0]))):=by
 obtain ⟨hr1,hr2,hr3⟩:=(fN l).1 hr
 refine bK Tryz.func315 rfl Tryz.ntmps315 rfl λf h s=>bE ac 2 h rfl λf h=>ah (bU ac 1 h rfl λf h=>aY h s kM (aR (.bool true) (fj l vh _ (hv.keep s.ext) (by omega)) (aH3 Value.bool hr)) rfl rfl ?_);intro f w1 v9 hT hE h s;obtain rfl:=hT
 refine e9 ac 1 h rfl λf h=>nH h rfl (bU ac 1 h rfl λf h=>ck h (hv.keep s.ext) aS1 rfl rfl λf h=>ai h (bz (.int .u8 ((l.length:Nat):Int)) (gB aR2 aO9 (h.ev rfl)) (aH3 (Value.int .u8) (by omega))) rfl λf h=>cf (vs:=[.int .u8 ((l.length:Nat):Int)]) [.tmp 12] h s aU3 uM rfl rfl (by simp [Value.cells]) rfl rfl rfl λf w1 v13 h s=>e9 ac 1 h rfl λf h=>ah (bU ac 1 h rfl λf h=>ck h (hv.keep s.ext) aS1 rfl rfl λf h=>e9 ac 1 h rfl λf h=>aL4 (aL6 (λnn aa ww=>∃ k:Nat,∃ vb:Value,Sl 42 aa [(0,vh),(4,vb),(14,vh),(15,.int .i64 (l.length:Int)),(16,.int .i64 (k:Int))]/\St w [.sl vb 5 1 (g8 l k).length (j6 (g8 l k))] ww/\nn=l.length - k/\k<=l.length) (l.length - (0)) ⟨0,v13,h.only ⟨rfl,rfl,rfl,rfl,ao rfl (by omega),trivial⟩,s.as ⟨eC rfl rfl,trivial⟩,rfl,aJ3 _⟩ ?_)))
 rintro _ f w1 ⟨k,vb,h,s,hnn,hp0⟩
 have hkb:=Hk l k
 refine bE ac 1 h rfl λf h=>ah (cB h rfl (λhc=>?_) (λhc=>?_))
 ·refine kt (ah (aL4 (qr ?_)))
  have hkl:k<l.length:=by omega
  refine ai h (bj (hv.keep s.ext) (k) aS1 As (h.ev rfl) (h.ev rfl) (by omega) (by omega)) rfl λf h=>ap ((hv.keep s.ext).el (k) (by omega) (by decide) (D:=cG l[k]) (W4 l k hkl)) h eY rfl (bR _) rfl λf h=>aK (cG (0,0#256,0)) h s Nh rfl rfl λf w1 b6 h s=>al 0 h s eY rfl rfl rfl (bR _) (bR _) (kw _) λw1 s=>nt (bU ac 2 h rfl λf h=>ag (ae (aJ.of_own s 0 rfl) 0 (kH _)) h bJ rfl rfl λf h=>?_)
  have hE:=hr3 _ (aN1 hkl)
  have hkk:=NL hE
  refine ai h (bz (.int .u8 ((l[k].1.toNat:Nat):Int)) (gB aR2 aO9 (h.ev rfl)) (aH3 (Value.int .u8) (by omega))) rfl λf h=>cf (vs:=[.int .u8 ((l[k].1.toNat:Nat):Int)]) [.tmp 23] h s aU3 uM rfl rfl (by simp [Value.cells]) rfl rfl rfl λf w1 v24 h s=>dD 2 0 h s aU3 uM rfl rfl rfl rfl (by decide) (by simp [Value.oneCell',Value.cells]) (by unfold maxLen;omega) (by omega) rfl λf w1 v25 h s=>?_
  replace s:=s.pick _ (aJ2 _ _)
  refine e9 ac 1 h rfl λf h=>bU ac 1 h rfl λf h=>ag (ae (aJ.of_own s 0 rfl) 0 (kH _)) h bJ rfl rfl λf h=>e9 ac 1 h rfl λf h=>cB h rfl (λhc=>?_) (λhc=>?_)
  ·refine rs ac 2 h rfl λf h=>ai h (lB aO8 jE (h.ev rfl)) rfl λf h=>jT 1 (bs.of_has (aJ.subL (o:=0) (aJ.of_own s 0 rfl) 1 32 (D:=aH l[k].2.1) (mY _)) (by first|exact au _ _|exact aA _) (aJ1 _)) h s aU3 uM rfl rfl rfl (by rw [eg];exact eE _ _) (by unfold maxLen;omega) (by omega) rfl λf w1 v32 h s=>am ac 1 h rfl λf h=>az (aW (aD (aw (ai h (bo (h.ev rfl) (h.ev rfl) (by omega)) rfl λf h=>e9 ac 1 h rfl λf h=>?_))))
   exact ⟨_,by omega,⟨k+1,v32,h.only ⟨rfl,rfl,rfl,rfl,ao rfl (by omega),trivial⟩,St.as (s.pick _ (aG8 _ (aG7 _ (aJ0 _)))) ⟨eC (Vh hkl hc) (XE hkl hc),trivial⟩,rfl,by omega⟩⟩
  ·refine rs ac 2 h rfl λf h=>ag (ae (aJ.of_own s 0 rfl) 33 (ik _)) h bJ rfl rfl λf h=>?_
   have hho:=Oz hE hc
   refine ai h (bz (.int .u8 ((l[k].2.2.toNat:Nat):Int)) (gB aR2 aO9 (h.ev rfl)) (aH3 (Value.int .u8) (by omega))) rfl λf h=>cf (vs:=[.int .u8 ((l[k].2.2.toNat:Nat):Int)]) [.tmp 36] h s aU3 uM rfl rfl (by simp [Value.cells]) rfl rfl rfl λf w1 v37 h s=>dD 2 0 h s aU3 uM rfl rfl rfl rfl (by decide) (by simp [Value.oneCell',Value.cells]) (by unfold maxLen;omega) (by omega) rfl λf w1 v38 h s=>?_
   replace s:=s.pick _ (aJ2 _ _)
   refine am ac 1 h rfl λf h=>az (aW (aD (aw (ai h (bo (h.ev rfl) (h.ev rfl) (by omega)) rfl λf h=>e9 ac 1 h rfl λf h=>?_))))
   exact ⟨_,by omega,⟨k+1,v38,h.only ⟨rfl,rfl,rfl,rfl,ao rfl (by omega),trivial⟩,St.as (s.pick _ (aG8 _ (aG7 _ (aJ0 _)))) ⟨eC (UY hkl hho.1) (U8 hkl hho.1),trivial⟩,rfl,by omega⟩⟩
 ·refine aL5 (aO (aO (bS (aD (qr ?_)))))
  obtain rfl:k=l.length:=by omega
  refine am ac 1 h rfl λf h=>Ch 0 h s aU3 aO9 aR4 rfl rfl rfl ?_;intro f h
  refine e9 ac 2 h rfl λf h=>aL3 (fc rfl h s rfl rfl (by show _=_;rw [Il];rfl))
theorem J6 (l:List dN) (hln:l.length<=1000000) (vh:Value) (w:World) (hv:bs w vh 34 l.length (ed l)):Calls Tryz.prog 315 [vh].toArray w (cb w (is (.tuple #[.string (pT l),.int .i64 (Bg l)]))):=by
 cases h:dQ l
 ·rw [show pT l=⟨#[]⟩ from by unfold pT;rw [h];rfl,show Bg l=1 from by unfold Bg;rw [h];rfl]
  exact LC l h hln vh w hv
 ·rw [show pT l=An l from by unfold pT;rw [h];rfl,show Bg l=0 from by unfold Bg;rw [h];rfl]
  exact Rd l h vh w hv
end Go.Proofs.YthmlflaiidhoiaaGreatDoor
