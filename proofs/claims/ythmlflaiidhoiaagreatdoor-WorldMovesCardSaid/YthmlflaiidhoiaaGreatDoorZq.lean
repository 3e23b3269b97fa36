/- Package table: what its functions answer. -/
import Derived.Test.YthmlflaiidhoiaaGreatDoorZl
import Derived.Test.YthmlflaiidhoiaaGreatDoorZm
set_option linter.unusedVariables false
namespace Go.Proofs.YthmlflaiidhoiaaGreatDoor
open Go.RowKit
theorem Ht (x y:Tg) (w:World):Calls Tryz.prog 142 [.agg (aU x),.agg (aU y)].toArray w (cb w (is (.int .i64 (ri x y 0)))):=by
 refine bK Tryz.func142 rfl Tryz.ntmps142 rfl λf h s=>qr (aV (aU x) h s rfl rfl rfl λf w1 b2 h s=>aV (aU y) h s rfl rfl rfl λf w1 b3 h s=>e9 ac 1 h rfl λf h=>bU ac 1 h rfl λf h=>ap (aJ.subL (aJ.of_own s 1 rfl) 0 32 (D:=aH (_)) (gZ _)) h bW rfl (by first|exact aA _|exact au _ _) rfl λf h=>am ac 1 h rfl λf h=>ap (aJ.subL (aJ.of_own s 0 rfl) 0 32 (D:=aH (_)) (gZ _)) h bW rfl (by first|exact aA _|exact au _ _) rfl λf h=>dF h s Fk (jL x.1 y.1 _) rfl rfl λf w1 h s=>e9 ac 1 h rfl λf h=>aL3 (av rfl h s rfl (rfl)))
theorem EC (x y:Tg) (w:World):Calls Tryz.prog 144 [.agg (aU x),.agg (aU y)].toArray w (cb w (is (.int .i64 (ri x y 2)))):=by
 refine bK Tryz.func144 rfl Tryz.ntmps144 rfl λf h s=>qr (aV (aU x) h s rfl rfl rfl λf w1 b2 h s=>aV (aU y) h s rfl rfl rfl λf w1 b3 h s=>e9 ac 1 h rfl λf h=>bU ac 2 h rfl λf h=>ap (aJ.subL (aJ.of_own s 1 rfl) 33 32 (D:=aH (_)) (nr _)) h bW rfl (by first|exact aA _|exact au _ _) rfl λf h=>am ac 2 h rfl λf h=>ap (aJ.subL (aJ.of_own s 0 rfl) 33 32 (D:=aH (_)) (nr _)) h bW rfl (by first|exact aA _|exact au _ _) rfl λf h=>dF h s Fk (jL x.2.1.2.1 y.2.1.2.1 _) rfl rfl λf w1 h s=>e9 ac 1 h rfl λf h=>aL3 (av rfl h s rfl (rfl)))
theorem F1 (x y:Tg) (k:Nat) (hk:k<4) (w:World):Fnc Tryz.prog (fn4 142 143 144 145 k)/\Calls Tryz.prog (fn4 142 143 144 145 k) [.agg (aU x),.agg (aU y)].toArray w (cb w (is (.int .i64 (ri x y k)))):=by
 match k,hk with
 |0,_=>exact ⟨Wa,Ht x y w⟩
 |1,_=>exact ⟨W6,Cc x y w⟩
 |2,_=>exact ⟨Vz,EC x y w⟩
 |3,_=>exact ⟨UO,Cf x y w⟩
theorem fV (x y:Tg) (w:World):Calls Tryz.prog 91 [.agg (aU x),.agg (aU y)].toArray w (cb w (is (.int .i64 (wY x y)))):=by
 refine bK Tryz.func91 rfl Tryz.ntmps91 rfl λf h s=>qr (aV (aU x) h s rfl rfl rfl λf w1 b2 h s=>aV (aU y) h s rfl rfl rfl λf w1 b3 h s=>e9 ac 1 h rfl λf h=>qr (ai h (x7 [.func 142,.func 143,.func 144,.func 145] [.func (.func 142) #[] #[],.func (.func 143) #[] #[],.func (.func 144) #[] #[],.func (.func 145) #[] #[]] aQ8 Fg ⟨_,Gt,rfl⟩ rfl (evs h rfl) (by simp [Value.cells]) rfl) rfl λf h=>aK (#[.nilFunc,.nilFunc,.nilFunc,.nilFunc]) h s Gt rfl rfl λf w1 b5 h s=>al 0 h s Jd rfl rfl rfl (rfl) (rfl) (by decide) λw1 s=>nt (ah (qr (ak 0 h s Jd rfl rfl (rfl) rfl λf h=>e9 ac 1 h rfl λf h=>aL4 (aL6 (λnn aa ww=>∃ k:Nat,Sl 22 aa [(0,.agg (aU x)),(1,.agg (aU y)),(2,.pointer (some ⟨b2,0,none⟩)),(3,.pointer (some ⟨b3,0,none⟩)),(5,.pointer (some ⟨b5,0,none⟩)),(10,.agg (#[.func (.func 142) #[] #[],.func (.func 143) #[] #[],.func (.func 144) #[] #[],.func (.func 145) #[] #[]])),(11,.int .i64 (k:Int))]/\St w [.blk b5 (.cells (#[.func (.func 142) #[] #[],.func (.func 143) #[] #[],.func (.func 144) #[] #[],.func (.func 145) #[] #[]]) 219),.blk b3 (.cells (aU y) 49),.blk b2 (.cells (aU x) 49)] ww/\nn=4 - k/\k<=4/\∀ j,j<k->ri x y j=0) (4 - (0)) ⟨0,h.only ⟨rfl,rfl,rfl,rfl,rfl,rfl,ao rfl (by omega),trivial⟩,s.as ⟨rfl,rfl,rfl,trivial⟩,rfl,aJ3 _,λj hj=>aO7 hj (aM6 _)⟩ ?_))))))
 rintro _ f w1 ⟨k,h,s,hnn,hp0,hp1⟩
 refine bE ac 1 h rfl λf h=>ah (cB h rfl (λhc=>?_) (λhc=>?_))
 ·refine kt (ah (aL4 (qr ?_)))
  have hk4:k<4:=by omega
  obtain ⟨hfn4,_⟩:=F1 x y k hk4 w
  refine ai h (BP k aQ8 Fg Tryz.underlying216 (h.ev rfl) (h.ev rfl) rfl (by omega) (UQ hk4)) rfl λf h=>e9 ac 1 h rfl λf h=>bU ac 1 h rfl λf h=>ak 2 h s cn rfl rfl (aE _) rfl λf h=>ak 1 h s cn rfl rfl (aE _) rfl λf h=>cJ [.agg (aU x),.agg (aU y)] (caps:=[]) h s hfn4 rfl (F1 x y k hk4 _).2 rfl rfl ?_;intro f w1 v17 hT hE h s;obtain rfl:=hT
  refine e9 ac 1 h rfl λf h=>bE ac 2 h rfl λf h=>bV h rfl (λhc=>?_) (λhc=>?_)
  ·have hc:=aG9 hc
   refine bE ac 2 h rfl λf h=>aL3 (bA (aS (aS (bA (aS (av rfl h s rfl (by show _=_;rw [Rt hk4 hp1 hc])))))))
  ·have hc:=Decidable.of_not_not (aH0 hc)
   refine wpIn_skip (aW (aD (aw (ai h (bo (h.ev rfl) (h.ev rfl) (by omega)) rfl λf h=>e9 ac 1 h rfl λf h=>?_))))
   exact ⟨_,by omega,⟨k+1,h.only ⟨rfl,rfl,rfl,rfl,rfl,rfl,ao rfl (by omega),trivial⟩,St.as s ⟨rfl,rfl,rfl,trivial⟩,rfl,by omega,O5 hp1 hc⟩⟩
 ·refine aL5 (aO (aO (bS (aD (bE ac 1 h rfl λf h=>aL3 (av rfl h s rfl (by show _=_;rw [Rn (λj hj=>hp1 j (by omega))])))))))
theorem iq (l:List Tg) (vh:Value) (w:World) (hR:bs w vh 67 l.length (aX l)) (hln:l.length<=1000):Calls Tryz.prog 42 [vh].toArray w (cb w (is (.bool (dz l)))):=by
 refine bK Tryz.func42 rfl Tryz.ntmps42 rfl λf h s=>bE ac 1 h rfl λf h=>ah (bU ac 1 h rfl λf h=>ck h (hR.keep s.ext) aR9 rfl rfl λf h=>e9 ac 1 h rfl λf h=>bV h rfl (λhc=>?_) (λhc=>?_))
 ·have h32:¬ l.length<=32:=by have:=aG9 hc;omega
  refine bE ac 1 h rfl λf h=>rt (av rfl h s rfl (by first|(unfold dz;rw [aH1 h32,Bool.and_false];rfl)|(obtain rfl:k=l.length:=(by omega);show _=_;rw [wt hp1];exact aH3 Value.bool (aH2 h32).symm)))
 ·have h32:l.length<=32:=by have:=aH0 hc;omega
  refine kt (ah (bU ac 1 h rfl λf h=>ck h (hR.keep s.ext) aR9 rfl rfl λf h=>e9 ac 1 h rfl λf h=>aL4 (aL6 (λnn aa ww=>∃ k:Nat,Sl 33 aa [(0,vh),(8,vh),(9,.int .i64 (l.length:Int)),(10,.int .i64 (k:Int))]/\St w [] ww/\nn=l.length - k/\k<=l.length/\∀ j,j<k->FU l j=true) (l.length - (0)) ⟨0,h.only ⟨rfl,rfl,rfl,ao rfl (by omega),trivial⟩,s.as trivial,rfl,aJ3 _,λj hj=>aO7 hj (aM6 _)⟩ ?_)))
  rintro _ f w1 ⟨k,h,s,hnn,hp0,hp1⟩
  refine bE ac 1 h rfl λf h=>ah (cB h rfl (λhc=>?_) (λhc=>?_))
  ·refine kt (ah (aL4 (bU ac 1 h rfl λf h=>?_)))
   have hkl:k<l.length:=by omega
   refine ai h (bj (hR.keep s.ext) (k) aR9 gf (h.ev rfl) (h.ev rfl) (by omega) (by omega)) rfl λf h=>ap ((hR.keep s.ext).el (k) (by omega) (by decide) (D:=aU (l.getD k cr)) (fP l k hkl)) h cn rfl (aE _) rfl λf h=>aK (aU cr) h s j9 rfl rfl λf w1 b4 h s=>am ac 1 h rfl λf h=>al 0 h s cn rfl rfl rfl (aE _) (aE _) (cP _) λw1 s=>nt (ah ?_)
   cases h0:(iV (l.getD k cr):Bool)
   ·refine dJ 17 h (by kernel_rfl) (aT 0 h s cn rfl rfl (aE _) rfl λf h=>bF h AL (λw9 hE9=>aR (.bool false) (iT (l.getD k cr) w9) (aH3 Value.bool h0)) rfl rfl λf h=>ay ac 15 h rfl λf h=>bY s λw1 s=>iY h rfl (bE ac 1 h rfl λf h=>aL3 (bA (aS (aS (bA (aS (av rfl h s rfl (by show _=_;rw [tH hkl (az3 h0)])))))))))
   ·skip
    cases h1:(decide (k=0):Bool)
    ·skip
     cases h2:(gz (l.getD (k - 1) cr) (l.getD k cr):Bool)
     ·refine dJ 17 h (by kernel_rfl) (aT 0 h s cn rfl rfl (aE _) rfl λf h=>bF h AL (λw9 hE9=>aR (.bool true) (iT (l.getD k cr) w9) (aH3 Value.bool h0)) rfl rfl λf h=>ay ac 3 h rfl λf h=>bL h rfl (nD ac h rfl (aH2 (by have:=aH0 h1;omega)) λf h=>ay ac 3 h rfl λf h=>bL h rfl (aF h (gj (h.ev rfl) (h.ev rfl) (by omega)) rfl λf h=>bL h rfl (aF h (bj (hR.keep s.ext) ((k - 1)) aR9 gf (h.ev rfl) (h.ev rfl) (by have:=aH0 h1;omega) (by omega)) rfl λf h=>bL h rfl (bh ((hR.keep s.ext).el ((k - 1)) (by omega) (by decide) (D:=aU (l.getD (k - 1) cr)) (fP l (k - 1) (by omega))) h cn rfl (aE _) rfl λf h=>bL h rfl (aT 0 h s cn rfl rfl (aE _) rfl λf h=>bL h rfl (bF h wG (λw9 hE9=>fV (l.getD (k - 1) cr) (l.getD k cr) w9) rfl rfl λf h=>bL h rfl (nD ac h rfl ((Jl _ _).trans (by rw [h2];rfl)) λf h=>ay ac 2 h rfl λf h=>bY s λw1 s=>iY h rfl (bE ac 1 h rfl λf h=>aL3 (bA (aS (aS (bA (aS (av rfl h s rfl (by show _=_;rw [tH hkl ((YQ h0 (aH0 h1)).trans h2)]))))))))))))))))
     ·refine dJ 17 h (by kernel_rfl) (aT 0 h s cn rfl rfl (aE _) rfl λf h=>bF h AL (λw9 hE9=>aR (.bool true) (iT (l.getD k cr) w9) (aH3 Value.bool h0)) rfl rfl λf h=>ay ac 3 h rfl λf h=>bL h rfl (nD ac h rfl (aH2 (by have:=aH0 h1;omega)) λf h=>ay ac 3 h rfl λf h=>bL h rfl (aF h (gj (h.ev rfl) (h.ev rfl) (by omega)) rfl λf h=>bL h rfl (aF h (bj (hR.keep s.ext) ((k - 1)) aR9 gf (h.ev rfl) (h.ev rfl) (by have:=aH0 h1;omega) (by omega)) rfl λf h=>bL h rfl (bh ((hR.keep s.ext).el ((k - 1)) (by omega) (by decide) (D:=aU (l.getD (k - 1) cr)) (fP l (k - 1) (by omega))) h cn rfl (aE _) rfl λf h=>bL h rfl (aT 0 h s cn rfl rfl (aE _) rfl λf h=>bL h rfl (bF h wG (λw9 hE9=>fV (l.getD (k - 1) cr) (l.getD k cr) w9) rfl rfl λf h=>bL h rfl (vB ac h rfl ((Jl _ _).trans (by rw [h2];rfl)) λf h=>ay ac 2 h rfl λf h=>bY s λw1 s=>wV h rfl (wpIn_skip (aW (aD (aw (ai h (bo (h.ev rfl) (h.ev rfl) (by omega)) rfl λf h=>e9 ac 1 h rfl λf h=>?_)))))))))))))
      exact ⟨_,by omega,⟨k+1,h.only ⟨rfl,rfl,rfl,ao rfl (by omega),trivial⟩,St.as (s.pick _ (aI8 [_] _)) trivial,rfl,by omega,Aa hp1 ((YQ h0 (aH0 h1)).trans h2)⟩⟩
    ·refine dJ 17 h (by kernel_rfl) (aT 0 h s cn rfl rfl (aE _) rfl λf h=>bF h AL (λw9 hE9=>aR (.bool true) (iT (l.getD k cr) w9) (aH3 Value.bool h0)) rfl rfl λf h=>ay ac 3 h rfl λf h=>bL h rfl (vB ac h rfl (aH1 (by have:=aG9 h1;omega)) λf h=>ay ac 11 h rfl λf h=>bY s λw1 s=>wV h rfl (wpIn_skip (aW (aD (aw (ai h (bo (h.ev rfl) (h.ev rfl) (by omega)) rfl λf h=>e9 ac 1 h rfl λf h=>?_)))))))
     exact ⟨_,by omega,⟨k+1,h.only ⟨rfl,rfl,rfl,ao rfl (by omega),trivial⟩,St.as (s.pick _ (aI8 [_] _)) trivial,rfl,by omega,Aa hp1 (as2 h0 (aG9 h1))⟩⟩
  ·refine aL5 (aO (aO (bS (aD (bE ac 1 h rfl λf h=>aL3 (av rfl h s rfl (by first|(unfold dz;rw [aH1 h32,Bool.and_false];rfl)|(obtain rfl:k=l.length:=(by omega);show _=_;rw [wt hp1];exact aH3 Value.bool (aH2 h32).symm))))))))
theorem wi (x:Tg) (a b:Id) (ba bb:Nat) (w:World) (ha:gq w ba (aH a)) (hb:gq w bb (aH b)):Calls Tryz.prog 257 [.agg (aU x),.pointer (some ⟨ba,0,none⟩),.pointer (some ⟨bb,0,none⟩)].toArray w (cb w (is (.bool (zb x.1 a b)))):=by
 refine bK Tryz.func257 rfl Tryz.ntmps257 rfl λf h s=>qr (aV (aU x) h s rfl rfl rfl λf w1 b3 h s=>e9 ac 1 h rfl λf h=>bU ac 1 h rfl λf h=>ap (aJ.subL (aJ.of_own s 0 rfl) 0 32 (D:=aH (_)) (gZ _)) h bW rfl (by first|exact aA _|exact au _ _) rfl λf h=>ap (aJ.subL (aJ.of_tab (ha.keep s.ext)) 0 32 (D:=aH a) (mV _)) h bW rfl (by first|exact aA _|exact au _ _) rfl λf h=>ap (aJ.subL (aJ.of_tab (hb.keep s.ext)) 0 32 (D:=aH b) (mV _)) h bW rfl (by first|exact aA _|exact au _ _) rfl λf h=>dF h s Wy (Ye x.1 a b _) rfl rfl λf w1 h s=>e9 ac 1 h rfl λf h=>aL3 (av rfl h s rfl (rfl)))
theorem Ic (x:Tg) (a b:Id) (ba bb bf:Nat) (w:World) (ha:gq w ba (aH a)) (hb:gq w bb (aH b)) (hf:gq w bf #[.func (.func 257) #[] #[.pointer (some ⟨ba,0,none⟩),.pointer (some ⟨bb,0,none⟩)]]):Calls Tryz.prog 259 [.agg (aU x),.pointer (some ⟨bf,0,none⟩)].toArray w (cb w (is (.bool (!zb x.1 a b)))):=by
 refine bK Tryz.func259 rfl Tryz.ntmps259 rfl λf h s=>qr (aV (aU x) h s rfl rfl rfl λf w1 b2 h s=>e9 ac 1 h rfl λf h=>qr (ag (V:=.func (.func 257) #[] #[.pointer (some ⟨ba,0,none⟩),.pointer (some ⟨bb,0,none⟩)]) (ae (aJ.of_tab (hf.keep s.ext)) 0 (rfl)) h DN rfl rfl λf h=>ak 0 h s cn rfl rfl (aE _) rfl λf h=>cJ [.agg (aU x)] (caps:=[.pointer (some ⟨ba,0,none⟩),.pointer (some ⟨bb,0,none⟩)]) h s Jm rfl (wi x a b ba bb _ (ha.keep s.ext) (hb.keep s.ext)) rfl rfl ?_));intro f w1 v6 hT hE h s;obtain rfl:=hT
 refine e9 ac 2 h rfl λf h=>aL3 (av rfl h s rfl (rfl))
theorem Jk (l:List Tg) (vh:Value) (a b:Id) (w:World) (hR:bs w vh 67 l.length (aX l)) (hln:l.length<=1000):Calls Tryz.prog 212 [vh,iy a,iy b].toArray w (cb w (TbC w vh l (OS l a b true) (OS l a b false) (Jn l))):=by
 refine bK Tryz.func212 rfl Tryz.ntmps212 rfl λf h s=>qr (aV (aH a) h s rfl rfl rfl λf w1 b4 h s=>aV (aH b) h s rfl rfl rfl λf w1 b5 h s=>e9 ac 3 h rfl λf h=>ah (ah ?_))
 cases r0:(dz l:Bool)
 ·refine rs ac 1 h rfl λf h=>jD false h s vR (iq l vh _ (hR.keep s.ext) hln) (r0) rfl rfl λf w1 h s=>e9 ac 1 h rfl λf h=>dG h rfl (bE ac 3 h rfl λf h=>rt (GC rfl h s rfl rfl rfl (Qn (ap8 r0 0).1 (ag4 r0 a b true) (ag4 r0 a b false) (s.sel [] rfl (by decide)))))
 ·refine rs ac 1 h rfl λf h=>aY h s vR (aR (.bool true) (iq l vh _ (hR.keep s.ext) hln) (aH3 Value.bool r0)) rfl rfl ?_;intro f w1 v9 hT hE h s;obtain rfl:=hT
  refine e9 ac 1 h rfl λf h=>nH h rfl (qr (ai h (cO [.pointer (some ⟨b4,0,none⟩),.pointer (some ⟨b5,0,none⟩)] (ke h rfl)) rfl λf h=>aK (#[.nilFunc]) h s PW rfl rfl λf w1 b9 h s=>aM 0 h s DN rfl rfl rfl (by simp) (rfl) λw1 s=>nt (qr (ai h (cO [.pointer (some ⟨b9,0,none⟩)] (ke h rfl)) rfl λf h=>e9 ac 1 h rfl λf h=>bU ac 1 h rfl λf h=>cz 0 h s DN rfl rfl (rfl) rfl λf h=>aY h s JA (wS l vh 257 [.pointer (some ⟨b4,0,none⟩),.pointer (some ⟨b5,0,none⟩)] ((λy=>zb y.1 a b == true)) _ (hR.keep s.ext) hln Jm (λw9 h9 y _=>aR (.bool (zb y.1 a b == true)) (wi y a b b4 b5 w9 ((gq.of_own s 2 rfl).keep h9) ((gq.of_own s 1 rfl).keep h9)) (by simp))) rfl rfl ?_))));intro f w1 v18 hT hE h sq;replace s:=s.sl_new hE hT
  refine am ac 2 h rfl λf h=>aY h s JA (wS l vh 259 [.pointer (some ⟨b9,0,none⟩)] ((λy=>zb y.1 a b == false)) _ (hR.keep s.ext) hln WL (λw9 h9 y _=>aR (.bool (zb y.1 a b == false)) (Ic y a b b4 b5 b9 w9 ((gq.of_own s 3 rfl).keep h9) ((gq.of_own s 2 rfl).keep h9) ((gq.of_own s 1 rfl).keep h9)) (by cases zb y.1 a b<;>rfl))) rfl rfl ?_;intro f w1 v21 hT hE h sq;replace s:=s.sl_new hE hT
  refine e9 ac 3 h rfl λf h=>aL3 (GC rfl h s rfl rfl rfl (Qm (ar9 r0 0).1 (ZO r0 a b true) (ZO r0 a b false) (s.sel [1,0] rfl (by decide))))
theorem yK (l:List Tg) (vh:Value) (x:Tg) (w:World) (hR:bs w vh 67 l.length (aX l)) (hln:l.length<=1000) (hs9:nC l):Calls Tryz.prog 93 [vh,.agg (aU x),.func (.func 91) #[] #[]].toArray w (cb w (λv _=>∃ n b,v=.tuple #[.int .i64 ((n:Nat):Int),.bool b]/\FndT l x n b)):=by
 refine bK Tryz.func93 rfl Tryz.ntmps93 rfl λf h s=>qr (aV (aU x) h s rfl rfl rfl λf w1 b4 h s=>e9 ac 2 h rfl λf h=>bU ac 1 h rfl λf h=>ck h (hR.keep s.ext) aR9 rfl rfl λf h=>e9 ac 1 h rfl λf h=>bE ac 3 h rfl λf h=>ah (aL4 (aL6 (λnn aa ww=>∃ i:Nat,∃ j:Nat,Sl 49 aa [(1,.agg (aU x)),(4,.pointer (some ⟨b4,0,none⟩)),(0,vh),(2,.func (.func 91) #[] #[]),(8,.int .i64 (l.length:Int)),(9,.int .i64 (i:Int)),(10,.int .i64 (j:Int))]/\St w [.blk b4 (.cells (aU x) 49)] ww/\nn=j - i/\i<=j/\j<=l.length/\(∀ q,q<i->gz (l.getD q cr) x=true)/\∀ q,j<=q->q<l.length->gz (l.getD q cr) x=false) ((l.length) - (0)) ⟨0,l.length,h.only ⟨rfl,rfl,rfl,rfl,rfl,ao rfl (by omega),ao rfl (by omega),trivial⟩,s.as ⟨rfl,trivial⟩,rfl,aJ3 _,aJ1 _,λq hq=>aO7 hq (aM6 _),λq h1 h2=>aO7 h2 (by omega)⟩ ?_)))
 rintro _ f w1 ⟨i,j,h,s,hnn,hp0,hp1,hp2,hp3⟩
 refine ah (bE ac 3 h rfl λf h=>cB h rfl (λhc=>?_) (λhc=>?_))
 ·refine kt (aL4 (bU ac 2 h rfl λf h=>ai h (bo (h.ev rfl) (h.ev rfl) (by omega)) rfl λf h=>ai h (jr aR2 aT3 (h.ev rfl) (IntWalk.u64_in _ (by omega))) rfl λf h=>ai h (bz (.int .u64 ((((i+j) / 2):Nat):Int)) (Jh (h.ev rfl) (h.ev rfl) (by omega)) (aH3 (Value.int .u64) (SC i j))) rfl λf h=>ai h (jr aT3 aR2 (h.ev rfl) (IntWalk.i64_in _ (by omega))) rfl λf h=>e9 ac 1 h rfl λf h=>ah ?_))
  cases hq:(gz (l.getD ((i+j) / 2) cr) x:Bool)
  ·refine dJ 8 h (by kernel_rfl) (ay ac 3 h rfl λf h=>aF h (bj (hR.keep s.ext) (((i+j) / 2)) aR9 gf (h.ev rfl) (h.ev rfl) (rfl) (by omega)) rfl λf h=>bh ((hR.keep s.ext).el (((i+j) / 2)) (by omega) (by decide) (D:=aU (l.getD ((i+j) / 2) cr)) (fP l _ (by omega))) h cn rfl (aE _) rfl λf h=>aT 0 h s cn rfl rfl (aE _) rfl λf h=>jP [.agg (aU (l.getD ((i+j) / 2) cr)),.agg (aU x)] (caps:=[]) h wG rfl (λw9 h9=>fV _ _ w9) rfl rfl ?_);intro f h
   refine vB ac h rfl ((zl _ _).trans hq) λf h=>bY s λw1 s=>wV h rfl (rs ac 2 h rfl λf h=>az (aW (aD ?_)))
   exact ⟨_,by omega,⟨i,((i+j) / 2),h.only ⟨rfl,rfl,rfl,rfl,rfl,ao rfl (by omega),ao rfl (by omega),trivial⟩,St.as s ⟨rfl,trivial⟩,rfl,by omega,by omega,hp2,ak2 hs9 hq⟩⟩
  ·refine dJ 8 h (by kernel_rfl) (ay ac 3 h rfl λf h=>aF h (bj (hR.keep s.ext) (((i+j) / 2)) aR9 gf (h.ev rfl) (h.ev rfl) (rfl) (by omega)) rfl λf h=>bh ((hR.keep s.ext).el (((i+j) / 2)) (by omega) (by decide) (D:=aU (l.getD ((i+j) / 2) cr)) (fP l _ (by omega))) h cn rfl (aE _) rfl λf h=>aT 0 h s cn rfl rfl (aE _) rfl λf h=>jP [.agg (aU (l.getD ((i+j) / 2) cr)),.agg (aU x)] (caps:=[]) h wG rfl (λw9 h9=>fV _ _ w9) rfl rfl ?_);intro f h
   refine nD ac h rfl ((zl _ _).trans hq) λf h=>bY s λw1 s=>iY h rfl (rs ac 1 h rfl λf h=>ai h (bo (h.ev rfl) (h.ev rfl) (by omega)) rfl λf h=>am ac 1 h rfl λf h=>az (aW (aD ?_)))
   exact ⟨_,by omega,⟨((i+j) / 2)+1,j,h.only ⟨rfl,rfl,rfl,rfl,rfl,ao rfl (by omega),ao rfl (by omega),trivial⟩,St.as s ⟨rfl,trivial⟩,rfl,by omega,hp1,Z3 hs9 (by omega) hq,hp3⟩⟩
 ·refine aL5 (aO (aO (bS (aD (ah ?_)))))
  refine dJ 16 h (by kernel_rfl) (ay ac 3 h rfl λf h=>H9 ac (decide (i<l.length)) h rfl ((aI3.2 (by omega))) (λhn f h=>?_) (λhn f h=>?_))
  ·refine ay ac 12 h rfl λf h=>bY s λw1 s=>nt (aL3 (fc rfl h s rfl rfl (⟨i,_,rfl,⟨by omega,hp2,λq h1 h2=>hp3 q (by omega) h2,by rw [hn];rfl⟩⟩)))
  ·skip
   cases he:(oZ x.1 x.2.1 (l.getD i cr):Bool)
   ·refine ay ac 4 h rfl λf h=>bL h rfl ?_
    have hil:i<l.length:=aG9 hn
    refine aF h (bj (hR.keep s.ext) (i) aR9 gf (h.ev rfl) (h.ev rfl) (rfl) (by omega)) rfl λf h=>bL h rfl (bh ((hR.keep s.ext).el (i) (by omega) (by decide) (D:=aU (l.getD i cr)) (fP l i hil)) h cn rfl (aE _) rfl λf h=>bL h rfl (aT 0 h s cn rfl rfl (aE _) rfl λf h=>bL h rfl (jP [.agg (aU (l.getD i cr)),.agg (aU x)] (caps:=[]) h wG rfl (λw9 h9=>fV _ _ w9) rfl rfl ?_)));intro f h
    refine bL h rfl (vB ac h rfl ((B4 _ _).trans he) λf h=>ay ac 3 h rfl λf h=>bY s λw1 s=>nt (aL3 (fc rfl h s rfl rfl (⟨i,_,rfl,⟨by omega,hp2,λq h1 h2=>hp3 q (by omega) h2,by rw [hn,he];rfl⟩⟩))))
   ·refine ay ac 4 h rfl λf h=>bL h rfl ?_
    have hil:i<l.length:=aG9 hn
    refine aF h (bj (hR.keep s.ext) (i) aR9 gf (h.ev rfl) (h.ev rfl) (rfl) (by omega)) rfl λf h=>bL h rfl (bh ((hR.keep s.ext).el (i) (by omega) (by decide) (D:=aU (l.getD i cr)) (fP l i hil)) h cn rfl (aE _) rfl λf h=>bL h rfl (aT 0 h s cn rfl rfl (aE _) rfl λf h=>bL h rfl (jP [.agg (aU (l.getD i cr)),.agg (aU x)] (caps:=[]) h wG rfl (λw9 h9=>fV _ _ w9) rfl rfl ?_)));intro f h
    refine bL h rfl (nD ac h rfl ((B4 _ _).trans he) λf h=>ay ac 3 h rfl λf h=>bY s λw1 s=>nt (aL3 (fc rfl h s rfl rfl (⟨i,_,rfl,⟨by omega,hp2,λq h1 h2=>hp3 q (by omega) h2,by rw [hn,he];rfl⟩⟩))))
theorem G8 (l:List Tg) (vh:Value) (x:Tg) (w:World) (hR:bs w vh 67 l.length (aX l)) (hln:l.length<=1000) (hs9:nC l):Calls Tryz.prog 44 [vh,.agg (aU x)].toArray w (cb w (λv _=>∃ n b,v=.tuple #[.int .i64 ((n:Nat):Int),.bool b]/\FndT l x n b)):=by
 refine bK Tryz.func44 rfl Tryz.ntmps44 rfl λf h s=>qr (aV (aU x) h s rfl rfl rfl λf w1 b3 h s=>e9 ac 2 h rfl λf h=>bU ac 1 h rfl λf h=>ak 0 h s cn rfl rfl (aE _) rfl λf h=>aY h s YH (yK l vh x _ (hR.keep s.ext) hln hs9) rfl rfl ?_);rintro f w1 v8 ⟨n,b,rfl,hf9⟩ hE h s
 refine e9 ac 4 h rfl λf h=>aL3 (fc rfl h s rfl rfl (⟨n,b,rfl,hf9⟩))
set_option maxHeartbeats 1000000 in
theorem Ci (l:List Tg) (vh:Value) (x:Tg) (w:World) (hR:bs w vh 67 l.length (aX l)) (hln:l.length<=1000):Calls Tryz.prog 22 [vh,.agg (aU x)].toArray w (cb w (TbP w vh l (qh l x) (ll l x))):=by
 refine bK Tryz.func22 rfl Tryz.ntmps22 rfl λf h s=>qr (aV (aU x) h s rfl rfl rfl λf w1 b3 h s=>e9 ac 2 h rfl λf h=>ah (ah ?_))
 refine rs ac 1 h rfl λf h=>fh h s vR (iq l vh _ (hR.keep s.ext) hln) rfl rfl (λr0 f w1 h s=>?_) (λr0 f w1 h s=>?_)
 ·refine e9 ac 6 h rfl λf h=>dG h rfl (bE ac 2 h rfl λf h=>rt (fc rfl h s rfl rfl (yf (MT r0 x).1 (MT r0 x).2 (s.sel [] rfl (by decide)))))
 ·skip
  refine am ac 2 h rfl λf h=>cy h rfl (ak 0 h s cn rfl rfl (aE _) rfl λf h=>cy h rfl (fh h s AL (iT x _) rfl rfl (λm0 f w1 h s=>?_) (λm0 f w1 h s=>?_)))
  ·refine e9 ac 2 h rfl λf h=>dG h rfl (bE ac 2 h rfl λf h=>rt (fc rfl h s rfl rfl (yf (Ky l m0).1 (Ky l m0).2 (s.sel [] rfl (by decide)))))
  ·refine e9 ac 2 h rfl λf h=>nH h rfl (qr ?_)
   have hrt:=gh.1 r0
   have hl32:=hrt.len
   refine am ac 1 h rfl λf h=>ak 0 h s cn rfl rfl (aE _) rfl λf h=>aY h s Y8 (G8 l vh x _ (hR.keep s.ext) hln hrt.srt) rfl rfl ?_;rintro f w1 v19 ⟨n,b,rfl,hf9⟩ hE h s
   refine e9 ac 5 h rfl λf h=>ah (ah ?_)
   refine aw (j8 ac (b) h rfl (rfl) (λb9 f h=>?_) (λb9 f h=>?_))
   ·refine gS h rfl (ah (qr ?_))
    rw [b9] at hf9
    have hnl:=hf9.le
    refine am ac 1 h rfl λf h=>ck h (hR.keep s.ext) aR9 rfl rfl λf h=>e9 ac 1 h rfl λf h=>bV h rfl (λhc=>?_) (λhc=>?_)
    ·have h32:l.length=32:=by have:=aG9 hc;omega
     refine bE ac 2 h rfl λf h=>rt (fc rfl h s rfl rfl (yf (SW hrt m0 hf9 h32).1 (SW hrt m0 hf9 h32).2 (s.sel [] rfl (by decide))))
    ·have h32:¬ l.length=32:=by have:=aH0 hc;omega
     refine kt (ah (fC 0 10 [[],[],[0,1],[],[3],[],[],[5,6],[0,1,2,3,4,5,6,7],[0,1,2,3,4,5,6,7,8],[0,1,2,3,4,5,6,7,8,9],[0,1,2,3,4,5,6,7,8,9,10]] [[],[],[],[],[],[],[],[],[],[8,4],[],[]] [] [.v _,.v _,.v (eT vh n),.v (.agg (aU x)),.r (λv=>[.sl (v 4) 49 67 [x].length (aX [x])]) (λv=>(v 4).oneCell'=true),.v _,.v _,.v (lI vh 67 n),.m (λv=>[.sl (v 8) 34 1 3 [eT vh n,(v 4),lI vh 67 n]]),.m (λv=>[.sl (v 9) 49 67 (l.take n++([x]++l.drop n)).length (aX (l.take n++([x]++l.drop n)))]),.n,.n] _ h s rfl (by kernel_rfl) (by kernel_rfl) (by kernel_rfl) (gL ac h rfl rfl rfl (gL ac h rfl rfl rfl (cm ?_ (cm ?_ (cm ?_ (gL ac h rfl rfl rfl (gL ac h rfl rfl rfl (cm ?_ (cm ?_ (cm ?_ (trivial))))))))))) [0,1,2,3,5,6,7,9] (by kernel_rfl) ?_))
     ·intro f9 w2 vl10 E9 hs9 hd9 hl hF s
      have h:=cq [(41,_),(42,_)] h hs9 hd9 ⟨a7 hl 41 0 (by kernel_rfl) (hF 0 (by decide)),a7 hl 42 1 (by kernel_rfl) (hF 1 (by decide)),trivial⟩
      refine ai h (eA (hR.keep s.ext) (n) aR9 gf (h.ev rfl) (h.ev rfl) (rfl) (by omega)) rfl λf h=>az ⟨_,br 43 h rfl rfl,rfl,s⟩
     ·intro f9 w2 vl10 E9 hs9 hd9 hl hF s
      have h:=cq [(3,_)] h hs9 hd9 ⟨fu hl 3 (by kernel_rfl) (h.holds 3 _ rfl),trivial⟩
      refine ak 0 h s cn rfl rfl (aE _) rfl λf h=>az ⟨_,br 44 h rfl rfl,rfl,s⟩
     ·intro f9 w2 vl10 E9 hs9 hd9 hl hF s
      have h:=cq [(44,_)] h hs9 hd9 ⟨a7 hl 44 3 (by kernel_rfl) (hF 3 (by decide)),trivial⟩
      refine cf (vs:=[.agg (aU x)]) [.tmp 44] h s aR9 gp rfl rfl (rA _) rfl rfl rfl λf w1 v45 h s=>?_
      replace s:=s.resl (m:=[x].length) (ys:=aX [x]) 0 rfl rfl (by rw [gG,jS])
      exact az ⟨_,br 45 h rfl rfl,bk (s.getSl 0 rfl),s⟩
     ·intro f9 w2 vl10 E9 hs9 hd9 hl hF s
      have h:=cq [(46,_),(47,_)] h hs9 hd9 ⟨a7 hl 46 5 (by kernel_rfl) (hF 5 (by decide)),a7 hl 47 6 (by kernel_rfl) (hF 6 (by decide)),trivial⟩
      refine ai h (ym (hR.keep s.ext) (n) aR9 gf (h.ev rfl) (h.ev rfl) (rfl) (by omega)) rfl λf h=>az ⟨_,br 48 h rfl rfl,rfl,s⟩
     ·intro f9 w2 vl10 E9 hs9 hd9 hl hF s
      have h:=cq [(43,_),(45,_),(48,_)] h hs9 hd9 ⟨a7 hl 43 2 (by kernel_rfl) (hF 2 (by decide)),ff hl 45 4 (by kernel_rfl) (by kernel_rfl),a7 hl 48 7 (by kernel_rfl) (hF 7 (by decide)),trivial⟩
      refine cf (vs:=[eT vh n,(vl10 4),lI vh 67 n]) [.tmp 43,.tmp 45,.tmp 48] h s aU4 ae8 rfl rfl (by intro v hv;simp only [aI6,aI9,or_false] at hv;rcases hv with rfl|rfl|rfl;exact jN (zi (hR.keep s.ext) n (by omega));exact(Td (hF 4 (by decide))).1;exact jN (xW (hR.keep s.ext) n (by omega))) rfl rfl rfl λf w1 v49 h s=>?_
      replace s:=s.resl (m:=3) (ys:=[eT vh n,(vl10 4),lI vh 67 n]) 0 rfl rfl (by simp [iS (zi (hR.keep s.ext) n (by omega)),show (vl10 4).cells.toList=[vl10 4] from (Td (hF 4 (by decide))).2,iS (xW (hR.keep s.ext) n (by omega))])
      exact az ⟨_,br 49 h rfl rfl,trivial,s⟩
     ·intro f9 w2 vl10 E9 hs9 hd9 hl hF s
      have h:=cq [(49,_)] h hs9 hd9 ⟨ff hl 49 8 (by kernel_rfl) (by kernel_rfl),trivial⟩
      refine aY h s al7 (Bm (vl10 8) [eT vh n,(vl10 4),lI vh 67 n] [l.take n,[x],l.drop n] rfl (by rw [mb];simp only [aH7,aL0,aK2,aK5,aK6];omega) (by simp) _ (bs.of_own (s.getSl 0 rfl)) (H1 (zi (hR.keep s.ext) n (by omega)) (bs.of_own (s.getSl 1 rfl)) (xW (hR.keep s.ext) n (by omega)))) rfl rfl ?_;intro f w1 v9_ hT hE h sq
      replace s:=s.sl_new hE (hT.seq (m:=(l.take n++([x]++l.drop n)).length) (ys:=aX (l.take n++([x]++l.drop n))) (by rw [mb]) (by rw [mb]))
      exact az ⟨_,br 50 h rfl rfl,trivial,(s.pick _ (aG7 _ (aG8 _ (aG8 _ (aG7 _ (List.Sublist.refl _))))))⟩
     intro f w1 vl10 hs9 hd9 hv hr hF s
     replace hv:=λi d h9=>hv i d (show Nat.blt i 10=true from h9)
     replace h:=ew 10 (ops:=_) [(41,_),(42,_),(43,_),(44,_),(45,(vl10 4)),(46,_),(47,_),(48,_),(49,(vl10 8)),(50,(vl10 9))] h hs9 hd9 hr ⟨(hv 0 41 rfl rfl).trans (hF 0 rfl),(hv 1 42 rfl rfl).trans (hF 1 rfl),(hv 2 43 rfl rfl).trans (hF 2 rfl),(hv 3 44 rfl rfl).trans (hF 3 rfl),hv 4 45 rfl rfl,(hv 5 46 rfl rfl).trans (hF 5 rfl),(hv 6 47 rfl rfl).trans (hF 6 rfl),(hv 7 48 rfl rfl).trans (hF 7 rfl),hv 8 49 rfl rfl,hv 9 50 rfl rfl,trivial⟩ (by kernel_rfl)
     replace s:St w [.sl (vl10 9) 49 67 (l.take n++([x]++l.drop n)).length (aX (l.take n++([x]++l.drop n))),.blk b3 (.cells (aU x) 49)] _:=s
     refine e9 ac 2 h rfl λf h=>aL3 (fc rfl h s rfl rfl (Gq (SS hrt m0 hf9 h32).1 (SS hrt m0 hf9 h32).2 (s.sel [0] rfl (by decide))))
   ·refine iY h rfl (qr ?_)
    rw [b9] at hf9
    have hnl:=(Up hrt.srt hf9).1
    refine am ac 1 h rfl λf h=>aY h s JR (ol l hln vh _ (hR.keep s.ext)) rfl rfl ?_;intro f w1 v24 hT hE h sq;replace s:=s.sl_new hE hT
    refine e9 ac 1 h rfl λf h=>ah (dJ 12 h (by kernel_rfl) (ay ac 4 h rfl λf h=>aF h (bj (bs.of_own (s.getSl 0 rfl)) (n) aR9 gf (h.ev rfl) (h.ev rfl) (rfl) (by omega)) rfl λf h=>aF h (bq zg (h.ev rfl) ((bs.of_own (s.getSl 0 rfl)).some (by omega))) rfl λf h=>aB (V:=.int .i64 (l.getD n cr).2.2) (er (bs.of_own (s.getSl 0 rfl)) (n*67+66) (ah5 l n hnl)) h bJ rfl rfl λf h=>ay ac 1 h rfl λf h=>aB (ae (aJ.of_own s 1 rfl) 66 (fK _)) h bJ rfl rfl λf h=>aF h (bz (.int .i64 (max (l.getD n cr).2.2 x.2.2)) (U7 (h.ev rfl) (h.ev rfl)) (aH3 (Value.int .i64) (by split<;>omega))) rfl λf h=>aF h (bj (bs.of_own (s.getSl 0 rfl)) (n) aR9 gf (h.ev rfl) (h.ev rfl) (rfl) (by omega)) rfl λf h=>aF h (bq zg (h.ev rfl) ((bs.of_own (s.getSl 0 rfl)).some (by omega))) rfl λf h=>bY s λw1 s=>eD 0 h s bJ rfl rfl rfl (by omega) (rfl) (UI hnl (Yo l x n) 66 _ (by decide) (EJ _ _)) λw1 s=>?_))
    replace s:=s.resl (m:=(l.set n (Yo l x n)).length) (ys:=aX (l.set n (Yo l x n))) 0 rfl (by rw [List.length_set]) (rfl)
    refine nt (bE ac 3 h rfl λf h=>rt (fc rfl h s rfl rfl (Gq (ac5 hrt m0 hf9).1 (ac5 hrt m0 hf9).2 (s.sel [0] rfl (by decide)))))
end Go.Proofs.YthmlflaiidhoiaaGreatDoor
