/- Package table and what it stands on, so far as it is wanted: what each function answers. -/
import Derived.Test.YtkhepdpfdhdlaaaGreatDoorZl
import Derived.Test.YtkhepdpfdhdlaaaGreatDoorZm
set_option linter.unusedVariables false
set_option linter.unusedSimpArgs false
set_option linter.unusedSectionVars false
namespace Go.Proofs.YtkhepdpfdhdlaaaGreatDoor
open Go.RowKit
theorem Dg (x y:Tg) (w:World):Calls Tryz.prog 188 [.agg (bY x),.agg (bY y)].toArray w (bW w (is (.int .i64 (nF x y 0)))):=by
 refine bG Tryz.func188 rfl Tryz.ntmps188 rfl λf h s=>qr (bh (bY x) h s rfl rfl rfl λf w1 b2 h s=>bh (bY y) h s rfl rfl rfl λf w1 b3 h s=>e9 ac 1 h rfl λf h=>cu ac 1 h rfl λf h=>aB (aJ.subL (aJ.of_own s 1 rfl) 0 32 (D:=aA (_)) (wU _)) h cJ rfl (by first|exact aF _|exact aE _ _) rfl λf h=>ap ac 1 h rfl λf h=>aB (aJ.subL (aJ.of_own s 0 rfl) 0 32 (D:=aA (_)) (wU _)) h cJ rfl (by first|exact aF _|exact aE _ _) rfl λf h=>da h s zl (jL x.1 y.1 _) rfl rfl λf w1 h s=>e9 ac 1 h rfl λf h=>Y8 (au rfl h s rfl (rfl)))
theorem zx (x y:Tg) (w:World):Calls Tryz.prog 190 [.agg (bY x),.agg (bY y)].toArray w (bW w (is (.int .i64 (nF x y 2)))):=by
 refine bG Tryz.func190 rfl Tryz.ntmps190 rfl λf h s=>qr (bh (bY x) h s rfl rfl rfl λf w1 b2 h s=>bh (bY y) h s rfl rfl rfl λf w1 b3 h s=>e9 ac 1 h rfl λf h=>cu ac 2 h rfl λf h=>aB (aJ.subL (aJ.of_own s 1 rfl) 33 32 (D:=aA (_)) (ry _)) h cJ rfl (by first|exact aF _|exact aE _ _) rfl λf h=>ap ac 2 h rfl λf h=>aB (aJ.subL (aJ.of_own s 0 rfl) 33 32 (D:=aA (_)) (ry _)) h cJ rfl (by first|exact aF _|exact aE _ _) rfl λf h=>da h s zl (jL x.2.1.2.1 y.2.1.2.1 _) rfl rfl λf w1 h s=>e9 ac 1 h rfl λf h=>Y8 (au rfl h s rfl (rfl)))
theorem AL (x y:Tg) (k:Nat) (hk:k<4) (w:World):Fnc Tryz.prog (V5 188 189 190 191 k)/\Calls Tryz.prog (V5 188 189 190 191 k) [.agg (bY x),.agg (bY y)].toArray w (bW w (is (.int .i64 (nF x y k)))):=by
 match k,hk with
 |0,_=>exact ⟨O0,Dg x y w⟩
 |1,_=>exact ⟨NC,vL x y w⟩
 |2,_=>exact ⟨NX,zx x y w⟩
 |3,_=>exact ⟨NO,xt x y w⟩
theorem mu (x y:Tg) (w:World):Calls Tryz.prog 116 [.agg (bY x),.agg (bY y)].toArray w (bW w (is (.int .i64 (uV x y)))):=by
 refine bG Tryz.func116 rfl Tryz.ntmps116 rfl λf h s=>qr (bh (bY x) h s rfl rfl rfl λf w1 b2 h s=>bh (bY y) h s rfl rfl rfl λf w1 b3 h s=>e9 ac 1 h rfl λf h=>qr (ai h (tC [.func 188,.func 189,.func 190,.func 191] [.func (.func 188) #[] #[],.func (.func 189) #[] #[],.func (.func 190) #[] #[],.func (.func 191) #[] #[]] Z4 BQ ⟨_,AC,rfl⟩ rfl (VT h rfl) (by simp [Value.cells]) rfl) rfl λf h=>aS (#[.nilFunc,.nilFunc,.nilFunc,.nilFunc]) h s AC rfl rfl λf w1 b5 h s=>ak 0 h s FN rfl rfl rfl (rfl) (rfl) (by decide) λw1 s=>nt (ah (qr (al 0 h s FN rfl rfl (rfl) rfl λf h=>e9 ac 1 h rfl λf h=>Y9 (Zb (λnn aa ww=>∃ k:Nat,Sl 22 aa [(0,.agg (bY x)),(1,.agg (bY y)),(2,.pointer (some ⟨b2,0,none⟩)),(3,.pointer (some ⟨b3,0,none⟩)),(5,.pointer (some ⟨b5,0,none⟩)),(10,.agg (#[.func (.func 188) #[] #[],.func (.func 189) #[] #[],.func (.func 190) #[] #[],.func (.func 191) #[] #[]])),(11,.int .i64 (k:Int))]/\St w [.blk b5 (.cells (#[.func (.func 188) #[] #[],.func (.func 189) #[] #[],.func (.func 190) #[] #[],.func (.func 191) #[] #[]]) 269),.blk b3 (.cells (bY y) 50),.blk b2 (.cells (bY x) 50)] ww/\nn=4 - k/\k<=4/\∀ j,j<k->nF x y j=0) (4 - (0)) ⟨0,h.only ⟨rfl,rfl,rfl,rfl,rfl,rfl,av rfl (by omega),trivial⟩,s.as ⟨rfl,rfl,rfl,trivial⟩,rfl,YO _,λj hj=>ZF hj (Zl _)⟩ ?_))))))
 rintro _ f w1 ⟨k,h,s,hnn,hp0,hp1⟩
 refine bF ac 1 h rfl λf h=>ah (dq h rfl (λhc=>?_) (λhc=>?_))
 ·refine kt (ah (Y9 (qr ?_)))
  have hk4:k<4:=by omega
  obtain ⟨hfn4,_⟩:=AL x y k hk4 w
  refine ai h (xU k Z4 BQ Tryz.underlying266 (h.ev rfl) (h.ev rfl) rfl (by omega) (OB hk4)) rfl λf h=>e9 ac 1 h rfl λf h=>cu ac 1 h rfl λf h=>al 2 h s ja rfl rfl (cV _) rfl λf h=>al 1 h s ja rfl rfl (cV _) rfl λf h=>fP [.agg (bY x),.agg (bY y)] (caps:=[]) h s hfn4 rfl (AL x y k hk4 _).2 rfl rfl ?_;intro f w1 v17 hT hE h s;obtain rfl:=hT
  refine e9 ac 1 h rfl λf h=>bF ac 2 h rfl λf h=>cA h rfl (λhc=>?_) (λhc=>?_)
  ·have hc:=Yq hc
   refine bF ac 2 h rfl λf h=>Y8 (bo (aV (aV (bo (aV (au rfl h s rfl (by show _=_;rw [Iz hk4 hp1 hc])))))))
  ·have hc:=Decidable.of_not_not (Yr hc)
   refine wpIn_skip (bw (aO (aG (ai h (bS (h.ev rfl) (h.ev rfl) (by omega)) rfl λf h=>e9 ac 1 h rfl λf h=>?_))))
   exact ⟨_,by omega,⟨k+1,h.only ⟨rfl,rfl,rfl,rfl,rfl,rfl,av rfl (by omega),trivial⟩,St.as s ⟨rfl,rfl,rfl,trivial⟩,rfl,by omega,Lq hp1 hc⟩⟩
 ·refine Za (a7 (a7 (cd (aO (bF ac 1 h rfl λf h=>Y8 (au rfl h s rfl (by show _=_;rw [LH (λj hj=>hp1 j (by omega))])))))))
theorem zY (l:List Tg) (vh:Value) (w:World) (hR:bp w vh 67 l.length (eE l)) (hln:l.length<=1000):Calls Tryz.prog 67 [vh].toArray w (bW w (is (.bool (iW l)))):=by
 refine bG Tryz.func67 rfl Tryz.ntmps67 rfl λf h s=>bF ac 1 h rfl λf h=>ah (cu ac 1 h rfl λf h=>ce h (hR.keep s.ext) aa4 rfl rfl λf h=>e9 ac 1 h rfl λf h=>cA h rfl (λhc=>?_) (λhc=>?_))
 ·have h32:¬ l.length<=32:=by have:=Yq hc;omega
  refine bF ac 1 h rfl λf h=>rt (au rfl h s rfl (by first|(unfold iW;rw [Ys h32,Bool.and_false];rfl)|(obtain rfl:k=l.length:=(by omega);show _=_;rw [rR hp1];exact Yu Value.bool (Yt h32).symm)))
 ·have h32:l.length<=32:=by have:=Yr hc;omega
  refine kt (ah (cu ac 1 h rfl λf h=>ce h (hR.keep s.ext) aa4 rfl rfl λf h=>e9 ac 1 h rfl λf h=>Y9 (Zb (λnn aa ww=>∃ k:Nat,Sl 33 aa [(0,vh),(8,vh),(9,.int .i64 (l.length:Int)),(10,.int .i64 (k:Int))]/\St w [] ww/\nn=l.length - k/\k<=l.length/\∀ j,j<k->In l j=true) (l.length - (0)) ⟨0,h.only ⟨rfl,rfl,rfl,av rfl (by omega),trivial⟩,s.as trivial,rfl,YO _,λj hj=>ZF hj (Zl _)⟩ ?_)))
  rintro _ f w1 ⟨k,h,s,hnn,hp0,hp1⟩
  refine bF ac 1 h rfl λf h=>ah (dq h rfl (λhc=>?_) (λhc=>?_))
  ·refine kt (ah (Y9 (cu ac 1 h rfl λf h=>?_)))
   have hkl:k<l.length:=by omega
   refine ai h (bz (hR.keep s.ext) (k) aa4 FK (h.ev rfl) (h.ev rfl) (by omega) (by omega)) rfl λf h=>aB ((hR.keep s.ext).el (k) (by omega) (by decide) (D:=bY (l.getD k eg)) (yL l k hkl)) h ja rfl (cV _) rfl λf h=>aS (bY eg) h s NE rfl rfl λf w1 b4 h s=>ap ac 1 h rfl λf h=>ak 0 h s ja rfl rfl rfl (cV _) (cV _) (zP _) λw1 s=>nt (ah ?_)
   cases h0:(qH (l.getD k eg):Bool)
   ·refine dF 17 h (by kernel_rfl) (ba 0 h s ja rfl rfl (cV _) rfl λf h=>bj h sO (λw9 hE9=>aX (.bool false) (gZ (l.getD k eg) w9) (Yu Value.bool h0)) rfl rfl λf h=>aq ac 15 h rfl λf h=>bQ s λw1 s=>ie h rfl (bF ac 1 h rfl λf h=>Y8 (bo (aV (aV (bo (aV (au rfl h s rfl (by show _=_;rw [pi hkl (U2 h0)])))))))))
   ·skip
    cases h1:(decide (k=0):Bool)
    ·skip
     cases h2:(Im (l.getD (k - 1) eg) (l.getD k eg):Bool)
     ·refine dF 17 h (by kernel_rfl) (ba 0 h s ja rfl rfl (cV _) rfl λf h=>bj h sO (λw9 hE9=>aX (.bool true) (gZ (l.getD k eg) w9) (Yu Value.bool h0)) rfl rfl λf h=>aq ac 3 h rfl λf h=>a6 h rfl (je ac h rfl (Yt (by have:=Yr h1;omega)) λf h=>aq ac 3 h rfl λf h=>a6 h rfl (ar h (eI (h.ev rfl) (h.ev rfl) (by omega)) rfl λf h=>a6 h rfl (ar h (bz (hR.keep s.ext) ((k - 1)) aa4 FK (h.ev rfl) (h.ev rfl) (by have:=Yr h1;omega) (by omega)) rfl λf h=>a6 h rfl (aY ((hR.keep s.ext).el ((k - 1)) (by omega) (by decide) (D:=bY (l.getD (k - 1) eg)) (yL l (k - 1) (by omega))) h ja rfl (cV _) rfl λf h=>a6 h rfl (ba 0 h s ja rfl rfl (cV _) rfl λf h=>a6 h rfl (bj h Hp (λw9 hE9=>mu (l.getD (k - 1) eg) (l.getD k eg) w9) rfl rfl λf h=>a6 h rfl (je ac h rfl ((Ia _ _).trans (by rw [h2];rfl)) λf h=>aq ac 2 h rfl λf h=>bQ s λw1 s=>ie h rfl (bF ac 1 h rfl λf h=>Y8 (bo (aV (aV (bo (aV (au rfl h s rfl (by show _=_;rw [pi hkl ((Sk h0 (Yr h1)).trans h2)]))))))))))))))))
     ·refine dF 17 h (by kernel_rfl) (ba 0 h s ja rfl rfl (cV _) rfl λf h=>bj h sO (λw9 hE9=>aX (.bool true) (gZ (l.getD k eg) w9) (Yu Value.bool h0)) rfl rfl λf h=>aq ac 3 h rfl λf h=>a6 h rfl (je ac h rfl (Yt (by have:=Yr h1;omega)) λf h=>aq ac 3 h rfl λf h=>a6 h rfl (ar h (eI (h.ev rfl) (h.ev rfl) (by omega)) rfl λf h=>a6 h rfl (ar h (bz (hR.keep s.ext) ((k - 1)) aa4 FK (h.ev rfl) (h.ev rfl) (by have:=Yr h1;omega) (by omega)) rfl λf h=>a6 h rfl (aY ((hR.keep s.ext).el ((k - 1)) (by omega) (by decide) (D:=bY (l.getD (k - 1) eg)) (yL l (k - 1) (by omega))) h ja rfl (cV _) rfl λf h=>a6 h rfl (ba 0 h s ja rfl rfl (cV _) rfl λf h=>a6 h rfl (bj h Hp (λw9 hE9=>mu (l.getD (k - 1) eg) (l.getD k eg) w9) rfl rfl λf h=>a6 h rfl (jf ac h rfl ((Ia _ _).trans (by rw [h2];rfl)) λf h=>aq ac 2 h rfl λf h=>bQ s λw1 s=>yV h rfl (wpIn_skip (bw (aO (aG (ai h (bS (h.ev rfl) (h.ev rfl) (by omega)) rfl λf h=>e9 ac 1 h rfl λf h=>?_)))))))))))))
      exact ⟨_,by omega,⟨k+1,h.only ⟨rfl,rfl,rfl,av rfl (by omega),trivial⟩,St.as (s.pick _ (YJ [_] _)) trivial,rfl,by omega,we hp1 ((Sk h0 (Yr h1)).trans h2)⟩⟩
    ·refine dF 17 h (by kernel_rfl) (ba 0 h s ja rfl rfl (cV _) rfl λf h=>bj h sO (λw9 hE9=>aX (.bool true) (gZ (l.getD k eg) w9) (Yu Value.bool h0)) rfl rfl λf h=>aq ac 3 h rfl λf h=>a6 h rfl (jf ac h rfl (Ys (by have:=Yq h1;omega)) λf h=>aq ac 11 h rfl λf h=>bQ s λw1 s=>yV h rfl (wpIn_skip (bw (aO (aG (ai h (bS (h.ev rfl) (h.ev rfl) (by omega)) rfl λf h=>e9 ac 1 h rfl λf h=>?_)))))))
     exact ⟨_,by omega,⟨k+1,h.only ⟨rfl,rfl,rfl,av rfl (by omega),trivial⟩,St.as (s.pick _ (YJ [_] _)) trivial,rfl,by omega,we hp1 (VN h0 (Yq h1))⟩⟩
  ·refine Za (a7 (a7 (cd (aO (bF ac 1 h rfl λf h=>Y8 (au rfl h s rfl (by first|(unfold iW;rw [Ys h32,Bool.and_false];rfl)|(obtain rfl:k=l.length:=(by omega);show _=_;rw [rR hp1];exact Yu Value.bool (Yt h32).symm))))))))
end Go.Proofs.YtkhepdpfdhdlaaaGreatDoor
