/- Package world and what it stands on, so far as it is wanted: what each function answers. -/
import Derived.Test.YtkhepdpfdhdlaaaGreatDoorCon
set_option linter.unusedVariables false
set_option linter.unusedSimpArgs false
set_option linter.unusedSectionVars false
namespace Go.Proofs.YtkhepdpfdhdlaaaGreatDoor
open Go.RowKit
set_option maxHeartbeats 1000000 in
theorem FL (X:Wx) (vo vs vh vl:Value)  (w:World) (hX:RdW w vo vs vh vl X) (hbL:X.L.length<=maxLen) (hbS:X.S.length<=maxLen) (hbH:X.H.length<=maxLen):Calls Tryz.prog 6 [.agg (dM vo vs vh vl X.M.last X.M.now)].toArray w (bW w (is (.bool (qk (ax X))))):=by
 unfold maxLen at hbL hbS hbH
 refine bG Tryz.func6 rfl Tryz.ntmps6 rfl λf h s=>qr (bh (dM vo vs vh vl X.M.last X.M.now) h s rfl rfl rfl λf w1 b1 h s=>e9 ac 1 h rfl λf h=>ah (cu ac 1 h rfl λf h=>ag (V:=vs) (ae (aJ.of_own s 0 rfl) 1 (zL _ _ _ _ _ _)) h kL rfl rfl λf h=>ce h (hX.sv.keep s.ext) Z9 rfl rfl λf h=>e9 ac 1 h rfl λf h=>Y9 (Zb (λnn aa ww=>∃ k:Nat,Sl 88 aa [(0,.agg (dM vo vs vh vl X.M.last X.M.now)),(1,.pointer (some ⟨b1,0,none⟩)),(10,vs),(11,.int .i64 (X.S.length:Int)),(12,.int .i64 (k:Int))]/\St w [.blk b1 (.cells (dM vo vs vh vl X.M.last X.M.now) 31)] ww/\nn=X.S.length - k/\k<=X.S.length/\∀ j,j<k->Ck (X.S.getD j er).1=false) (X.S.length - (0)) ⟨0,h.only ⟨rfl,rfl,rfl,rfl,av rfl (by omega),trivial⟩,s.as ⟨rfl,trivial⟩,rfl,YO _,λj hj=>ZF hj (Zl _)⟩ ?_)))
 rintro _ f w1 ⟨k,h,s,hnn,hp0,hp1⟩
 refine bF ac 1 h rfl λf h=>ah (dq h rfl (λhc=>?_) (λhc=>?_))
 ·refine kt (ah (Y9 (qr ?_)))
  have hkl:k<X.S.length:=by omega
  refine ai h (bz (hX.sv.keep s.ext) (k) Z9 A5 (h.ev rfl) (h.ev rfl) (by omega) (by omega)) rfl λf h=>aB ((hX.sv.keep s.ext).el (k) (by omega) (by decide) (D:=de (X.S.getD k er).1.no (X.S.getD k er).1.sec (X.S.getD k er).2) (MK _ k hkl)) h i8 rfl (cB _ _ _) rfl λf h=>aS (de 0 ByteArray.empty aj) h s zD rfl rfl λf w1 b4 h s=>ak 0 h s i8 rfl rfl rfl (cB _ _ _) (cB _ _ _) (kR _ _ (bf ((hX.sw _ (ga hkl)).keep s.ext))) λw1 s=>nt (ah ?_)
  refine rs ac 1 h rfl λf h=>ag (V:=(X.S.getD k er).2) (ae (aJ.of_own s 0 rfl) 2 (TN _ _ _)) h Ay rfl rfl λf h=>ce h ((hX.sw _ (ga hkl)).keep s.ext) aa4 rfl rfl λf h=>jo ac (Ck (X.S.getD k er).1) h rfl ((YE.2 (by omega))) (λs0 f h=>?_) (λs0 f h=>?_)
  ·refine yV h rfl (wpIn_skip (bw (aO (aG (ai h (bS (h.ev rfl) (h.ev rfl) (by omega)) rfl λf h=>e9 ac 1 h rfl λf h=>?_)))))
   exact ⟨_,by omega,⟨k+1,h.only ⟨rfl,rfl,rfl,rfl,av rfl (by omega),trivial⟩,St.as (s.pick _ (YJ [_] _)) ⟨rfl,trivial⟩,rfl,by omega,fm hp1 (s0)⟩⟩
  ·refine ie h rfl (bF ac 1 h rfl λf h=>Y8 (bo (aV (aV (bo (aV (au rfl h s rfl (by show _=_;rw [Q9 hkl s0]))))))))
 ·refine Za (a7 (a7 (cd (aO (ah (qr ?_))))))
  have hA:∀ j,j<X.S.length->Ck (X.S.getD j er).1=false:=λj hj=>hp1 j (by omega)
  refine ap ac 2 h rfl λf h=>ag (V:=vo) (ae (aJ.of_own s 0 rfl) 0 (uZ _ _ _ _ _ _)) h eG rfl rfl λf h=>ce h (hX.ov.1.keep s.ext) Z8 rfl rfl λf h=>e9 ac 1 h rfl λf h=>Y9 (Zb (λnn aa ww=>∃ k:Nat,Sl 88 aa [(0,.agg (dM vo vs vh vl X.M.last X.M.now)),(1,.pointer (some ⟨b1,0,none⟩)),(23,vo),(24,.int .i64 (X.L.length:Int)),(25,.int .i64 (k:Int))]/\St w [.blk b1 (.cells (dM vo vs vh vl X.M.last X.M.now) 31)] ww/\nn=X.L.length - k/\k<=X.L.length/\∀ j,j<k->u7 (X.L.getD j z3).1=false) (X.L.length - (0)) ⟨0,h.only ⟨rfl,rfl,rfl,rfl,av rfl (by omega),trivial⟩,s.as ⟨rfl,trivial⟩,rfl,YO _,λj hj=>ZF hj (Zl _)⟩ ?_)
  rintro _ f w1 ⟨k,h,s,hnn,hp0,hp1⟩
  refine bF ac 1 h rfl λf h=>ah (dq h rfl (λhc=>?_) (λhc=>?_))
  ·refine kt (ah (Y9 (qr ?_)))
   have hkl:k<X.L.length:=by omega
   refine ai h (bz (hX.ov.1.keep s.ext) (k) Z8 r4 (h.ev rfl) (h.ev rfl) (by omega) (by omega)) rfl λf h=>aB ((hX.ov.1.keep s.ext).el (k) (by omega) (by decide) (D:=bJ (X.L.getD k z3).1.me (X.L.getD k z3).1.pr (X.L.getD k z3).2.1 (X.L.getD k z3).2.2) (gz _ k hkl)) h fU rfl (bN _ _ _ _) rfl λf h=>aS (bJ bE bE aj aj) h s uG rfl rfl λf w1 b6 h s=>ak 0 h s fU rfl rfl rfl (bN _ _ _ _) (bN _ _ _ _) (ed (bf ((hX.ov.2 _ (cF hkl)).1.keep s.ext)) (bf ((hX.ov.2 _ (cF hkl)).2.keep s.ext))) λw1 s=>nt (ah ?_)
   refine rs ac 1 h rfl λf h=>ag (V:=(X.L.getD k z3).2.1) (ae (aJ.of_own s 0 rfl) 66 (mx _ _ _ _)) h eO rfl rfl λf h=>ce h ((hX.ov.2 _ (cF hkl)).1.keep s.ext) aa8 rfl rfl λf h=>jo ac (decide (6<(X.L.getD k z3).1.sc.length)) h rfl ((YE.2 (by omega))) (λq0 f h=>?_) (λq0 f h=>?_)
   ·skip
    refine ap ac 2 h rfl λf h=>bX h rfl (ag (V:=(X.L.getD k z3).2.2) (ae (aJ.of_own s 0 rfl) 67 (pw _ _ _ _)) h eO rfl rfl λf h=>bX h rfl (ce h ((hX.ov.2 _ (cF hkl)).2.keep s.ext) aa8 rfl rfl λf h=>bX h rfl (jo ac (decide (18<(X.L.getD k z3).1.fg.length)) h rfl ((YE.2 (by omega))) (λq1 f h=>?_) (λq1 f h=>?_))))
    ·refine e9 ac 1 h rfl λf h=>m4 h rfl (wpIn_skip (bw (aO (aG (ai h (bS (h.ev rfl) (h.ev rfl) (by omega)) rfl λf h=>e9 ac 1 h rfl λf h=>?_)))))
     exact ⟨_,by omega,⟨k+1,h.only ⟨rfl,rfl,rfl,rfl,av rfl (by omega),trivial⟩,St.as (s.pick _ (YJ [_] _)) ⟨rfl,trivial⟩,rfl,by omega,fm hp1 (by unfold u7;rw [q0,q1];rfl)⟩⟩
    ·refine e9 ac 1 h rfl λf h=>dQ h rfl (bF ac 1 h rfl λf h=>Y8 (bo (aV (aV (bo (aV (au rfl h s rfl (by show _=_;rw [LZ hkl (by unfold u7;rw [q0,q1]<;>rfl)]))))))))
   ·refine e9 ac 6 h rfl λf h=>dQ h rfl (bF ac 1 h rfl λf h=>Y8 (bo (aV (aV (bo (aV (au rfl h s rfl (by show _=_;rw [LZ hkl (by unfold u7;rw [q0]<;>rfl)]))))))))
  ·refine Za (a7 (a7 (cd (aO (ah (qr ?_))))))
   have hA2:∀ j,j<X.L.length->u7 (X.L.getD j z3).1=false:=λj hj=>hp1 j (by omega)
   refine ap ac 1 h rfl λf h=>ag (V:=vh) (ae (aJ.of_own s 0 rfl) 2 (yA _ _ _ _ _ _)) h jl rfl rfl λf h=>ce h (hX.ho.keep s.ext) aa0 rfl rfl λf h=>e9 ac 1 h rfl λf h=>Y9 (Zb (λnn aa ww=>∃ k:Nat,Sl 88 aa [(0,.agg (dM vo vs vh vl X.M.last X.M.now)),(1,.pointer (some ⟨b1,0,none⟩)),(41,vh),(42,.int .i64 (X.H.length:Int)),(43,.int .i64 (k:Int))]/\St w [.blk b1 (.cells (dM vo vs vh vl X.M.last X.M.now) 31)] ww/\nn=X.H.length - k/\k<=X.H.length/\∀ j,j<k->wS (X.H.getD j aD).1=false) (X.H.length - (0)) ⟨0,h.only ⟨rfl,rfl,rfl,rfl,av rfl (by omega),trivial⟩,s.as ⟨rfl,trivial⟩,rfl,YO _,λj hj=>ZF hj (Zl _)⟩ ?_)
   rintro _ f w1 ⟨k,h,s,hnn,hp0,hp1⟩
   refine bF ac 1 h rfl λf h=>ah (dq h rfl (λhc=>?_) (λhc=>?_))
   ·refine kt (ah (Y9 (qr ?_)))
    have hkl:k<X.H.length:=by omega
    refine ai h (bz (hX.ho.keep s.ext) (k) aa0 oR (h.ev rfl) (h.ev rfl) (by omega) (by omega)) rfl λf h=>aB ((hX.ho.keep s.ext).el (k) (by omega) (by decide) (D:=a8 (X.H.getD k aD).1.no (X.H.getD k aD).1.gt (X.H.getD k aD).2.1 (X.H.getD k aD).2.2.1 (X.H.getD k aD).2.2.2) (pE _ k hkl)) h dY rfl (aN _ _ _ _ _) rfl λf h=>aS (a8 0 0 aj aj aj) h s m8 rfl rfl λf w1 b8 h s=>ak 0 h s dY rfl rfl rfl (aN _ _ _ _ _) (aN _ _ _ _ _) (dE _ _ (bf ((hX.hw _ (cr hkl)).1.keep s.ext)) (bf ((hX.hw _ (cr hkl)).2.1.keep s.ext)) (bf ((hX.hw _ (cr hkl)).2.2.keep s.ext))) λw1 s=>nt (ah ?_)
    refine rs ac 1 h rfl λf h=>ag (V:=(X.H.getD k aD).2.1) (ae (aJ.of_own s 0 rfl) 2 (CW _ _ _ _ _)) h x5 rfl rfl λf h=>ce h ((hX.hw _ (cr hkl)).1.keep s.ext) aa5 rfl rfl λf h=>jo ac (decide (10<(X.H.getD k aD).1.ws.length)) h rfl ((YE.2 (by omega))) (λp0 f h=>?_) (λp0 f h=>?_)
    ·skip
     refine ap ac 2 h rfl λf h=>bX h rfl (ag (V:=(X.H.getD k aD).2.2.1) (ae (aJ.of_own s 0 rfl) 3 (xZ _ _ _ _ _)) h Al rfl rfl λf h=>bX h rfl (ce h ((hX.hw _ (cr hkl)).2.1.keep s.ext) aa6 rfl rfl λf h=>bX h rfl (jo ac (decide (10<(X.H.getD k aD).1.hs.length)) h rfl ((YE.2 (by omega))) (λp1 f h=>?_) (λp1 f h=>?_))))
     ·skip
      refine ap ac 3 h rfl λf h=>bX h rfl (ag (V:=(X.H.getD k aD).2.2.2) (ae (aJ.of_own s 0 rfl) 4 (Jh _ _ _ _ _)) h rj rfl rfl λf h=>bX h rfl (ce h ((hX.hw _ (cr hkl)).2.2.keep s.ext) aa7 rfl rfl λf h=>bX h rfl (jo ac (decide (34<(X.H.getD k aD).1.bx.length)) h rfl ((YE.2 (by omega))) (λp2 f h=>?_) (λp2 f h=>?_))))
      ·refine e9 ac 1 h rfl λf h=>m4 h rfl (wpIn_skip (bw (aO (aG (ai h (bS (h.ev rfl) (h.ev rfl) (by omega)) rfl λf h=>e9 ac 1 h rfl λf h=>?_)))))
       exact ⟨_,by omega,⟨k+1,h.only ⟨rfl,rfl,rfl,rfl,av rfl (by omega),trivial⟩,St.as (s.pick _ (YJ [_] _)) ⟨rfl,trivial⟩,rfl,by omega,fm hp1 (by unfold wS;rw [p0,p1,p2];rfl)⟩⟩
      ·refine e9 ac 1 h rfl λf h=>dQ h rfl (bF ac 1 h rfl λf h=>Y8 (bo (aV (aV (bo (aV (au rfl h s rfl (by show _=_;rw [DL hkl (by unfold wS;rw [p0,p1,p2]<;>rfl)]))))))))
     ·refine e9 ac 7 h rfl λf h=>dQ h rfl (bF ac 1 h rfl λf h=>Y8 (bo (aV (aV (bo (aV (au rfl h s rfl (by show _=_;rw [DL hkl (by unfold wS;rw [p0,p1]<;>rfl)]))))))))
    ·refine e9 ac 12 h rfl λf h=>dQ h rfl (bF ac 1 h rfl λf h=>Y8 (bo (aV (aV (bo (aV (au rfl h s rfl (by show _=_;rw [DL hkl (by unfold wS;rw [p0]<;>rfl)]))))))))
   ·refine Za (a7 (a7 (cd (aO (ah ?_)))))
    refine rs ac 1 h rfl λf h=>ag (V:=vs) (ae (aJ.of_own s 0 rfl) 1 (zL _ _ _ _ _ _)) h kL rfl rfl λf h=>ce h (hX.sv.keep s.ext) Z9 rfl rfl λf h=>jo ac (decide (18<X.S.length)) h rfl ((YE.2 (by omega))) (λe0 f h=>?_) (λe0 f h=>?_)
    ·skip
     refine ap ac 3 h rfl λf h=>bX h rfl (ag (V:=vo) (ae (aJ.of_own s 0 rfl) 0 (uZ _ _ _ _ _ _)) h eG rfl rfl λf h=>bX h rfl (ce h (hX.ov.1.keep s.ext) Z8 rfl rfl λf h=>bX h rfl (jo ac (decide (18<X.L.length)) h rfl ((YE.2 (by omega))) (λe1 f h=>?_) (λe1 f h=>?_))))
     ·skip
      refine ap ac 3 h rfl λf h=>bX h rfl (ag (V:=vh) (ae (aJ.of_own s 0 rfl) 2 (yA _ _ _ _ _ _)) h jl rfl rfl λf h=>bX h rfl (ce h (hX.ho.keep s.ext) aa0 rfl rfl λf h=>bX h rfl (jo ac (decide (18<X.H.length)) h rfl ((YE.2 (by omega))) (λe2 f h=>?_) (λe2 f h=>?_))))
      ·skip
       refine ap ac 4 h rfl λf h=>bX h rfl (ag (V:=vl) (ae (aJ.of_own s 0 rfl) 3 (uq _ _ _ _ _ _)) h gf rfl rfl λf h=>bX h rfl (ce h (hX.ml.keep s.ext) aa1 rfl rfl λf h=>bX h rfl (jo ac (decide (66<X.M.l.length)) h rfl ((YE.2 (by omega))) (λe3 f h=>?_) (λe3 f h=>?_))))
       ·refine e9 ac 2 h rfl λf h=>Y8 (au rfl h s rfl (by show _=_;rw [vz hA hA2 (λj hj=>hp1 j (by omega)),e0,e1,e2,e3];rfl))
       ·refine e9 ac 2 h rfl λf h=>Y8 (au rfl h s rfl (by show _=_;rw [vz hA hA2 (λj hj=>hp1 j (by omega)),e0,e1,e2,e3];rfl))
      ·refine e9 ac 9 h rfl λf h=>Y8 (au rfl h s rfl (by show _=_;rw [vz hA hA2 (λj hj=>hp1 j (by omega)),e0,e1,e2];rfl))
     ·refine e9 ac 15 h rfl λf h=>Y8 (au rfl h s rfl (by show _=_;rw [vz hA hA2 (λj hj=>hp1 j (by omega)),e0,e1];rfl))
    ·refine e9 ac 21 h rfl λf h=>Y8 (au rfl h s rfl (by show _=_;rw [vz hA hA2 (λj hj=>hp1 j (by omega)),e0];rfl))
theorem mL (x:Id) (w:World):Calls Tryz.prog 28 [lx x].toArray w (bW w (is (.bool (jh x)))):=by
 refine bG Tryz.func28 rfl Tryz.ntmps28 rfl λf h s=>qr (bh (aA x) h s rfl rfl rfl λf w1 b1 h s=>e9 ac 1 h rfl λf h=>ah (qr (ai h (nZ (16) ZG gW (h.ev rfl) (h.ev rfl) (by omega) (by omega)) rfl λf h=>ce h (bp.of_has (aJ.subL (o:=0) (aJ.of_own s 0 rfl) 16 16 (D:=((d4 x).drop 16).toArray) (Gt x)) (m6 x) (YM _)) ac5 rfl rfl λf h=>e9 ac 1 h rfl λf h=>Y9 (Zb (λnn aa ww=>∃ k:Nat,Sl 14 aa [(0,lx x),(1,.pointer (some ⟨b1,0,none⟩)),(5,.slice (some ⟨b1,16,none⟩) 16 16),(6,.int .i64 16),(7,.int .i64 (k:Int))]/\St w [.blk b1 (.cells (aA x) 33)] ww/\nn=16 - k/\k<=16/\∀ j,j<k->bu x (j+16)=255) (16 - (0)) ⟨0,h.only ⟨rfl,rfl,rfl,rfl,av rfl (by omega),trivial⟩,s.as ⟨rfl,trivial⟩,rfl,YO _,λj hj=>ZF hj (Zl _)⟩ ?_))))
 rintro _ f w1 ⟨k,h,s,hnn,hp0,hp1⟩
 refine bF ac 1 h rfl λf h=>ah (dq h rfl (λhc=>?_) (λhc=>?_))
 ·refine kt (ah (Y9 (qr ?_)))
  have hk16:k<16:=by omega
  refine ai h (bz (bp.of_has (aJ.subL (o:=0) (aJ.of_own s 0 rfl) 16 16 (D:=((d4 x).drop 16).toArray) (Gt x)) (m6 x) (YM _)) (k) ac5 Vw (h.ev rfl) (h.ev rfl) (by omega) (by omega)) rfl λf h=>ag ((bp.of_has (aJ.subL (o:=0) (aJ.of_own s 0 rfl) 16 16 (D:=((d4 x).drop 16).toArray) (Gt x)) (m6 x) (YM _)).el1 (k) (V:=.int .u8 (bu x (k+16):Int)) (G7 x hk16)) h oJ rfl rfl λf h=>e9 ac 1 h rfl λf h=>bF ac 2 h rfl λf h=>dq h rfl (λhc=>?_) (λhc=>?_)
  ·refine bF ac 1 h rfl λf h=>Y8 (bo (aV (aV (bo (aV (au rfl h s rfl (by show _=_;rw [Lc (k:=k) (by omega) (by simp at hc;omega)])))))))
  ·refine wpIn_skip (bw (aO (aG (ai h (bS (h.ev rfl) (h.ev rfl) (by omega)) rfl λf h=>e9 ac 1 h rfl λf h=>?_))))
   exact ⟨_,by omega,⟨k+1,h.only ⟨rfl,rfl,rfl,rfl,av rfl (by omega),trivial⟩,St.as s ⟨rfl,trivial⟩,rfl,by omega,fm hp1 (by simp at hc;omega)⟩⟩
 ·refine Za (a7 (a7 (cd (aO (bF ac 1 h rfl λf h=>Y8 (au rfl h s rfl (by show _=_;rw [Kk (λj hj=>hp1 j (by omega))])))))))
def F0:List (Int × Value):=[(1,.func (.func 34) #[] #[]),(2,.func (.func 35) #[] #[]),(3,.func (.func 36) #[] #[]),(4,.func (.func 37) #[] #[]),(5,.func (.func 38) #[] #[]),(6,.func (.func 39) #[] #[]),(7,.func (.func 40) #[] #[]),(8,.func (.func 41) #[] #[]),(9,.func (.func 42) #[] #[]),(10,.func (.func 43) #[] #[]),(11,.func (.func 44) #[] #[]),(12,.func (.func 45) #[] #[]),(13,.func (.func 46) #[] #[]),(14,.func (.func 47) #[] #[]),(15,.func (.func 48) #[] #[])]
set_option maxHeartbeats 1000000 in
theorem Cr  (w:World):Calls Tryz.prog 18 [].toArray w (bW w (λv w'=>∃ b,v=.map (some b)/\St w [.blk b (WT F0)] w')):=by
 refine bG Tryz.func18 rfl Tryz.ntmps18 rfl λf h s=>bF ac 1 h rfl λf h=>qr (ri h s rfl ?_);intro f w1 b1 h s
 refine ci 0 h s ac7 Z5 (by exact rfl) rfl rfl rfl rfl (by rfl) ?_;intro w1 s
 refine ci 0 h s ac7 Z5 (by exact rfl) rfl rfl rfl rfl (by rfl) ?_;intro w1 s
 refine ci 0 h s ac7 Z5 (by exact rfl) rfl rfl rfl rfl (by rfl) ?_;intro w1 s
 refine ci 0 h s ac7 Z5 (by exact rfl) rfl rfl rfl rfl (by rfl) ?_;intro w1 s
 refine ci 0 h s ac7 Z5 (by exact rfl) rfl rfl rfl rfl (by rfl) ?_;intro w1 s
 refine ci 0 h s ac7 Z5 (by exact rfl) rfl rfl rfl rfl (by rfl) ?_;intro w1 s
 refine ci 0 h s ac7 Z5 (by exact rfl) rfl rfl rfl rfl (by rfl) ?_;intro w1 s
 refine ci 0 h s ac7 Z5 (by exact rfl) rfl rfl rfl rfl (by rfl) ?_;intro w1 s
 refine ci 0 h s ac7 Z5 (by exact rfl) rfl rfl rfl rfl (by rfl) ?_;intro w1 s
 refine ci 0 h s ac7 Z5 (by exact rfl) rfl rfl rfl rfl (by rfl) ?_;intro w1 s
 refine ci 0 h s ac7 Z5 (by exact rfl) rfl rfl rfl rfl (by rfl) ?_;intro w1 s
 refine ci 0 h s ac7 Z5 (by exact rfl) rfl rfl rfl rfl (by rfl) ?_;intro w1 s
 refine ci 0 h s ac7 Z5 (by exact rfl) rfl rfl rfl rfl (by rfl) ?_;intro w1 s
 refine ci 0 h s ac7 Z5 (by exact rfl) rfl rfl rfl rfl (by rfl) ?_;intro w1 s
 refine ci 0 h s ac7 Z5 (by exact rfl) rfl rfl rfl rfl (by rfl) ?_;intro w1 s
 refine e9 ac 2 h rfl λf h=>Y8 (au rfl h s rfl (⟨b1,rfl,s.sel [0] rfl (by decide)⟩))
theorem IG (l:List V2) (hln:l.length<=1000) (a9:Option Addr) (n9 c9:Nat) (w:World) (hR:bp w (.slice a9 n9 c9) 3 l.length (aQ l)) (hx9:∀ x∈l,x.2.oneCell'=true):Calls Tryz.prog 51 [.slice a9 n9 c9].toArray w (bW w (λv w'=>cq w' w.heap.size 46 3 v l.length (aQ l))):=by
 refine bG Tryz.func51 rfl Tryz.ntmps51 rfl λf h s=>bF ac 1 h rfl λf h=>ah (ah ?_)
 cases hn:(a9.isNone:Bool)
 ·refine rs ac 1 h rfl λf h=>ai h (bq (.bool false) (bR Z9 (h.ev rfl) (h.ev rfl)) (Yu Value.bool hn)) rfl λf h=>f7 h rfl (qr (ej (base:=w.heap.size) h Z9 A2 (YM _) rfl λf w2 v5 h hE3 e5=>ap ac 1 h rfl λf h=>dh (base:=w.heap.size) e5 (hR.keep hE3) h Z9 A2 rfl rfl hE3.le (ub hx9) (by unfold maxLen;omega) (by omega) rfl λf w3 v7 h hE4 e7=>?_))
  replace s:=s.sl_new (hE3.trans hE4) e7
  refine e9 ac 1 h rfl λf h=>Y8 (au rfl h s rfl (s.getSl 0 rfl))
 ·refine rs ac 1 h rfl λf h=>ai h (bq (.bool true) (bR Z9 (h.ev rfl) (h.ev rfl)) (Yu Value.bool hn)) rfl λf h=>ie h rfl (bF ac 1 h rfl λf h=>rt (au rfl h s rfl (by obtain rfl:=fO hn hR;exact dT _ _ _ _)))
theorem HW (l:List V2) (hln:l.length<=1000) (v9:Value) (w:World) (hR:bp w v9 3 l.length (aQ l)) (hx9:∀ x∈l,x.2.oneCell'=true):Calls Tryz.prog 51 [v9].toArray w (bW w (λv w'=>cq w' w.heap.size 46 3 v l.length (aQ l))):=by
 obtain ⟨a,c,rfl⟩:=hR.len
 exact IG l hln a _ c w hR hx9
theorem Lb (l:List H4) (hln:l.length<=1000) (a9:Option Addr) (n9 c9:Nat) (w:World) (hR:bp w (.slice a9 n9 c9) 5 l.length (aC l)) (hx9:∀ x∈l,x.2.1.oneCell'=true/\x.2.2.1.oneCell'=true/\x.2.2.2.oneCell'=true):Calls Tryz.prog 53 [.slice a9 n9 c9].toArray w (bW w (λv w'=>cq w' w.heap.size 66 5 v l.length (aC l))):=by
 refine bG Tryz.func53 rfl Tryz.ntmps53 rfl λf h s=>bF ac 1 h rfl λf h=>ah (ah ?_)
 cases hn:(a9.isNone:Bool)
 ·refine rs ac 1 h rfl λf h=>ai h (bq (.bool false) (bR aa0 (h.ev rfl) (h.ev rfl)) (Yu Value.bool hn)) rfl λf h=>f7 h rfl (qr (ej (base:=w.heap.size) h aa0 Bj (YM _) rfl λf w2 v5 h hE3 e5=>ap ac 1 h rfl λf h=>dh (base:=w.heap.size) e5 (hR.keep hE3) h aa0 Bj rfl rfl hE3.le (uC hx9) (by unfold maxLen;omega) (by omega) rfl λf w3 v7 h hE4 e7=>?_))
  replace s:=s.sl_new (hE3.trans hE4) e7
  refine e9 ac 1 h rfl λf h=>Y8 (au rfl h s rfl (s.getSl 0 rfl))
 ·refine rs ac 1 h rfl λf h=>ai h (bq (.bool true) (bR aa0 (h.ev rfl) (h.ev rfl)) (Yu Value.bool hn)) rfl λf h=>ie h rfl (bF ac 1 h rfl λf h=>rt (au rfl h s rfl (by obtain rfl:=fO hn hR;exact dT _ _ _ _)))
theorem Hd (l:List H4) (hln:l.length<=1000) (v9:Value) (w:World) (hR:bp w v9 5 l.length (aC l)) (hx9:∀ x∈l,x.2.1.oneCell'=true/\x.2.2.1.oneCell'=true/\x.2.2.2.oneCell'=true):Calls Tryz.prog 53 [v9].toArray w (bW w (λv w'=>cq w' w.heap.size 66 5 v l.length (aC l))):=by
 obtain ⟨a,c,rfl⟩:=hR.len
 exact Lb l hln a _ c w hR hx9
theorem IJ (l:List Wn) (hln:l.length<=1000) (a9:Option Addr) (n9 c9:Nat) (w:World) (hR:bp w (.slice a9 n9 c9) 33 l.length (cn l)):Calls Tryz.prog 54 [.slice a9 n9 c9].toArray w (bW w (λv w'=>cq w' w.heap.size 109 33 v l.length (cn l))):=by
 refine bG Tryz.func54 rfl Tryz.ntmps54 rfl λf h s=>bF ac 1 h rfl λf h=>ah (ah ?_)
 cases hn:(a9.isNone:Bool)
 ·refine rs ac 1 h rfl λf h=>ai h (bq (.bool false) (bR aa5 (h.ev rfl) (h.ev rfl)) (Yu Value.bool hn)) rfl λf h=>f7 h rfl (qr (ej (base:=w.heap.size) h aa5 HM (YM _) rfl λf w2 v5 h hE3 e5=>ap ac 1 h rfl λf h=>dh (base:=w.heap.size) e5 (hR.keep hE3) h aa5 HM rfl rfl hE3.le (tM _) (by unfold maxLen;omega) (by omega) rfl λf w3 v7 h hE4 e7=>?_))
  replace s:=s.sl_new (hE3.trans hE4) e7
  refine e9 ac 1 h rfl λf h=>Y8 (au rfl h s rfl (s.getSl 0 rfl))
 ·refine rs ac 1 h rfl λf h=>ai h (bq (.bool true) (bR aa5 (h.ev rfl) (h.ev rfl)) (Yu Value.bool hn)) rfl λf h=>ie h rfl (bF ac 1 h rfl λf h=>rt (au rfl h s rfl (by obtain rfl:=fO hn hR;exact dT _ _ _ _)))
theorem H6 (l:List Wn) (hln:l.length<=1000) (v9:Value) (w:World) (hR:bp w v9 33 l.length (cn l)):Calls Tryz.prog 54 [v9].toArray w (bW w (λv w'=>cq w' w.heap.size 109 33 v l.length (cn l))):=by
 obtain ⟨a,c,rfl⟩:=hR.len
 exact IJ l hln a _ c w hR
theorem Lp (l:List Hn) (hln:l.length<=1000) (a9:Option Addr) (n9 c9:Nat) (w:World) (hR:bp w (.slice a9 n9 c9) 34 l.length (cm l)):Calls Tryz.prog 55 [.slice a9 n9 c9].toArray w (bW w (λv w'=>cq w' w.heap.size 112 34 v l.length (cm l))):=by
 refine bG Tryz.func55 rfl Tryz.ntmps55 rfl λf h s=>bF ac 1 h rfl λf h=>ah (ah ?_)
 cases hn:(a9.isNone:Bool)
 ·refine rs ac 1 h rfl λf h=>ai h (bq (.bool false) (bR aa6 (h.ev rfl) (h.ev rfl)) (Yu Value.bool hn)) rfl λf h=>f7 h rfl (qr (ej (base:=w.heap.size) h aa6 HI (YM _) rfl λf w2 v5 h hE3 e5=>ap ac 1 h rfl λf h=>dh (base:=w.heap.size) e5 (hR.keep hE3) h aa6 HI rfl rfl hE3.le (tT _) (by unfold maxLen;omega) (by omega) rfl λf w3 v7 h hE4 e7=>?_))
  replace s:=s.sl_new (hE3.trans hE4) e7
  refine e9 ac 1 h rfl λf h=>Y8 (au rfl h s rfl (s.getSl 0 rfl))
 ·refine rs ac 1 h rfl λf h=>ai h (bq (.bool true) (bR aa6 (h.ev rfl) (h.ev rfl)) (Yu Value.bool hn)) rfl λf h=>ie h rfl (bF ac 1 h rfl λf h=>rt (au rfl h s rfl (by obtain rfl:=fO hn hR;exact dT _ _ _ _)))
theorem D7 (l:List Hn) (hln:l.length<=1000) (v9:Value) (w:World) (hR:bp w v9 34 l.length (cm l)):Calls Tryz.prog 55 [v9].toArray w (bW w (λv w'=>cq w' w.heap.size 112 34 v l.length (cm l))):=by
 obtain ⟨a,c,rfl⟩:=hR.len
 exact Lp l hln a _ c w hR
theorem wO (x:V2)  (w:World) (hx9:x.2.oneCell'=true):Calls Tryz.prog 76 [.agg (de x.1.no x.1.sec x.2)].toArray w (bW w (is (.int .i64 x.1.no))):=by
 refine bG Tryz.func76 rfl Tryz.ntmps76 rfl λf h s=>qr (bh (de x.1.no x.1.sec x.2) h s rfl rfl rfl λf w1 b1 h s=>e9 ac 1 h rfl λf h=>cu ac 1 h rfl λf h=>ag (V:=.int .i64 x.1.no) (ae (aJ.of_own s 0 rfl) 0 (ED _ _ _)) h bs rfl rfl λf h=>e9 ac 1 h rfl λf h=>Y8 (au rfl h s rfl (rfl)))
theorem o8 (x:H4)  (w:World) (hx9:x.2.1.oneCell'=true/\x.2.2.1.oneCell'=true/\x.2.2.2.oneCell'=true):Calls Tryz.prog 88 [.agg (a8 x.1.no x.1.gt x.2.1 x.2.2.1 x.2.2.2)].toArray w (bW w (is (.int .i64 x.1.no))):=by
 refine bG Tryz.func88 rfl Tryz.ntmps88 rfl λf h s=>qr (bh (a8 x.1.no x.1.gt x.2.1 x.2.2.1 x.2.2.2) h s rfl rfl rfl λf w1 b1 h s=>e9 ac 1 h rfl λf h=>cu ac 1 h rfl λf h=>ag (V:=.int .i64 x.1.no) (ae (aJ.of_own s 0 rfl) 0 (CH _ _ _ _ _)) h bs rfl rfl λf h=>e9 ac 1 h rfl λf h=>Y8 (au rfl h s rfl (rfl)))
theorem zT (l:List H4) (vh:Value) (no:Int) (w:World) (hR:bp w vh 5 l.length (aC l)) (ho:∀ x∈l,x.2.1.oneCell'=true/\x.2.2.1.oneCell'=true/\x.2.2.2.oneCell'=true) (hln:l.length<=1000):Calls Tryz.prog 146 [vh,.int .i64 no,.func (.func 88) #[] #[]].toArray w (bW w (is (qD (λx:H4=>x.1.no) 5 vh l no))):=by
 refine bG Tryz.func146 rfl Tryz.ntmps146 rfl λf h s=>bF ac 1 h rfl λf h=>ah (cu ac 1 h rfl λf h=>ce h (hR.keep s.ext) aa0 rfl rfl λf h=>e9 ac 1 h rfl λf h=>Y9 (Zb (λnn aa ww=>∃ k:Nat,Sl 25 aa [(0,vh),(1,.int .i64 no),(2,.func (.func 88) #[] #[]),(8,vh),(9,.int .i64 (l.length:Int)),(10,.int .i64 (k:Int))]/\St w [] ww/\nn=l.length - k/\k<=l.length/\∀ j,j<k->decide ((l.getD j aD).1.no=no)=false) (l.length - (0)) ⟨0,h.only ⟨rfl,rfl,rfl,rfl,rfl,av rfl (by omega),trivial⟩,s.as trivial,rfl,YO _,λj hj=>ZF hj (Zl _)⟩ ?_))
 rintro _ f w1 ⟨k,h,s,hnn,hp0,hp1⟩
 refine bF ac 1 h rfl λf h=>ah (dq h rfl (λhc=>?_) (λhc=>?_))
 ·refine kt (ah (Y9 (qr ?_)))
  have hkl:k<l.length:=by omega
  refine e9 ac 2 h rfl λf h=>cu ac 3 h rfl λf h=>ai h (bz (hR.keep s.ext) (k) aa0 oR (h.ev rfl) (h.ev rfl) (by omega) (by omega)) rfl λf h=>aB ((hR.keep s.ext).el (k) (by omega) (by decide) (D:=a8 (l.getD k aD).1.no (l.getD k aD).1.gt (l.getD k aD).2.1 (l.getD k aD).2.2.1 (l.getD k aD).2.2.2) (pE _ k hkl)) h dY rfl (aN _ _ _ _ _) rfl λf h=>fP [.agg (a8 (l.getD k aD).1.no (l.getD k aD).1.gt (l.getD k aD).2.1 (l.getD k aD).2.2.1 (l.getD k aD).2.2.2)] (caps:=[]) h s Ge rfl (o8 (l.getD k aD) _ (ho _ (cr hkl))) rfl rfl ?_;intro f w1 v18 hT hE h s;obtain rfl:=hT
  refine e9 ac 2 h rfl λf h=>cA h rfl (λhc=>?_) (λhc=>?_)
  ·have c0:=hc
   refine cu ac 2 h rfl λf h=>ai h (bz (hR.keep s.ext) (k) aa0 oR (h.ev rfl) (h.ev rfl) (by omega) (by omega)) rfl λf h=>e9 ac 1 h rfl λf h=>Y8 (bo (aV (aV (bo (aV (au rfl h s rfl (by show _=_;rw [Qu aD hkl hp1 c0])))))))
  ·have c0:=hc
   refine wpIn_skip (bw (aO (aG (ai h (bS (h.ev rfl) (h.ev rfl) (by omega)) rfl λf h=>e9 ac 1 h rfl λf h=>?_))))
   exact ⟨_,by omega,⟨k+1,h.only ⟨rfl,rfl,rfl,rfl,rfl,av rfl (by omega),trivial⟩,St.as s trivial,rfl,by omega,fm hp1 c0⟩⟩
 ·refine Za (a7 (a7 (cd (aO (bF ac 1 h rfl λf h=>Y8 (au rfl h s rfl (by show _=_;rw [Py aD (by omega) hp1])))))))
theorem hQ (vo vs vh vl vn:Value) (la nw:Int) (bc:Nat) (l:List H4) (no:Int) (w:World) (hb:iF w bc (ef vo vs vh vl la nw vn)) (hR:bp w vh 5 l.length (aC l)) (ho:∀ x∈l,x.2.1.oneCell'=true/\x.2.2.1.oneCell'=true/\x.2.2.2.oneCell'=true) (hln:l.length<=1000):Calls Tryz.prog 86 [.pointer (some ⟨bc,0,none⟩),.int .i64 no].toArray w (bW w (is (qD (λx:H4=>x.1.no) 5 vh l no))):=by
 refine bG Tryz.func86 rfl Tryz.ntmps86 rfl λf h s=>bF ac 1 h rfl λf h=>cu ac 4 h rfl λf h=>ag (V:=vh) (ae (aJ.of_tab (hb.keep s.ext)) 2 (rfl)) h jl rfl rfl λf h=>ap ac 1 h rfl λf h=>da h s OZ (zT l vh no _ (hR.keep s.ext) ho hln) rfl rfl λf w1 h s=>e9 ac 1 h rfl λf h=>Y8 (au rfl h s rfl (rfl))
theorem rl (n:Int) (h0:0<=n/\n<=1000) (w:World):Calls Tryz.prog 93 [.int .i64 n].toArray w (bW w (is (.int .i64 (16+n)))):=by
 refine bG Tryz.func93 rfl Tryz.ntmps93 rfl λf h s=>bF ac 1 h rfl λf h=>cu ac 1 h rfl λf h=>ai h (bq (.int .i64 (16+n)) (bS (h.ev rfl) (h.ev rfl) (by omega)) (rfl)) rfl λf h=>e9 ac 1 h rfl λf h=>Y8 (au rfl h s rfl (rfl))
theorem Cv (x:Se) (us:Value) (fr:Int) (bc:Nat) (h0:0<=x.1)  (w:World) (h1:us.oneCell'=true):Calls Tryz.prog 221 [.pointer (some ⟨bc,0,none⟩),.int .i64 fr,.agg (bK x.1 x.2.1 us x.2.2)].toArray w (bW w (is (.tuple #[.int .i64 x.1,.int .i64 0]))):=by
 refine bG Tryz.func221 rfl Tryz.ntmps221 rfl λf h s=>qr (bh (bK x.1 x.2.1 us x.2.2) h s rfl rfl rfl λf w1 b5 h s=>e9 ac 2 h rfl λf h=>ah (cu ac 1 h rfl λf h=>ag (V:=.int .i64 x.1) (ae (aJ.of_own s 0 rfl) 0 (R7 _ _ _ _)) h bs rfl rfl λf h=>gO ac h rfl (Yt (by omega)) λf h=>ie h rfl (cu ac 1 h rfl λf h=>ag (V:=.int .i64 x.1) (ae (aJ.of_own s 0 rfl) 0 (R7 _ _ _ _)) h bs rfl rfl λf h=>e9 ac 2 h rfl λf h=>rt (lr rfl h s rfl rfl (rfl)))))
set_option maxHeartbeats 1000000 in
theorem rx (vo vs vh vl vn:Value) (X:Wx) (N:List Nt) (kk:List Nat) (bc:Nat) (B9:List Own) (x:Nt) (w0 w:World) (s:St w0 (.blk bc (.cells (ef vo vs vh vl X.M.last X.M.now vn) 83)::.sl vn 59 74 N.length (aH N)::.grp kk (λw9=>RdC w9 vo vl X)::B9) w) (hNl:N.length<=100000):Calls Tryz.prog 95 [.pointer (some ⟨bc,0,none⟩),.agg (qA x.k x.tm x.no x.wa x.le x.tr x.d x.y)].toArray w (λe w9=>∃ v,e=.returned v/\∃ vm,St w0 (.blk bc (.cells (ef vo vs vh vl X.M.last X.M.now vm) 83)::.sl vm 59 74 (N++[({x with tm:=X.M.now}:Nt)]).length (aH (N++[({x with tm:=X.M.now}:Nt)]))::.grp kk (λw9=>RdC w9 vo vl X)::B9) w9):=by
 refine dG Tryz.func95 rfl Tryz.ntmps95 rfl [(0,.pointer (some ⟨bc,0,none⟩)),(1,.agg (qA x.k x.tm x.no x.wa x.le x.tr x.d x.y))] (by simp) λf h=>?_
 refine qr (bh (qA x.k x.tm x.no x.wa x.le x.tr x.d x.y) h s rfl rfl rfl λf w1 b3 h s=>nt (cu ac 5 h rfl λf h=>ag (V:=.int .i64 X.M.now) (ae (aJ.of_own s 1 rfl) 5 (GZ _ _ _ _ _ _ _)) h bs rfl rfl λf h=>ap ac 1 h rfl λf h=>aR 0 h s bs rfl rfl rfl (by rw [pa];omega) (rfl) λw1 s=>?_))
 replace s:=s.recell (D:=qA x.k (X.M.now) x.no x.wa x.le x.tr x.d x.y) 0 rfl (rfl)
 refine nt ?_
 replace s:=s.bring 2 rfl
 replace s:St w0 (.sl vn 59 74 N.length (aH N)::.blk b3 (.cells (qA x.k (X.M.now) x.no x.wa x.le x.tr x.d x.y) 59)::.blk bc (.cells (ef vo vs vh vl X.M.last X.M.now vn) 83)::(.grp kk (λw9=>RdC w9 vo vl X))::B9) _:=s
 refine eu 1 8 [[],[],[1],[1,2],[1,2,3],[],[5],[1,2,3,4,5,6],[0,1,2,3,4,5,6,7],[0,1,2,3,4,5,6,7,8],[0,1,2,3,4,5,6,7,8,9]] [[],[],[],[],[],[],[],[6,11],[],[],[]] [[_]] [.v _,.v _,.v _,.v _,.v vn,.v (.agg (qA x.k (X.M.now) x.no x.wa x.le x.tr x.d x.y)),.m (λv=>[.sl (v 6) 59 74 1 (aH [({x with tm:=X.M.now}:Nt)])]),.m (λv=>[.sl (v 7) 59 74 (N++[({x with tm:=X.M.now}:Nt)]).length (aH (N++[({x with tm:=X.M.now}:Nt)]))]),.n,.n,.n] _ h s rfl (by kernel_rfl) (by kernel_rfl) (by kernel_rfl) (fB ac h rfl rfl rfl (fB ac h rfl rfl rfl (fB ac h rfl rfl rfl (fB ac h rfl rfl rfl (cp ?_ (cp ?_ (cp ?_ (cp ?_ (trivial))))))))) [0,1,2,3,4,5,7] (by kernel_rfl) ?_
 ·intro f9 w2 vl2 E9 hs9 hd9 hl hF s
  have h:=cG [(14,_)] h hs9 hd9 ⟨bg hl 14 3 (by kernel_rfl) (hF 3 (by decide)),trivial⟩
  refine ag (V:=vn) (ae (aJ.of_own s 1 rfl) 6 (Rh _ _ _ _ _ _ _)) h EX rfl rfl λf h=>ay ⟨_,bk 15 h rfl rfl,rfl,s⟩
 ·intro f9 w2 vl2 E9 hs9 hd9 hl hF s
  have h:=cG [(3,_)] h hs9 hd9 ⟨fh hl 3 (by kernel_rfl) (h.holds 3 _ rfl),trivial⟩
  refine al 0 h s Uo rfl rfl (pa _ _ _ _ _ _ _ _) rfl λf h=>ay ⟨_,bk 16 h rfl rfl,rfl,s⟩
 ·intro f9 w2 vl2 E9 hs9 hd9 hl hF s
  have h:=cG [(16,_)] h hs9 hd9 ⟨bg hl 16 5 (by kernel_rfl) (hF 5 (by decide)),trivial⟩
  refine cT (vs:=[.agg (qA x.k (X.M.now) x.no x.wa x.le x.tr x.d x.y)]) [.tmp 16] h s aa3 M1 rfl rfl (λv hv=>by rw [YF.1 hv];exact pa ..) rfl rfl rfl λf w1 v17 h s=>?_
  replace s:=s.resl (m:=1) (ys:=aH [({x with tm:=X.M.now}:Nt)]) 0 rfl rfl (by exact O1 [] ({x with tm:=X.M.now}:Nt))
  exact ay ⟨_,bk 17 h rfl rfl,trivial,s⟩
 ·intro f9 w2 vl2 E9 hs9 hd9 hl hF s
  have e15:f9.tmps.getD 15 undef=vn:=(du hl 15 4 (by kernel_rfl) (by kernel_rfl)).trans (hF 4 (by decide))
  have e17:f9.tmps.getD 17 undef=(vl2 6):=du hl 17 6 (by kernel_rfl) (by kernel_rfl)
  have h:=cU [(15,vn),(17,(vl2 6))] (hs9.trans h.size) (hd9.trans h.defers) (holds_lk ⟨e15,e17,trivial⟩)
  refine ei 1 0 h s aa3 M1 rfl rfl rfl rfl (by decide) (tq [({x with tm:=X.M.now}:Nt)]) (by unfold maxLen;omega) (by omega) rfl λf w1 v18 h s=>?_
  replace s:=s.pick _ (YN _ _)
  replace s:=s.resl (m:=(N++[({x with tm:=X.M.now}:Nt)]).length) (ys:=aH (N++[({x with tm:=X.M.now}:Nt)])) 0 rfl (by rw [Yy];rfl) (by rw [nv])
  exact ay ⟨_,bk 18 h rfl rfl,trivial,s⟩
 intro f w1 vl2 hs9 hd9 hv hr hF s
 replace hv:=λi d h9=>hv i d (show Nat.blt i 8=true from h9)
 replace h:=dN 8 (ops:=_) [(11,_),(12,_),(13,_),(14,_),(15,_),(16,_),(17,(vl2 6)),(18,(vl2 7))] h hs9 hd9 hr ⟨(hv 0 11 rfl rfl).trans (hF 0 rfl),(hv 1 12 rfl rfl).trans (hF 1 rfl),(hv 2 13 rfl rfl).trans (hF 2 rfl),(hv 3 14 rfl rfl).trans (hF 3 rfl),(hv 4 15 rfl rfl).trans (hF 4 rfl),(hv 5 16 rfl rfl).trans (hF 5 rfl),hv 6 17 rfl rfl,hv 7 18 rfl rfl,trivial⟩ (by kernel_rfl)
 replace s:St w0 (.sl (vl2 7) 59 74 (N++[({x with tm:=X.M.now}:Nt)]).length (aH (N++[({x with tm:=X.M.now}:Nt)]))::.blk b3 (.cells (qA x.k (X.M.now) x.no x.wa x.le x.tr x.d x.y) 59)::.blk bc (.cells (ef vo vs vh vl X.M.last X.M.now vn) 83)::(.grp kk (λw9=>RdC w9 vo vl X))::B9) _:=s
 refine ap ac 2 h rfl λf h=>aR 2 h s EX rfl rfl rfl (by rw [gx];omega) (bA (s.getSl 0 rfl)) λw1 s=>?_
 replace s:=s.recell (D:=ef vo vs vh vl X.M.last X.M.now (vl2 7)) 2 rfl (rfl)
 refine ay ?_
 exact gP rfl h (by replace s:=s.bring 3 rfl;replace s:=s.bring 1 rfl;replace s:=s.bring 3 rfl;exact ⟨_,rfl,_,(s.pick _ (Yo _ (Yo _ (Yo _ (Yp _ (List.Sublist.refl _))))))⟩)
end Go.Proofs.YtkhepdpfdhdlaaaGreatDoor
