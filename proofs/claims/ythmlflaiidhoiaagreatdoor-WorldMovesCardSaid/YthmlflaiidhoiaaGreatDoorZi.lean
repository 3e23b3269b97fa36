/- Package world: what its functions answer. -/
import Derived.Test.YthmlflaiidhoiaaGreatDoorCon
set_option linter.unusedSimpArgs false
set_option linter.unusedVariables false
namespace Go.Proofs.YthmlflaiidhoiaaGreatDoor
open Go.RowKit
set_option maxHeartbeats 1000000 in
theorem MI (X:Wx) (vo vs vh vl:Value)  (w:World) (hX:RdW w vo vs vh vl X) (hbL:X.L.length<=maxLen) (hbS:X.S.length<=maxLen) (hbH:X.H.length<=maxLen):Calls Tryz.prog 11 [.agg (fA vo vs vh vl X.M.last X.M.now)].toArray w (cb w (is (.bool (oi (aC X))))):=by
 unfold maxLen at hbL hbS hbH
 refine bK Tryz.func11 rfl Tryz.ntmps11 rfl λf h s=>qr (aV (fA vo vs vh vl X.M.last X.M.now) h s rfl rfl rfl λf w1 b1 h s=>e9 ac 1 h rfl λf h=>ah (bU ac 1 h rfl λf h=>ag (V:=vs) (ae (aJ.of_own s 0 rfl) 1 (vA _ _ _ _ _ _)) h ij rfl rfl λf h=>ck h (hX.sv.keep s.ext) aR6 rfl rfl λf h=>e9 ac 1 h rfl λf h=>aL4 (aL6 (λnn aa ww=>∃ k:Nat,Sl 88 aa [(0,.agg (fA vo vs vh vl X.M.last X.M.now)),(1,.pointer (some ⟨b1,0,none⟩)),(10,vs),(11,.int .i64 (X.S.length:Int)),(12,.int .i64 (k:Int))]/\St w [.blk b1 (.cells (fA vo vs vh vl X.M.last X.M.now) 31)] ww/\nn=X.S.length - k/\k<=X.S.length/\∀ j,j<k->Hf (X.S.getD j cd).1=false) (X.S.length - (0)) ⟨0,h.only ⟨rfl,rfl,rfl,rfl,ao rfl (by omega),trivial⟩,s.as ⟨rfl,trivial⟩,rfl,aJ3 _,λj hj=>aO7 hj (aM6 _)⟩ ?_)))
 rintro _ f w1 ⟨k,h,s,hnn,hp0,hp1⟩
 refine bE ac 1 h rfl λf h=>ah (cB h rfl (λhc=>?_) (λhc=>?_))
 ·refine kt (ah (aL4 (qr ?_)))
  have hkl:k<X.S.length:=by omega
  refine ai h (bj (hX.sv.keep s.ext) (k) aR6 kB (h.ev rfl) (h.ev rfl) (by omega) (by omega)) rfl λf h=>ap ((hX.sv.keep s.ext).el (k) (by omega) (by decide) (D:=bC (X.S.getD k cd).1.no (X.S.getD k cd).1.sec (X.S.getD k cd).2) (nJ _ k hkl)) h cC rfl (aG _ _ _) rfl λf h=>aK (bC 0 ByteArray.empty ax) h s i4 rfl rfl λf w1 b4 h s=>al 0 h s cC rfl rfl rfl (aG _ _ _) (aG _ _ _) (cA _ _ (bI ((hX.sw _ (cK hkl)).keep s.ext))) λw1 s=>nt (ah ?_)
  refine rs ac 1 h rfl λf h=>ag (V:=(X.S.getD k cd).2) (ae (aJ.of_own s 0 rfl) 2 (yg _ _ _)) h jb rfl rfl λf h=>ck h ((hX.sw _ (cK hkl)).keep s.ext) aR9 rfl rfl λf h=>j8 ac (Hf (X.S.getD k cd).1) h rfl ((aI3.2 (by omega))) (λs0 f h=>?_) (λs0 f h=>?_)
  ·refine wV h rfl (wpIn_skip (aW (aD (aw (ai h (bo (h.ev rfl) (h.ev rfl) (by omega)) rfl λf h=>e9 ac 1 h rfl λf h=>?_)))))
   exact ⟨_,by omega,⟨k+1,h.only ⟨rfl,rfl,rfl,rfl,ao rfl (by omega),trivial⟩,St.as (s.pick _ (aI8 [_] _)) ⟨rfl,trivial⟩,rfl,by omega,gv hp1 (s0)⟩⟩
  ·refine iY h rfl (bE ac 1 h rfl λf h=>aL3 (bA (aS (aS (bA (aS (av rfl h s rfl (by show _=_;rw [ai2 hkl s0]))))))))
 ·refine aL5 (aO (aO (bS (aD (ah (qr ?_))))))
  have hA:∀ j,j<X.S.length->Hf (X.S.getD j cd).1=false:=λj hj=>hp1 j (by omega)
  refine am ac 2 h rfl λf h=>ag (V:=vo) (ae (aJ.of_own s 0 rfl) 0 (zM _ _ _ _ _ _)) h fE rfl rfl λf h=>ck h (hX.ov.1.keep s.ext) aR5 rfl rfl λf h=>e9 ac 1 h rfl λf h=>aL4 (aL6 (λnn aa ww=>∃ k:Nat,Sl 88 aa [(0,.agg (fA vo vs vh vl X.M.last X.M.now)),(1,.pointer (some ⟨b1,0,none⟩)),(23,vo),(24,.int .i64 (X.L.length:Int)),(25,.int .i64 (k:Int))]/\St w [.blk b1 (.cells (fA vo vs vh vl X.M.last X.M.now) 31)] ww/\nn=X.L.length - k/\k<=X.L.length/\∀ j,j<k->Cb (X.L.getD j z3).1=false) (X.L.length - (0)) ⟨0,h.only ⟨rfl,rfl,rfl,rfl,ao rfl (by omega),trivial⟩,s.as ⟨rfl,trivial⟩,rfl,aJ3 _,λj hj=>aO7 hj (aM6 _)⟩ ?_)
  rintro _ f w1 ⟨k,h,s,hnn,hp0,hp1⟩
  refine bE ac 1 h rfl λf h=>ah (cB h rfl (λhc=>?_) (λhc=>?_))
  ·refine kt (ah (aL4 (qr ?_)))
   have hkl:k<X.L.length:=by omega
   refine ai h (bj (hX.ov.1.keep s.ext) (k) aR5 ms (h.ev rfl) (h.ev rfl) (by omega) (by omega)) rfl λf h=>ap ((hX.ov.1.keep s.ext).el (k) (by omega) (by decide) (D:=bu (X.L.getD k z3).1.me (X.L.getD k z3).1.pr (X.L.getD k z3).2.1 (X.L.getD k z3).2.2) (g5 _ k hkl)) h dl rfl (aP _ _ _ _) rfl λf h=>aK (bu bH bH ax ax) h s kJ rfl rfl λf w1 b6 h s=>al 0 h s dl rfl rfl rfl (aP _ _ _ _) (aP _ _ _ _) (cI (bI ((hX.ov.2 _ (ci hkl)).1.keep s.ext)) (bI ((hX.ov.2 _ (ci hkl)).2.keep s.ext))) λw1 s=>nt (ah ?_)
   refine rs ac 1 h rfl λf h=>ag (V:=(X.L.getD k z3).2.1) (ae (aJ.of_own s 0 rfl) 66 (gn _ _ _ _)) h dS rfl rfl λf h=>ck h ((hX.ov.2 _ (ci hkl)).1.keep s.ext) aS2 rfl rfl λf h=>j8 ac (decide (6<(X.L.getD k z3).1.sc.length)) h rfl ((aI3.2 (by omega))) (λq0 f h=>?_) (λq0 f h=>?_)
   ·skip
    refine am ac 2 h rfl λf h=>cy h rfl (ag (V:=(X.L.getD k z3).2.2) (ae (aJ.of_own s 0 rfl) 67 (kv _ _ _ _)) h dS rfl rfl λf h=>cy h rfl (ck h ((hX.ov.2 _ (ci hkl)).2.keep s.ext) aS2 rfl rfl λf h=>cy h rfl (j8 ac (decide (18<(X.L.getD k z3).1.fg.length)) h rfl ((aI3.2 (by omega))) (λq1 f h=>?_) (λq1 f h=>?_))))
    ·refine e9 ac 1 h rfl λf h=>kQ h rfl (wpIn_skip (aW (aD (aw (ai h (bo (h.ev rfl) (h.ev rfl) (by omega)) rfl λf h=>e9 ac 1 h rfl λf h=>?_)))))
     exact ⟨_,by omega,⟨k+1,h.only ⟨rfl,rfl,rfl,rfl,ao rfl (by omega),trivial⟩,St.as (s.pick _ (aI8 [_] _)) ⟨rfl,trivial⟩,rfl,by omega,gv hp1 (by unfold Cb;rw [q0,q1];rfl)⟩⟩
    ·refine e9 ac 1 h rfl λf h=>dG h rfl (bE ac 1 h rfl λf h=>aL3 (bA (aS (aS (bA (aS (av rfl h s rfl (by show _=_;rw [TW hkl (by unfold Cb;rw [q0,q1]<;>rfl)]))))))))
   ·refine e9 ac 6 h rfl λf h=>dG h rfl (bE ac 1 h rfl λf h=>aL3 (bA (aS (aS (bA (aS (av rfl h s rfl (by show _=_;rw [TW hkl (by unfold Cb;rw [q0]<;>rfl)]))))))))
  ·refine aL5 (aO (aO (bS (aD (ah (qr ?_))))))
   have hA2:∀ j,j<X.L.length->Cb (X.L.getD j z3).1=false:=λj hj=>hp1 j (by omega)
   refine am ac 1 h rfl λf h=>ag (V:=vh) (ae (aJ.of_own s 0 rfl) 2 (Hl _ _ _ _ _ _)) h nV rfl rfl λf h=>ck h (hX.ho.keep s.ext) aR7 rfl rfl λf h=>e9 ac 1 h rfl λf h=>aL4 (aL6 (λnn aa ww=>∃ k:Nat,Sl 88 aa [(0,.agg (fA vo vs vh vl X.M.last X.M.now)),(1,.pointer (some ⟨b1,0,none⟩)),(41,vh),(42,.int .i64 (X.H.length:Int)),(43,.int .i64 (k:Int))]/\St w [.blk b1 (.cells (fA vo vs vh vl X.M.last X.M.now) 31)] ww/\nn=X.H.length - k/\k<=X.H.length/\∀ j,j<k->A4 (X.H.getD j bX).1=false) (X.H.length - (0)) ⟨0,h.only ⟨rfl,rfl,rfl,rfl,ao rfl (by omega),trivial⟩,s.as ⟨rfl,trivial⟩,rfl,aJ3 _,λj hj=>aO7 hj (aM6 _)⟩ ?_)
   rintro _ f w1 ⟨k,h,s,hnn,hp0,hp1⟩
   refine bE ac 1 h rfl λf h=>ah (cB h rfl (λhc=>?_) (λhc=>?_))
   ·refine kt (ah (aL4 (qr ?_)))
    have hkl:k<X.H.length:=by omega
    refine ai h (bj (hX.ho.keep s.ext) (k) aR7 wq (h.ev rfl) (h.ev rfl) (by omega) (by omega)) rfl λf h=>ap ((hX.ho.keep s.ext).el (k) (by omega) (by decide) (D:=ca (X.H.getD k bX).1.no (X.H.getD k bX).1.gt (X.H.getD k bX).2.1 (X.H.getD k bX).2.2.1 (X.H.getD k bX).2.2.2) (Bi _ k hkl)) h gc rfl (bG _ _ _ _ _) rfl λf h=>aK (ca 0 0 ax ax ax) h s uJ rfl rfl λf w1 b8 h s=>al 0 h s gc rfl rfl rfl (bG _ _ _ _ _) (bG _ _ _ _ _) (fe _ _ (bI ((hX.hw _ (eB hkl)).1.keep s.ext)) (bI ((hX.hw _ (eB hkl)).2.1.keep s.ext)) (bI ((hX.hw _ (eB hkl)).2.2.keep s.ext))) λw1 s=>nt (ah ?_)
    refine rs ac 1 h rfl λf h=>ag (V:=(X.H.getD k bX).2.1) (ae (aJ.of_own s 0 rfl) 2 (R0 _ _ _ _ _)) h FN rfl rfl λf h=>ck h ((hX.hw _ (eB hkl)).1.keep s.ext) aS3 rfl rfl λf h=>j8 ac (decide (10<(X.H.getD k bX).1.ws.length)) h rfl ((aI3.2 (by omega))) (λp0 f h=>?_) (λp0 f h=>?_)
    ·skip
     refine am ac 2 h rfl λf h=>cy h rfl (ag (V:=(X.H.getD k bX).2.2.1) (ae (aJ.of_own s 0 rfl) 3 (Al _ _ _ _ _)) h Fd rfl rfl λf h=>cy h rfl (ck h ((hX.hw _ (eB hkl)).2.1.keep s.ext) aS4 rfl rfl λf h=>cy h rfl (j8 ac (decide (10<(X.H.getD k bX).1.hs.length)) h rfl ((aI3.2 (by omega))) (λp1 f h=>?_) (λp1 f h=>?_))))
     ·skip
      refine am ac 3 h rfl λf h=>cy h rfl (ag (V:=(X.H.getD k bX).2.2.2) (ae (aJ.of_own s 0 rfl) 4 (SH _ _ _ _ _)) h wX rfl rfl λf h=>cy h rfl (ck h ((hX.hw _ (eB hkl)).2.2.keep s.ext) aS5 rfl rfl λf h=>cy h rfl (j8 ac (decide (34<(X.H.getD k bX).1.bx.length)) h rfl ((aI3.2 (by omega))) (λp2 f h=>?_) (λp2 f h=>?_))))
      ·refine e9 ac 1 h rfl λf h=>kQ h rfl (wpIn_skip (aW (aD (aw (ai h (bo (h.ev rfl) (h.ev rfl) (by omega)) rfl λf h=>e9 ac 1 h rfl λf h=>?_)))))
       exact ⟨_,by omega,⟨k+1,h.only ⟨rfl,rfl,rfl,rfl,ao rfl (by omega),trivial⟩,St.as (s.pick _ (aI8 [_] _)) ⟨rfl,trivial⟩,rfl,by omega,gv hp1 (by unfold A4;rw [p0,p1,p2];rfl)⟩⟩
      ·refine e9 ac 1 h rfl λf h=>dG h rfl (bE ac 1 h rfl λf h=>aL3 (bA (aS (aS (bA (aS (av rfl h s rfl (by show _=_;rw [Nu hkl (by unfold A4;rw [p0,p1,p2]<;>rfl)]))))))))
     ·refine e9 ac 7 h rfl λf h=>dG h rfl (bE ac 1 h rfl λf h=>aL3 (bA (aS (aS (bA (aS (av rfl h s rfl (by show _=_;rw [Nu hkl (by unfold A4;rw [p0,p1]<;>rfl)]))))))))
    ·refine e9 ac 12 h rfl λf h=>dG h rfl (bE ac 1 h rfl λf h=>aL3 (bA (aS (aS (bA (aS (av rfl h s rfl (by show _=_;rw [Nu hkl (by unfold A4;rw [p0]<;>rfl)]))))))))
   ·refine aL5 (aO (aO (bS (aD (ah ?_)))))
    refine rs ac 1 h rfl λf h=>ag (V:=vs) (ae (aJ.of_own s 0 rfl) 1 (vA _ _ _ _ _ _)) h ij rfl rfl λf h=>ck h (hX.sv.keep s.ext) aR6 rfl rfl λf h=>j8 ac (decide (18<X.S.length)) h rfl ((aI3.2 (by omega))) (λe0 f h=>?_) (λe0 f h=>?_)
    ·skip
     refine am ac 3 h rfl λf h=>cy h rfl (ag (V:=vo) (ae (aJ.of_own s 0 rfl) 0 (zM _ _ _ _ _ _)) h fE rfl rfl λf h=>cy h rfl (ck h (hX.ov.1.keep s.ext) aR5 rfl rfl λf h=>cy h rfl (j8 ac (decide (18<X.L.length)) h rfl ((aI3.2 (by omega))) (λe1 f h=>?_) (λe1 f h=>?_))))
     ·skip
      refine am ac 3 h rfl λf h=>cy h rfl (ag (V:=vh) (ae (aJ.of_own s 0 rfl) 2 (Hl _ _ _ _ _ _)) h nV rfl rfl λf h=>cy h rfl (ck h (hX.ho.keep s.ext) aR7 rfl rfl λf h=>cy h rfl (j8 ac (decide (18<X.H.length)) h rfl ((aI3.2 (by omega))) (λe2 f h=>?_) (λe2 f h=>?_))))
      ·skip
       refine am ac 4 h rfl λf h=>cy h rfl (ag (V:=vl) (ae (aJ.of_own s 0 rfl) 3 (WM _ _ _ _ _ _)) h nU rfl rfl λf h=>cy h rfl (ck h (hX.ml.keep s.ext) aR8 rfl rfl λf h=>cy h rfl (j8 ac (decide (66<X.M.l.length)) h rfl ((aI3.2 (by omega))) (λe3 f h=>?_) (λe3 f h=>?_))))
       ·refine e9 ac 2 h rfl λf h=>aL3 (av rfl h s rfl (by show _=_;rw [BB hA hA2 (λj hj=>hp1 j (by omega)),e0,e1,e2,e3];rfl))
       ·refine e9 ac 2 h rfl λf h=>aL3 (av rfl h s rfl (by show _=_;rw [BB hA hA2 (λj hj=>hp1 j (by omega)),e0,e1,e2,e3];rfl))
      ·refine e9 ac 9 h rfl λf h=>aL3 (av rfl h s rfl (by show _=_;rw [BB hA hA2 (λj hj=>hp1 j (by omega)),e0,e1,e2];rfl))
     ·refine e9 ac 15 h rfl λf h=>aL3 (av rfl h s rfl (by show _=_;rw [BB hA hA2 (λj hj=>hp1 j (by omega)),e0,e1];rfl))
    ·refine e9 ac 21 h rfl λf h=>aL3 (av rfl h s rfl (by show _=_;rw [BB hA hA2 (λj hj=>hp1 j (by omega)),e0];rfl))
theorem qB (x:Id) (w:World):Calls Tryz.prog 70 [iy x].toArray w (cb w (is (.bool (jg x)))):=by
 refine bK Tryz.func70 rfl Tryz.ntmps70 rfl λf h s=>qr (aV (aH x) h s rfl rfl rfl λf w1 b1 h s=>e9 ac 1 h rfl λf h=>ah (qr (ai h (rR (16) aO8 jE (h.ev rfl) (h.ev rfl) (by omega) (by omega)) rfl λf h=>ck h (bs.of_has (aJ.subL (o:=0) (aJ.of_own s 0 rfl) 16 16 (D:=((fo x).drop 16).toArray) (KH x)) (qw x) (aJ1 _)) aU3 rfl rfl λf h=>e9 ac 1 h rfl λf h=>aL4 (aL6 (λnn aa ww=>∃ k:Nat,Sl 14 aa [(0,iy x),(1,.pointer (some ⟨b1,0,none⟩)),(5,.slice (some ⟨b1,16,none⟩) 16 16),(6,.int .i64 16),(7,.int .i64 (k:Int))]/\St w [.blk b1 (.cells (aH x) 42)] ww/\nn=16 - k/\k<=16/\∀ j,j<k->bP x (j+16)=255) (16 - (0)) ⟨0,h.only ⟨rfl,rfl,rfl,rfl,ao rfl (by omega),trivial⟩,s.as ⟨rfl,trivial⟩,rfl,aJ3 _,λj hj=>aO7 hj (aM6 _)⟩ ?_))))
 rintro _ f w1 ⟨k,h,s,hnn,hp0,hp1⟩
 refine bE ac 1 h rfl λf h=>ah (cB h rfl (λhc=>?_) (λhc=>?_))
 ·refine kt (ah (aL4 (qr ?_)))
  have hk16:k<16:=by omega
  refine ai h (bj (bs.of_has (aJ.subL (o:=0) (aJ.of_own s 0 rfl) 16 16 (D:=((fo x).drop 16).toArray) (KH x)) (qw x) (aJ1 _)) (k) aU3 ax9 (h.ev rfl) (h.ev rfl) (by omega) (by omega)) rfl λf h=>ag ((bs.of_has (aJ.subL (o:=0) (aJ.of_own s 0 rfl) 16 16 (D:=((fo x).drop 16).toArray) (KH x)) (qw x) (aJ1 _)).el1 (k) (V:=.int .u8 (bP x (k+16):Int)) (M4 x hk16)) h r2 rfl rfl λf h=>e9 ac 1 h rfl λf h=>bE ac 2 h rfl λf h=>cB h rfl (λhc=>?_) (λhc=>?_)
  ·refine bE ac 1 h rfl λf h=>aL3 (bA (aS (aS (bA (aS (av rfl h s rfl (by show _=_;rw [PG (k:=k) (by omega) (by simp at hc;omega)])))))))
  ·refine wpIn_skip (aW (aD (aw (ai h (bo (h.ev rfl) (h.ev rfl) (by omega)) rfl λf h=>e9 ac 1 h rfl λf h=>?_))))
   exact ⟨_,by omega,⟨k+1,h.only ⟨rfl,rfl,rfl,rfl,ao rfl (by omega),trivial⟩,St.as s ⟨rfl,trivial⟩,rfl,by omega,gv hp1 (by simp at hc;omega)⟩⟩
 ·refine aL5 (aO (aO (bS (aD (bE ac 1 h rfl λf h=>aL3 (av rfl h s rfl (by show _=_;rw [Qe (λj hj=>hp1 j (by omega))])))))))
def JU:List (Int × Value):=[(1,.func (.func 47) #[] #[]),(2,.func (.func 48) #[] #[]),(3,.func (.func 49) #[] #[]),(4,.func (.func 50) #[] #[]),(5,.func (.func 51) #[] #[]),(6,.func (.func 52) #[] #[]),(7,.func (.func 53) #[] #[]),(8,.func (.func 54) #[] #[]),(9,.func (.func 55) #[] #[]),(10,.func (.func 56) #[] #[]),(11,.func (.func 57) #[] #[]),(12,.func (.func 58) #[] #[]),(13,.func (.func 59) #[] #[]),(14,.func (.func 60) #[] #[]),(15,.func (.func 61) #[] #[])]
set_option maxHeartbeats 1000000 in
theorem HY  (w:World):Calls Tryz.prog 23 [].toArray w (cb w (λv w'=>∃ b,v=.map (some b)/\St w [.blk b (KvO JU)] w')):=by
 refine bK Tryz.func23 rfl Tryz.ntmps23 rfl λf h s=>bE ac 1 h rfl λf h=>qr (qJ h s rfl ?_);intro f w1 b1 h s
 refine cL 0 h s aU6 aR2 (by exact rfl) rfl rfl rfl rfl (by rfl) ?_;intro w1 s
 refine cL 0 h s aU6 aR2 (by exact rfl) rfl rfl rfl rfl (by rfl) ?_;intro w1 s
 refine cL 0 h s aU6 aR2 (by exact rfl) rfl rfl rfl rfl (by rfl) ?_;intro w1 s
 refine cL 0 h s aU6 aR2 (by exact rfl) rfl rfl rfl rfl (by rfl) ?_;intro w1 s
 refine cL 0 h s aU6 aR2 (by exact rfl) rfl rfl rfl rfl (by rfl) ?_;intro w1 s
 refine cL 0 h s aU6 aR2 (by exact rfl) rfl rfl rfl rfl (by rfl) ?_;intro w1 s
 refine cL 0 h s aU6 aR2 (by exact rfl) rfl rfl rfl rfl (by rfl) ?_;intro w1 s
 refine cL 0 h s aU6 aR2 (by exact rfl) rfl rfl rfl rfl (by rfl) ?_;intro w1 s
 refine cL 0 h s aU6 aR2 (by exact rfl) rfl rfl rfl rfl (by rfl) ?_;intro w1 s
 refine cL 0 h s aU6 aR2 (by exact rfl) rfl rfl rfl rfl (by rfl) ?_;intro w1 s
 refine cL 0 h s aU6 aR2 (by exact rfl) rfl rfl rfl rfl (by rfl) ?_;intro w1 s
 refine cL 0 h s aU6 aR2 (by exact rfl) rfl rfl rfl rfl (by rfl) ?_;intro w1 s
 refine cL 0 h s aU6 aR2 (by exact rfl) rfl rfl rfl rfl (by rfl) ?_;intro w1 s
 refine cL 0 h s aU6 aR2 (by exact rfl) rfl rfl rfl rfl (by rfl) ?_;intro w1 s
 refine cL 0 h s aU6 aR2 (by exact rfl) rfl rfl rfl rfl (by rfl) ?_;intro w1 s
 refine e9 ac 2 h rfl λf h=>aL3 (av rfl h s rfl (⟨b1,rfl,s.sel [0] rfl (by decide)⟩))
theorem QX (l:List V2) (hln:l.length<=1000) (a9:Option Addr) (n9 c9:Nat) (w:World) (hR:bs w (.slice a9 n9 c9) 3 l.length (a8 l)) (hx9:∀ x∈l,x.2.oneCell'=true):Calls Tryz.prog 64 [.slice a9 n9 c9].toArray w (cb w (λv w'=>cF w' w.heap.size 54 3 v l.length (a8 l))):=by
 refine bK Tryz.func64 rfl Tryz.ntmps64 rfl λf h s=>bE ac 1 h rfl λf h=>ah (ah ?_)
 cases hn:(a9.isNone:Bool)
 ·refine rs ac 1 h rfl λf h=>ai h (bz (.bool false) (ct aR6 (h.ev rfl) (h.ev rfl)) (aH3 Value.bool hn)) rfl λf h=>gS h rfl (qr (fB (base:=w.heap.size) h aR6 Fw (aJ1 _) rfl λf w2 v5 h hE3 e5=>am ac 1 h rfl λf h=>dZ (base:=w.heap.size) e5 (hR.keep hE3) h aR6 Fw rfl rfl hE3.le (yp hx9) (by unfold maxLen;omega) (by omega) rfl λf w3 v7 h hE4 e7=>?_))
  replace s:=s.sl_new (hE3.trans hE4) e7
  refine e9 ac 1 h rfl λf h=>aL3 (av rfl h s rfl (s.getSl 0 rfl))
 ·refine rs ac 1 h rfl λf h=>ai h (bz (.bool true) (ct aR6 (h.ev rfl) (h.ev rfl)) (aH3 Value.bool hn)) rfl λf h=>iY h rfl (bE ac 1 h rfl λf h=>rt (av rfl h s rfl (by obtain rfl:=iv hn hR;exact eh _ _ _ _)))
theorem LU (l:List V2) (hln:l.length<=1000) (v9:Value) (w:World) (hR:bs w v9 3 l.length (a8 l)) (hx9:∀ x∈l,x.2.oneCell'=true):Calls Tryz.prog 64 [v9].toArray w (cb w (λv w'=>cF w' w.heap.size 54 3 v l.length (a8 l))):=by
 obtain ⟨a,c,rfl⟩:=hR.len
 exact QX l hln a _ c w hR hx9
theorem Py (l:List H4) (hln:l.length<=1000) (a9:Option Addr) (n9 c9:Nat) (w:World) (hR:bs w (.slice a9 n9 c9) 5 l.length (bB l)) (hx9:∀ x∈l,x.2.1.oneCell'=true/\x.2.2.1.oneCell'=true/\x.2.2.2.oneCell'=true):Calls Tryz.prog 65 [.slice a9 n9 c9].toArray w (cb w (λv w'=>cF w' w.heap.size 68 5 v l.length (bB l))):=by
 refine bK Tryz.func65 rfl Tryz.ntmps65 rfl λf h s=>bE ac 1 h rfl λf h=>ah (ah ?_)
 cases hn:(a9.isNone:Bool)
 ·refine rs ac 1 h rfl λf h=>ai h (bz (.bool false) (ct aR7 (h.ev rfl) (h.ev rfl)) (aH3 Value.bool hn)) rfl λf h=>gS h rfl (qr (fB (base:=w.heap.size) h aR7 Gw (aJ1 _) rfl λf w2 v5 h hE3 e5=>am ac 1 h rfl λf h=>dZ (base:=w.heap.size) e5 (hR.keep hE3) h aR7 Gw rfl rfl hE3.le (xo hx9) (by unfold maxLen;omega) (by omega) rfl λf w3 v7 h hE4 e7=>?_))
  replace s:=s.sl_new (hE3.trans hE4) e7
  refine e9 ac 1 h rfl λf h=>aL3 (av rfl h s rfl (s.getSl 0 rfl))
 ·refine rs ac 1 h rfl λf h=>ai h (bz (.bool true) (ct aR7 (h.ev rfl) (h.ev rfl)) (aH3 Value.bool hn)) rfl λf h=>iY h rfl (bE ac 1 h rfl λf h=>rt (av rfl h s rfl (by obtain rfl:=iv hn hR;exact eh _ _ _ _)))
theorem N7 (l:List H4) (hln:l.length<=1000) (v9:Value) (w:World) (hR:bs w v9 5 l.length (bB l)) (hx9:∀ x∈l,x.2.1.oneCell'=true/\x.2.2.1.oneCell'=true/\x.2.2.2.oneCell'=true):Calls Tryz.prog 65 [v9].toArray w (cb w (λv w'=>cF w' w.heap.size 68 5 v l.length (bB l))):=by
 obtain ⟨a,c,rfl⟩:=hR.len
 exact Py l hln a _ c w hR hx9
theorem R3 (l:List Wn) (hln:l.length<=1000) (a9:Option Addr) (n9 c9:Nat) (w:World) (hR:bs w (.slice a9 n9 c9) 33 l.length (cV l)):Calls Tryz.prog 66 [.slice a9 n9 c9].toArray w (cb w (λv w'=>cF w' w.heap.size 125 33 v l.length (cV l))):=by
 refine bK Tryz.func66 rfl Tryz.ntmps66 rfl λf h s=>bE ac 1 h rfl λf h=>ah (ah ?_)
 cases hn:(a9.isNone:Bool)
 ·refine rs ac 1 h rfl λf h=>ai h (bz (.bool false) (ct aS3 (h.ev rfl) (h.ev rfl)) (aH3 Value.bool hn)) rfl λf h=>gS h rfl (qr (fB (base:=w.heap.size) h aS3 Jc (aJ1 _) rfl λf w2 v5 h hE3 e5=>am ac 1 h rfl λf h=>dZ (base:=w.heap.size) e5 (hR.keep hE3) h aS3 Jc rfl rfl hE3.le (yx _) (by unfold maxLen;omega) (by omega) rfl λf w3 v7 h hE4 e7=>?_))
  replace s:=s.sl_new (hE3.trans hE4) e7
  refine e9 ac 1 h rfl λf h=>aL3 (av rfl h s rfl (s.getSl 0 rfl))
 ·refine rs ac 1 h rfl λf h=>ai h (bz (.bool true) (ct aS3 (h.ev rfl) (h.ev rfl)) (aH3 Value.bool hn)) rfl λf h=>iY h rfl (bE ac 1 h rfl λf h=>rt (av rfl h s rfl (by obtain rfl:=iv hn hR;exact eh _ _ _ _)))
theorem MP (l:List Wn) (hln:l.length<=1000) (v9:Value) (w:World) (hR:bs w v9 33 l.length (cV l)):Calls Tryz.prog 66 [v9].toArray w (cb w (λv w'=>cF w' w.heap.size 125 33 v l.length (cV l))):=by
 obtain ⟨a,c,rfl⟩:=hR.len
 exact R3 l hln a _ c w hR
theorem Qd (l:List Hn) (hln:l.length<=1000) (a9:Option Addr) (n9 c9:Nat) (w:World) (hR:bs w (.slice a9 n9 c9) 34 l.length (cU l)):Calls Tryz.prog 67 [.slice a9 n9 c9].toArray w (cb w (λv w'=>cF w' w.heap.size 128 34 v l.length (cU l))):=by
 refine bK Tryz.func67 rfl Tryz.ntmps67 rfl λf h s=>bE ac 1 h rfl λf h=>ah (ah ?_)
 cases hn:(a9.isNone:Bool)
 ·refine rs ac 1 h rfl λf h=>ai h (bz (.bool false) (ct aS4 (h.ev rfl) (h.ev rfl)) (aH3 Value.bool hn)) rfl λf h=>gS h rfl (qr (fB (base:=w.heap.size) h aS4 Ke (aJ1 _) rfl λf w2 v5 h hE3 e5=>am ac 1 h rfl λf h=>dZ (base:=w.heap.size) e5 (hR.keep hE3) h aS4 Ke rfl rfl hE3.le (xv _) (by unfold maxLen;omega) (by omega) rfl λf w3 v7 h hE4 e7=>?_))
  replace s:=s.sl_new (hE3.trans hE4) e7
  refine e9 ac 1 h rfl λf h=>aL3 (av rfl h s rfl (s.getSl 0 rfl))
 ·refine rs ac 1 h rfl λf h=>ai h (bz (.bool true) (ct aS4 (h.ev rfl) (h.ev rfl)) (aH3 Value.bool hn)) rfl λf h=>iY h rfl (bE ac 1 h rfl λf h=>rt (av rfl h s rfl (by obtain rfl:=iv hn hR;exact eh _ _ _ _)))
theorem LV (l:List Hn) (hln:l.length<=1000) (v9:Value) (w:World) (hR:bs w v9 34 l.length (cU l)):Calls Tryz.prog 67 [v9].toArray w (cb w (λv w'=>cF w' w.heap.size 128 34 v l.length (cU l))):=by
 obtain ⟨a,c,rfl⟩:=hR.len
 exact Qd l hln a _ c w hR
theorem ta (x:V2)  (w:World) (hx9:x.2.oneCell'=true):Calls Tryz.prog 99 [.agg (bC x.1.no x.1.sec x.2)].toArray w (cb w (is (.int .i64 x.1.no))):=by
 refine bK Tryz.func99 rfl Tryz.ntmps99 rfl λf h s=>qr (aV (bC x.1.no x.1.sec x.2) h s rfl rfl rfl λf w1 b1 h s=>e9 ac 1 h rfl λf h=>bU ac 1 h rfl λf h=>ag (V:=.int .i64 x.1.no) (ae (aJ.of_own s 0 rfl) 0 (CY _ _ _)) h bJ rfl rfl λf h=>e9 ac 1 h rfl λf h=>aL3 (av rfl h s rfl (rfl)))
theorem Dl (l:List V2) (vh:Value) (no:Int) (w:World) (hR:bs w vh 3 l.length (a8 l)) (ho:∀ x∈l,x.2.oneCell'=true) (hln:l.length<=1000):Calls Tryz.prog 152 [vh,.int .i64 no,.func (.func 99) #[] #[]].toArray w (cb w (is (rZ (λx:V2=>x.1.no) 3 vh l no))):=by
 refine bK Tryz.func152 rfl Tryz.ntmps152 rfl λf h s=>bE ac 1 h rfl λf h=>ah (bU ac 1 h rfl λf h=>ck h (hR.keep s.ext) aR6 rfl rfl λf h=>e9 ac 1 h rfl λf h=>aL4 (aL6 (λnn aa ww=>∃ k:Nat,Sl 25 aa [(0,vh),(1,.int .i64 no),(2,.func (.func 99) #[] #[]),(8,vh),(9,.int .i64 (l.length:Int)),(10,.int .i64 (k:Int))]/\St w [] ww/\nn=l.length - k/\k<=l.length/\∀ j,j<k->decide ((l.getD j cd).1.no=no)=false) (l.length - (0)) ⟨0,h.only ⟨rfl,rfl,rfl,rfl,rfl,ao rfl (by omega),trivial⟩,s.as trivial,rfl,aJ3 _,λj hj=>aO7 hj (aM6 _)⟩ ?_))
 rintro _ f w1 ⟨k,h,s,hnn,hp0,hp1⟩
 refine bE ac 1 h rfl λf h=>ah (cB h rfl (λhc=>?_) (λhc=>?_))
 ·refine kt (ah (aL4 (qr ?_)))
  have hkl:k<l.length:=by omega
  refine e9 ac 2 h rfl λf h=>bU ac 3 h rfl λf h=>ai h (bj (hR.keep s.ext) (k) aR6 kB (h.ev rfl) (h.ev rfl) (by omega) (by omega)) rfl λf h=>ap ((hR.keep s.ext).el (k) (by omega) (by decide) (D:=bC (l.getD k cd).1.no (l.getD k cd).1.sec (l.getD k cd).2) (nJ _ k hkl)) h cC rfl (aG _ _ _) rfl λf h=>cJ [.agg (bC (l.getD k cd).1.no (l.getD k cd).1.sec (l.getD k cd).2)] (caps:=[]) h s JJ rfl (ta (l.getD k cd) _ (ho _ (cK hkl))) rfl rfl ?_;intro f w1 v18 hT hE h s;obtain rfl:=hT
  refine e9 ac 2 h rfl λf h=>bV h rfl (λhc=>?_) (λhc=>?_)
  ·have c0:=hc
   refine bU ac 2 h rfl λf h=>ai h (bj (hR.keep s.ext) (k) aR6 kB (h.ev rfl) (h.ev rfl) (by omega) (by omega)) rfl λf h=>e9 ac 1 h rfl λf h=>aL3 (bA (aS (aS (bA (aS (av rfl h s rfl (by show _=_;rw [Mk cd hkl hp1 c0])))))))
  ·have c0:=hc
   refine wpIn_skip (aW (aD (aw (ai h (bo (h.ev rfl) (h.ev rfl) (by omega)) rfl λf h=>e9 ac 1 h rfl λf h=>?_))))
   exact ⟨_,by omega,⟨k+1,h.only ⟨rfl,rfl,rfl,rfl,rfl,ao rfl (by omega),trivial⟩,St.as s trivial,rfl,by omega,gv hp1 c0⟩⟩
 ·refine aL5 (aO (aO (bS (aD (bE ac 1 h rfl λf h=>aL3 (av rfl h s rfl (by show _=_;rw [Jq cd (by omega) hp1])))))))
theorem jX (vo vs vh vl vn:Value) (la nw:Int) (bc:Nat) (l:List V2) (no:Int) (w:World) (hb:gq w bc (gJ vo vs vh vl la nw vn)) (hR:bs w vs 3 l.length (a8 l)) (ho:∀ x∈l,x.2.oneCell'=true) (hln:l.length<=1000):Calls Tryz.prog 97 [.pointer (some ⟨bc,0,none⟩),.int .i64 no].toArray w (cb w (is (rZ (λx:V2=>x.1.no) 3 vs l no))):=by
 refine bK Tryz.func97 rfl Tryz.ntmps97 rfl λf h s=>bE ac 1 h rfl λf h=>bU ac 4 h rfl λf h=>ag (V:=vs) (ae (aJ.of_tab (hb.keep s.ext)) 1 (rfl)) h ij rfl rfl λf h=>am ac 1 h rfl λf h=>dF h s UN (Dl l vs no _ (hR.keep s.ext) ho hln) rfl rfl λf w1 h s=>e9 ac 1 h rfl λf h=>aL3 (av rfl h s rfl (rfl))
theorem uZ (x:H4)  (w:World) (hx9:x.2.1.oneCell'=true/\x.2.2.1.oneCell'=true/\x.2.2.2.oneCell'=true):Calls Tryz.prog 110 [.agg (ca x.1.no x.1.gt x.2.1 x.2.2.1 x.2.2.2)].toArray w (cb w (is (.int .i64 x.1.no))):=by
 refine bK Tryz.func110 rfl Tryz.ntmps110 rfl λf h s=>qr (aV (ca x.1.no x.1.gt x.2.1 x.2.2.1 x.2.2.2) h s rfl rfl rfl λf w1 b1 h s=>e9 ac 1 h rfl λf h=>bU ac 1 h rfl λf h=>ag (V:=.int .i64 x.1.no) (ae (aJ.of_own s 0 rfl) 0 (O3 _ _ _ _ _)) h bJ rfl rfl λf h=>e9 ac 1 h rfl λf h=>aL3 (av rfl h s rfl (rfl)))
theorem CH (l:List H4) (vh:Value) (no:Int) (w:World) (hR:bs w vh 5 l.length (bB l)) (ho:∀ x∈l,x.2.1.oneCell'=true/\x.2.2.1.oneCell'=true/\x.2.2.2.oneCell'=true) (hln:l.length<=1000):Calls Tryz.prog 163 [vh,.int .i64 no,.func (.func 110) #[] #[]].toArray w (cb w (is (rZ (λx:H4=>x.1.no) 5 vh l no))):=by
 refine bK Tryz.func163 rfl Tryz.ntmps163 rfl λf h s=>bE ac 1 h rfl λf h=>ah (bU ac 1 h rfl λf h=>ck h (hR.keep s.ext) aR7 rfl rfl λf h=>e9 ac 1 h rfl λf h=>aL4 (aL6 (λnn aa ww=>∃ k:Nat,Sl 25 aa [(0,vh),(1,.int .i64 no),(2,.func (.func 110) #[] #[]),(8,vh),(9,.int .i64 (l.length:Int)),(10,.int .i64 (k:Int))]/\St w [] ww/\nn=l.length - k/\k<=l.length/\∀ j,j<k->decide ((l.getD j bX).1.no=no)=false) (l.length - (0)) ⟨0,h.only ⟨rfl,rfl,rfl,rfl,rfl,ao rfl (by omega),trivial⟩,s.as trivial,rfl,aJ3 _,λj hj=>aO7 hj (aM6 _)⟩ ?_))
 rintro _ f w1 ⟨k,h,s,hnn,hp0,hp1⟩
 refine bE ac 1 h rfl λf h=>ah (cB h rfl (λhc=>?_) (λhc=>?_))
 ·refine kt (ah (aL4 (qr ?_)))
  have hkl:k<l.length:=by omega
  refine e9 ac 2 h rfl λf h=>bU ac 3 h rfl λf h=>ai h (bj (hR.keep s.ext) (k) aR7 wq (h.ev rfl) (h.ev rfl) (by omega) (by omega)) rfl λf h=>ap ((hR.keep s.ext).el (k) (by omega) (by decide) (D:=ca (l.getD k bX).1.no (l.getD k bX).1.gt (l.getD k bX).2.1 (l.getD k bX).2.2.1 (l.getD k bX).2.2.2) (Bi _ k hkl)) h gc rfl (bG _ _ _ _ _) rfl λf h=>cJ [.agg (ca (l.getD k bX).1.no (l.getD k bX).1.gt (l.getD k bX).2.1 (l.getD k bX).2.2.1 (l.getD k bX).2.2.2)] (caps:=[]) h s Dm rfl (uZ (l.getD k bX) _ (ho _ (eB hkl))) rfl rfl ?_;intro f w1 v18 hT hE h s;obtain rfl:=hT
  refine e9 ac 2 h rfl λf h=>bV h rfl (λhc=>?_) (λhc=>?_)
  ·have c0:=hc
   refine bU ac 2 h rfl λf h=>ai h (bj (hR.keep s.ext) (k) aR7 wq (h.ev rfl) (h.ev rfl) (by omega) (by omega)) rfl λf h=>e9 ac 1 h rfl λf h=>aL3 (bA (aS (aS (bA (aS (av rfl h s rfl (by show _=_;rw [Mk bX hkl hp1 c0])))))))
  ·have c0:=hc
   refine wpIn_skip (aW (aD (aw (ai h (bo (h.ev rfl) (h.ev rfl) (by omega)) rfl λf h=>e9 ac 1 h rfl λf h=>?_))))
   exact ⟨_,by omega,⟨k+1,h.only ⟨rfl,rfl,rfl,rfl,rfl,ao rfl (by omega),trivial⟩,St.as s trivial,rfl,by omega,gv hp1 c0⟩⟩
 ·refine aL5 (aO (aO (bS (aD (bE ac 1 h rfl λf h=>aL3 (av rfl h s rfl (by show _=_;rw [Jq bX (by omega) hp1])))))))
theorem qO (vo vs vh vl vn:Value) (la nw:Int) (bc:Nat) (l:List H4) (no:Int) (w:World) (hb:gq w bc (gJ vo vs vh vl la nw vn)) (hR:bs w vh 5 l.length (bB l)) (ho:∀ x∈l,x.2.1.oneCell'=true/\x.2.2.1.oneCell'=true/\x.2.2.2.oneCell'=true) (hln:l.length<=1000):Calls Tryz.prog 108 [.pointer (some ⟨bc,0,none⟩),.int .i64 no].toArray w (cb w (is (rZ (λx:H4=>x.1.no) 5 vh l no))):=by
 refine bK Tryz.func108 rfl Tryz.ntmps108 rfl λf h s=>bE ac 1 h rfl λf h=>bU ac 4 h rfl λf h=>ag (V:=vh) (ae (aJ.of_tab (hb.keep s.ext)) 2 (rfl)) h nV rfl rfl λf h=>am ac 1 h rfl λf h=>dF h s Wv (CH l vh no _ (hR.keep s.ext) ho hln) rfl rfl λf w1 h s=>e9 ac 1 h rfl λf h=>aL3 (av rfl h s rfl (rfl))
theorem HB (n:Int) (h0:0<=n/\n<=1000) (w:World):Calls Tryz.prog 115 [.int .i64 n].toArray w (cb w (is (.int .i64 (16+n)))):=by
 refine bK Tryz.func115 rfl Tryz.ntmps115 rfl λf h s=>bE ac 1 h rfl λf h=>bU ac 1 h rfl λf h=>ai h (bz (.int .i64 (16+n)) (bo (h.ev rfl) (h.ev rfl) (by omega)) (rfl)) rfl λf h=>e9 ac 1 h rfl λf h=>aL3 (av rfl h s rfl (rfl))
theorem Ia (x:Se) (us:Value) (fr:Int) (bc:Nat) (h0:0<=x.1)  (w:World) (h1:us.oneCell'=true):Calls Tryz.prog 229 [.pointer (some ⟨bc,0,none⟩),.int .i64 fr,.agg (dP x.1 x.2.1 us x.2.2)].toArray w (cb w (is (.tuple #[.int .i64 x.1,.int .i64 0]))):=by
 refine bK Tryz.func229 rfl Tryz.ntmps229 rfl λf h s=>qr (aV (dP x.1 x.2.1 us x.2.2) h s rfl rfl rfl λf w1 b5 h s=>e9 ac 2 h rfl λf h=>ah (bU ac 1 h rfl λf h=>ag (V:=.int .i64 x.1) (ae (aJ.of_own s 0 rfl) 0 (Zt _ _ _ _)) h bJ rfl rfl λf h=>jK ac h rfl (aH2 (by omega)) λf h=>iY h rfl (bU ac 1 h rfl λf h=>ag (V:=.int .i64 x.1) (ae (aJ.of_own s 0 rfl) 0 (Zt _ _ _ _)) h bJ rfl rfl λf h=>e9 ac 2 h rfl λf h=>rt (fc rfl h s rfl rfl (rfl)))))
set_option maxHeartbeats 1000000 in
theorem xd (vo vs vh vl vn:Value) (X:Wx) (N:List Nt) (kk:List Nat) (bc:Nat) (B9:List Own) (x:Nt) (w0 w:World) (s:St w0 (.blk bc (.cells (gJ vo vs vh vl X.M.last X.M.now vn) 84)::.sl vn 91 74 N.length (bM N)::.grp kk (λw9=>RdC w9 vo vl X)::B9) w) (hNl:N.length<=100000):Calls Tryz.prog 117 [.pointer (some ⟨bc,0,none⟩),.agg (zG x.k x.tm x.no x.wa x.le x.tr x.d x.y)].toArray w (λe w9=>∃ v,e=.returned v/\∃ vm,St w0 (.blk bc (.cells (gJ vo vs vh vl X.M.last X.M.now vm) 84)::.sl vm 91 74 (N++[({x with tm:=X.M.now}:Nt)]).length (bM (N++[({x with tm:=X.M.now}:Nt)]))::.grp kk (λw9=>RdC w9 vo vl X)::B9) w9):=by
 refine c7 Tryz.func117 rfl Tryz.ntmps117 rfl [(0,.pointer (some ⟨bc,0,none⟩)),(1,.agg (zG x.k x.tm x.no x.wa x.le x.tr x.d x.y))] (by simp) λf h=>?_
 refine qr (aV (zG x.k x.tm x.no x.wa x.le x.tr x.d x.y) h s rfl rfl rfl λf w1 b3 h s=>nt (bU ac 5 h rfl λf h=>ag (V:=.int .i64 X.M.now) (ae (aJ.of_own s 1 rfl) 5 (TH _ _ _ _ _ _ _)) h bJ rfl rfl λf h=>am ac 1 h rfl λf h=>aM 0 h s bJ rfl rfl rfl (by rw [tY];omega) (rfl) λw1 s=>?_))
 replace s:=s.recell (D:=zG x.k (X.M.now) x.no x.wa x.le x.tr x.d x.y) 0 rfl (rfl)
 refine nt ?_
 replace s:=s.bring 2 rfl
 refine fC 1 8 [[],[],[1],[1,2],[1,2,3],[],[5],[1,2,3,4,5,6],[0,1,2,3,4,5,6,7],[0,1,2,3,4,5,6,7,8],[0,1,2,3,4,5,6,7,8,9]] [[],[],[],[],[],[],[],[6,11],[],[],[]] [[_]] [.v _,.v _,.v _,.v _,.v vn,.v (.agg (zG x.k (X.M.now) x.no x.wa x.le x.tr x.d x.y)),.m (λv=>[.sl (v 6) 91 74 1 (bM [({x with tm:=X.M.now}:Nt)])]),.m (λv=>[.sl (v 7) 91 74 (N++[({x with tm:=X.M.now}:Nt)]).length (bM (N++[({x with tm:=X.M.now}:Nt)]))]),.n,.n,.n] _ h s rfl (by kernel_rfl) (by kernel_rfl) (by kernel_rfl) (gL ac h rfl rfl rfl (gL ac h rfl rfl rfl (gL ac h rfl rfl rfl (gL ac h rfl rfl rfl (cm ?_ (cm ?_ (cm ?_ (cm ?_ (trivial))))))))) [0,1,2,3,4,5,7] (by kernel_rfl) ?_
 ·intro f9 w2 vl2 E9 hs9 hd9 hl hF s
  have h:=cq [(14,_)] h hs9 hd9 ⟨a7 hl 14 3 (by kernel_rfl) (hF 3 (by decide)),trivial⟩
  refine ag (V:=vn) (ae (aJ.of_own s 1 rfl) 6 (ah0 _ _ _ _ _ _ _)) h NR rfl rfl λf h=>az ⟨_,br 15 h rfl rfl,rfl,s⟩
 ·intro f9 w2 vl2 E9 hs9 hd9 hl hF s
  have h:=cq [(3,_)] h hs9 hd9 ⟨fu hl 3 (by kernel_rfl) (h.holds 3 _ rfl),trivial⟩
  refine ak 0 h s Y3 rfl rfl (tY _ _ _ _ _ _ _ _) rfl λf h=>az ⟨_,br 16 h rfl rfl,rfl,s⟩
 ·intro f9 w2 vl2 E9 hs9 hd9 hl hF s
  have h:=cq [(16,_)] h hs9 hd9 ⟨a7 hl 16 5 (by kernel_rfl) (hF 5 (by decide)),trivial⟩
  refine cf (vs:=[.agg (zG x.k (X.M.now) x.no x.wa x.le x.tr x.d x.y)]) [.tmp 16] h s aS0 SY rfl rfl (λv hv=>by rw [aI4.1 hv];exact tY ..) rfl rfl rfl λf w1 v17 h s=>?_
  replace s:=s.resl (m:=1) (ys:=bM [({x with tm:=X.M.now}:Nt)]) 0 rfl rfl (by exact WF [] ({x with tm:=X.M.now}:Nt))
  exact az ⟨_,br 17 h rfl rfl,trivial,s⟩
 ·intro f9 w2 vl2 E9 hs9 hd9 hl hF s
  have h:=cq [(15,_),(17,_)] h hs9 hd9 ⟨a7 hl 15 4 (by kernel_rfl) (hF 4 (by decide)),ff hl 17 6 (by kernel_rfl) (by kernel_rfl),trivial⟩
  refine dD 1 0 h s aS0 SY rfl rfl rfl rfl (by decide) (xY [({x with tm:=X.M.now}:Nt)]) (by unfold maxLen;omega) (by omega) rfl λf w1 v18 h s=>?_
  replace s:=s.pick _ (aJ2 _ _)
  replace s:=s.resl (m:=(N++[({x with tm:=X.M.now}:Nt)]).length) (ys:=bM (N++[({x with tm:=X.M.now}:Nt)])) 0 rfl (by rw [aH7];rfl) (by rw [rh])
  exact az ⟨_,br 18 h rfl rfl,trivial,s⟩
 intro f w1 vl2 hs9 hd9 hv hr hF s
 replace hv:=λi d h9=>hv i d (show Nat.blt i 8=true from h9)
 replace h:=ew 8 (ops:=_) [(11,_),(12,_),(13,_),(14,_),(15,_),(16,_),(17,(vl2 6)),(18,(vl2 7))] h hs9 hd9 hr ⟨(hv 0 11 rfl rfl).trans (hF 0 rfl),(hv 1 12 rfl rfl).trans (hF 1 rfl),(hv 2 13 rfl rfl).trans (hF 2 rfl),(hv 3 14 rfl rfl).trans (hF 3 rfl),(hv 4 15 rfl rfl).trans (hF 4 rfl),(hv 5 16 rfl rfl).trans (hF 5 rfl),hv 6 17 rfl rfl,hv 7 18 rfl rfl,trivial⟩ (by kernel_rfl)
 replace s:St w0 (.sl (vl2 7) 91 74 (N++[({x with tm:=X.M.now}:Nt)]).length (bM (N++[({x with tm:=X.M.now}:Nt)]))::.blk b3 (.cells (zG x.k (X.M.now) x.no x.wa x.le x.tr x.d x.y) 91)::.blk bc (.cells (gJ vo vs vh vl X.M.last X.M.now vn) 84)::(.grp kk (λw9=>RdC w9 vo vl X))::B9) _:=s
 refine am ac 2 h rfl λf h=>aM 2 h s NR rfl rfl rfl (by rw [fR];omega) (bk (s.getSl 0 rfl)) λw1 s=>?_
 replace s:=s.recell (D:=gJ vo vs vh vl X.M.last X.M.now (vl2 7)) 2 rfl (rfl)
 refine az ?_
 exact cX rfl h (by replace s:=s.bring 3 rfl;replace s:=s.bring 1 rfl;replace s:=s.bring 3 rfl;exact ⟨_,rfl,_,(s.pick _ (aG7 _ (aG7 _ (aG7 _ (aG8 _ (List.Sublist.refl _))))))⟩)
set_option maxHeartbeats 1000000 in
theorem Mc (c9:Ac) (cv:Value) (w:World) (hA:iJ w cv c9.l):Calls Tryz.prog 14 [.agg (bQ c9 cv)].toArray w (cb w (is (.agg (bQ (d7 c9) (eT cv (min c9.l.length 6)))))):=by
 refine bK Tryz.func14 rfl Tryz.ntmps14 rfl λf h s=>qr (aV (bQ c9 cv) h s rfl rfl rfl λf w1 b1 h s=>aK (bQ Yi ax) h s UG rfl rfl λf w1 b2 h s=>nt (ah ?_))
 replace s:=s.bring 1 rfl
 refine' Xj 1 [[],[0],[],[2],[2,3],[2,3,4],[0,1,2,3,4,5],[],[7],[],[9],[9,10],[9,10,11],[7,8,9,10,11,12],[0,1,2,3,4,5,6,7,8,9,10],[0,1,2,3,4,5,6,7,8,9,10,14],[0,1,2,3,4,5,6,7,8,9,10,11,12,13,14,15],[0,1,2,3,4,5,6,7,8,9,10,11,12,13,14,15,16]] [[],[],[],[],[],[],[],[],[],[],[],[],[],[],[],[18],[],[15]] [[],[0],[],[0],[],[],[],[],[0],[],[0],[],[],[],[],[],[],[]] [[_]] [.v (.pointer (some ⟨b1,36,none⟩)),.v cv,.v (.pointer (some ⟨b1,36,none⟩)),.v cv,.v _,.v _,.v (eT cv (min c9.l.length 6)),.v (.pointer (some ⟨b1,37,none⟩)),.v (.string c9.d),.v (.pointer (some ⟨b1,37,none⟩)),.v (.string c9.d),.v _,.v _,.v (.string (c9.d.extract 0 (min c9.d.size 70))),.v (.pointer (some ⟨b1,36,none⟩)),.m (λv=>[.blk b1 (.cells (bQ ({c9 with l:=c9.l.take (min c9.l.length 6)}) (eT cv (min c9.l.length 6))) 45)]),.v (.pointer (some ⟨b1,37,none⟩)),.m (λv=>[.blk b1 (.cells (bQ (d7 c9) (eT cv (min c9.l.length 6))) 45)])] (λ_ _=>[]) _ h s rfl (by kernel_rfl) (by kernel_rfl) (by kernel_rfl) (by kernel_rfl) (cm ?_ (cm ?_ (cm ?_ (cm ?_ (cm ?_ (cm ?_ (cm ?_ (cm ?_ (cm ?_ (cm ?_ (cm ?_ (cm ?_ (cm ?_ (cm ?_ (cm ?_ (cm ?_ (cm ?_ (cm ?_ (trivial))))))))))))))))))) [0,1,2,3,4,5,6,7,8,9,10,11,12,13,14,16,17] (by kernel_rfl) ?_
 rotate_left 4
 ·intro f9 w2 vl1 E9 lst9 hlo hlc hlz hs9 hd9 hl hF hR9 s
  have h:=cq [(1,_)] h hs9 hd9 ⟨fu hl 1 (by kernel_rfl) (h.holds 1 _ rfl),trivial⟩
  refine am ac 1 h rfl λf h=>az ⟨_,br 3 h rfl rfl,rfl,s⟩
 ·intro f9 w2 vl1 E9 lst9 hlo hlc hlz hs9 hd9 hl hF hR9 s
  have hq9:Own.blk b1 (.cells (bQ c9 cv) 45)∈E9:=hR9 0 (by decide) _ aI5
  have h:=cq [(3,_)] h hs9 hd9 ⟨a7 hl 3 0 (by kernel_rfl) (hF 0 (by decide)),trivial⟩
  have hq8:Own.blk b1 (.cells (bQ c9 cv) 45)∈(.blk b2 (.cells (bQ Yi ax) 45)::E9):=by simp only [aI6,aK9,hq9,or_true]
  refine ag (V:=cv) (ae (aJ.of_mem s hq8) 36 (WV _ _)) h jA rfl rfl λf h=>az ⟨_,br 4 h rfl rfl,rfl,s⟩
 ·intro f9 w2 vl1 E9 lst9 hlo hlc hlz hs9 hd9 hl hF hR9 s
  have h:=cq [(1,_)] h hs9 hd9 ⟨fu hl 1 (by kernel_rfl) (h.holds 1 _ rfl),trivial⟩
  refine am ac 1 h rfl λf h=>az ⟨_,br 5 h rfl rfl,rfl,s⟩
 ·intro f9 w2 vl1 E9 lst9 hlo hlc hlz hs9 hd9 hl hF hR9 s
  have hq9:Own.blk b1 (.cells (bQ c9 cv) 45)∈E9:=hR9 0 (by decide) _ aI5
  have h:=cq [(5,_)] h hs9 hd9 ⟨a7 hl 5 2 (by kernel_rfl) (hF 2 (by decide)),trivial⟩
  have hq8:Own.blk b1 (.cells (bQ c9 cv) 45)∈(.blk b2 (.cells (bQ Yi ax) 45)::E9):=by simp only [aI6,aK9,hq9,or_true]
  refine ag (V:=cv) (ae (aJ.of_mem s hq8) 36 (WV _ _)) h jA rfl rfl λf h=>az ⟨_,br 6 h rfl rfl,rfl,s⟩
 ·intro f9 w2 vl1 E9 lst9 hlo hlc hlz hs9 hd9 hl hF hR9 s
  have h:=cq [(6,_)] h hs9 hd9 ⟨a7 hl 6 3 (by kernel_rfl) (hF 3 (by decide)),trivial⟩
  refine ck h (hA.keep s.ext) aS1 rfl rfl λf h=>az ⟨_,br 7 h rfl rfl,oFx rfl (by exact rfl),s⟩
 ·intro f9 w2 vl1 E9 lst9 hlo hlc hlz hs9 hd9 hl hF hR9 s
  have h:=cq [(7,_)] h hs9 hd9 ⟨a7 hl 7 4 (by kernel_rfl) (hF 4 (by decide)),trivial⟩
  refine ai h (NY (h.ev rfl) (h.ev rfl)) rfl λf h=>az ⟨_,br 8 h rfl rfl,oFx rfl (by exact rfl),s⟩
 ·intro f9 w2 vl1 E9 lst9 hlo hlc hlz hs9 hd9 hl hF hR9 s
  have h:=cq [(4,_),(8,_)] h hs9 hd9 ⟨a7 hl 4 1 (by kernel_rfl) (hF 1 (by decide)),a7 hl 8 5 (by kernel_rfl) (hF 5 (by decide)),trivial⟩
  refine ai h (eA (hA.keep s.ext) (min c9.l.length 6) aS1 As (h.ev rfl) (h.ev rfl) (by split<;>omega) (by omega)) rfl λf h=>az ⟨_,br 9 h rfl rfl,rfl,s⟩
 ·intro f9 w2 vl1 E9 lst9 hlo hlc hlz hs9 hd9 hl hF hR9 s
  have h:=cq [(1,_)] h hs9 hd9 ⟨fu hl 1 (by kernel_rfl) (h.holds 1 _ rfl),trivial⟩
  refine am ac 1 h rfl λf h=>az ⟨_,br 10 h rfl rfl,rfl,s⟩
 ·intro f9 w2 vl1 E9 lst9 hlo hlc hlz hs9 hd9 hl hF hR9 s
  have hq9:Own.blk b1 (.cells (bQ c9 cv) 45)∈E9:=hR9 0 (by decide) _ aI5
  have h:=cq [(10,_)] h hs9 hd9 ⟨a7 hl 10 7 (by kernel_rfl) (hF 7 (by decide)),trivial⟩
  have hq8:Own.blk b1 (.cells (bQ c9 cv) 45)∈(.blk b2 (.cells (bQ Yi ax) 45)::E9):=by simp only [aI6,aK9,hq9,or_true]
  refine ag (V:=.string c9.d) (ae (aJ.of_mem s hq8) 37 (H7 _ _)) h jv rfl rfl λf h=>az ⟨_,br 11 h rfl rfl,rfl,s⟩
 ·intro f9 w2 vl1 E9 lst9 hlo hlc hlz hs9 hd9 hl hF hR9 s
  have h:=cq [(1,_)] h hs9 hd9 ⟨fu hl 1 (by kernel_rfl) (h.holds 1 _ rfl),trivial⟩
  refine am ac 1 h rfl λf h=>az ⟨_,br 12 h rfl rfl,rfl,s⟩
 ·intro f9 w2 vl1 E9 lst9 hlo hlc hlz hs9 hd9 hl hF hR9 s
  have hq9:Own.blk b1 (.cells (bQ c9 cv) 45)∈E9:=hR9 0 (by decide) _ aI5
  have h:=cq [(12,_)] h hs9 hd9 ⟨a7 hl 12 9 (by kernel_rfl) (hF 9 (by decide)),trivial⟩
  have hq8:Own.blk b1 (.cells (bQ c9 cv) 45)∈(.blk b2 (.cells (bQ Yi ax) 45)::E9):=by simp only [aI6,aK9,hq9,or_true]
  refine ag (V:=.string c9.d) (ae (aJ.of_mem s hq8) 37 (H7 _ _)) h jv rfl rfl λf h=>az ⟨_,br 13 h rfl rfl,rfl,s⟩
 ·intro f9 w2 vl1 E9 lst9 hlo hlc hlz hs9 hd9 hl hF hR9 s
  have h:=cq [(13,_)] h hs9 hd9 ⟨a7 hl 13 10 (by kernel_rfl) (hF 10 (by decide)),trivial⟩
  refine ai h (dU aR4 (h.ev rfl)) rfl λf h=>az ⟨_,br 14 h rfl rfl,oFx rfl (by exact rfl),s⟩
 ·intro f9 w2 vl1 E9 lst9 hlo hlc hlz hs9 hd9 hl hF hR9 s
  have h:=cq [(14,_)] h hs9 hd9 ⟨a7 hl 14 11 (by kernel_rfl) (hF 11 (by decide)),trivial⟩
  refine ai h (NY (h.ev rfl) (h.ev rfl)) rfl λf h=>az ⟨_,br 15 h rfl rfl,oFx rfl (by exact rfl),s⟩
 ·intro f9 w2 vl1 E9 lst9 hlo hlc hlz hs9 hd9 hl hF hR9 s
  have h:=cq [(11,_),(15,_)] h hs9 hd9 ⟨a7 hl 11 8 (by kernel_rfl) (hF 8 (by decide)),a7 hl 15 12 (by kernel_rfl) (hF 12 (by decide)),trivial⟩
  refine ai h (yL (min c9.d.size 70) aR4 (h.ev rfl) (h.ev rfl) (by split<;>omega) (by omega)) rfl λf h=>az ⟨_,br 16 h rfl rfl,rfl,s⟩
 ·intro f9 w2 vl1 E9 lst9 hlo hlc hlz hs9 hd9 hl hF hR9 s
  have h:=cq [(1,_)] h hs9 hd9 ⟨fu hl 1 (by kernel_rfl) (h.holds 1 _ rfl),trivial⟩
  refine am ac 1 h rfl λf h=>az ⟨_,br 17 h rfl rfl,rfl,s⟩
 ·intro f9 w2 vl1 E9 lst9 hlo hlc hlz hs9 hd9 hl hF hR9 s
  have h:=cq [(17,_),(9,_)] h hs9 hd9 ⟨a7 hl 17 14 (by kernel_rfl) (hF 14 (by decide)),a7 hl 9 6 (by kernel_rfl) (hF 6 (by decide)),trivial⟩
  refine aM 0 h s jA rfl rfl rfl (by rw [eo];omega) (bI ((zc (hA.keep s.ext) _ (Nat.min_le_left _ _)))) λw1 s=>?_
  replace s:=s.recell (D:=bQ c9 (eT cv (min c9.l.length 6))) 0 rfl (LT _ _ _)
  replace s:=s.recell (D:=bQ ({c9 with l:=c9.l.take (min c9.l.length 6)}) (eT cv (min c9.l.length 6))) 0 rfl rfl
  exact az ⟨undef,gV rfl,trivial,s⟩
 ·intro f9 w2 vl1 E9 lst9 hlo hlc hlz hs9 hd9 hl hF hR9 s
  have h:=cq [(1,_)] h hs9 hd9 ⟨fu hl 1 (by kernel_rfl) (h.holds 1 _ rfl),trivial⟩
  refine am ac 1 h rfl λf h=>az ⟨_,br 18 h rfl rfl,rfl,s⟩
 ·intro f9 w2 vl1 E9 lst9 hlo hlc hlz hs9 hd9 hl hF hR9 s
  have h:=cq [(18,_),(16,_)] h hs9 hd9 ⟨a7 hl 18 16 (by kernel_rfl) (hF 16 (by decide)),a7 hl 16 13 (by kernel_rfl) (hF 13 (by decide)),trivial⟩
  refine aM 0 h s jv rfl rfl rfl (by rw [eo];omega) (rfl) λw1 s=>?_
  replace s:=s.recell (D:=bQ ({({c9 with l:=c9.l.take (min c9.l.length 6)}) with d:=((c9.d.extract 0 (min c9.d.size 70)))}) (eT cv (min c9.l.length 6))) 0 rfl (Qt _ _ _)
  replace s:=s.recell (D:=bQ (d7 c9) (eT cv (min c9.l.length 6))) 0 rfl rfl
  exact az ⟨undef,gV rfl,trivial,s⟩
 intro f w1 vl1 hs9 hd9 hv hr hF s
 replace h:=wu (ops:=_) [(3,_),(4,_),(5,_),(6,_),(7,_),(8,_),(9,_),(10,_),(11,_),(12,_),(13,_),(14,_),(15,_),(16,_),(17,_),(18,_)] h hs9 hd9 hr ⟨(hv 0 3 rfl).trans (hF 0 rfl),(hv 1 4 rfl).trans (hF 1 rfl),(hv 2 5 rfl).trans (hF 2 rfl),(hv 3 6 rfl).trans (hF 3 rfl),(hv 4 7 rfl).trans (hF 4 rfl),(hv 5 8 rfl).trans (hF 5 rfl),(hv 6 9 rfl).trans (hF 6 rfl),(hv 7 10 rfl).trans (hF 7 rfl),(hv 8 11 rfl).trans (hF 8 rfl),(hv 9 12 rfl).trans (hF 9 rfl),(hv 10 13 rfl).trans (hF 10 rfl),(hv 11 14 rfl).trans (hF 11 rfl),(hv 12 15 rfl).trans (hF 12 rfl),(hv 13 16 rfl).trans (hF 13 rfl),(hv 14 17 rfl).trans (hF 14 rfl),(hv 16 18 rfl).trans (hF 16 rfl),trivial⟩ (by kernel_rfl)
 refine aD (qr (ak 0 h s tJ rfl rfl (eo _ _) rfl λf h=>al 1 h s tJ rfl rfl rfl (eo _ _) (eo _ _) (uy _ _ (bI (zc hA _ (Nat.min_le_left _ _)))) λw1 s=>nt (aL3 (lH 1 rfl h s tJ rfl rfl (eo _ _) (rfl)))))
theorem Lv (l:List V2) (vh:Value) (g9:Nat) (caps:List Value) (p:V2->Bool) (w:World) (hR:bs w vh 3 l.length (a8 l)) (hln:l.length<=1000) (hg:Fnc Tryz.prog g9) (hp:∀ w9,Ext w w9->∀ x∈l,Calls Tryz.prog g9 (.agg (bC x.1.no x.1.sec x.2)::caps).toArray w9 (cb w9 (is (.bool (p x))))):Calls Tryz.prog 218 [vh,.func (.func g9) #[] caps.toArray].toArray w (cb w (λv _=>∃ r:Int,v=.int .i64 r/\((r = -1/\∀ x∈l,p x=false)∨∃ k:Nat,k<l.length/\r=(k:Int)/\p (l.getD k cd)=true/\∀ i,i<k->p (l.getD i cd)=false))):=by
 refine bK Tryz.func218 rfl Tryz.ntmps218 rfl λf h s=>bE ac 1 h rfl λf h=>ah (bU ac 1 h rfl λf h=>ck h (hR.keep s.ext) aR6 rfl rfl λf h=>e9 ac 1 h rfl λf h=>aL4 (aL6 (λnn aa ww=>∃ k:Nat,Sl 19 aa [(0,vh),(1,.func (.func g9) #[] caps.toArray),(6,vh),(7,.int .i64 (l.length:Int)),(8,.int .i64 (k:Int))]/\St w [] ww/\nn=l.length - k/\k<=l.length/\∀ i,i<k->p (l.getD i cd)=false) (l.length - (0)) ⟨0,h.only ⟨rfl,rfl,rfl,rfl,ao rfl (by omega),trivial⟩,s.as trivial,rfl,aJ3 _,λi hi=>aO7 hi (aM6 _)⟩ ?_))
 rintro _ f w1 ⟨k,h,s,hnn,hp0,hp1⟩
 refine bE ac 1 h rfl λf h=>ah (cB h rfl (λhc=>?_) (λhc=>?_))
 ·refine kt (ah (aL4 (bE ac 2 h rfl λf h=>qr ?_)))
  have hkl:k<l.length:=by omega
  refine am ac 3 h rfl λf h=>ai h (bj (hR.keep s.ext) (k) aR6 kB (h.ev rfl) (h.ev rfl) (by omega) (by omega)) rfl λf h=>ap ((hR.keep s.ext).el (k) (by omega) (by decide) (D:=bC (l.getD k cd).1.no (l.getD k cd).1.sec (l.getD k cd).2) (nJ l k hkl)) h cC rfl (aG _ _ _) rfl λf h=>cJ [.agg (bC (l.getD k cd).1.no (l.getD k cd).1.sec (l.getD k cd).2)] (caps:=caps) h s hg rfl (hp _ s.ext _ (cK hkl)) rfl rfl ?_;intro f w1 v9 hT hE h s;obtain rfl:=hT
  refine nt (bV h rfl (λhc=>?_) (λhc=>?_))
  ·refine bE ac 2 h rfl λf h=>aL3 (bA (aS (aS (bA (aS (av rfl h s rfl (⟨_,rfl,.inr ⟨k,hkl,rfl,hc,hp1⟩⟩)))))))
  ·refine wpIn_skip (aW (aD (aw (ai h (bo (h.ev rfl) (h.ev rfl) (by omega)) rfl λf h=>e9 ac 1 h rfl λf h=>?_))))
   exact ⟨_,by omega,⟨k+1,h.only ⟨rfl,rfl,rfl,rfl,ao rfl (by omega),trivial⟩,St.as s trivial,rfl,by omega,fF (q:=λj=>p (l.getD j cd)) hp1 hc⟩⟩
 ·refine aL5 (aO (aO (bS (aD (bE ac 1 h rfl λf h=>aL3 (av rfl h s rfl (⟨_,rfl,.inl ⟨rfl,λx hx=>(by obtain ⟨i,hi,rfl⟩:=YV hx;exact hp1 i (by omega))⟩⟩)))))))
set_option maxHeartbeats 1000000 in
theorem MO (l:List V2) (hln:l.length<=1000) (hx9:∀ x∈l,x.2.oneCell'=true) (vh:Value) (g9:Nat) (caps:List Value) (p:V2->Bool) (B9:List Own) (w0 w:World) (s:St w0 (.sl vh 54 3 (l).length (a8 (l))::B9) w) (hg:Fnc Tryz.prog g9) (hp:∀ (A9:List Own) (w9:World),St w0 (A9++B9) w9->∀ x∈l,Calls Tryz.prog g9 (.agg (bC x.1.no x.1.sec x.2)::caps).toArray w9 (cb w9 (is (.bool (p x))))):Calls Tryz.prog 157 [vh,.func (.func g9) #[] caps.toArray].toArray w (λe w9=>∃ v9,e=.returned v9/\St w0 (.sl v9 54 3 ((l.filter λx => !p x)).length (a8 ((l.filter λx => !p x)))::B9) w9):=by
 refine c7 Tryz.func157 rfl Tryz.ntmps157 rfl [(0,vh),(1,.func (.func g9) #[] caps.toArray)] (by simp) λf h=>?_
 refine bE ac 1 h rfl λf h=>bU ac 2 h rfl λf h=>aY h s XK (Lv l vh g9 caps p _ (bs.of_own (s.getSl 0 rfl)) hln hg (λw9 h9 x hx=>hp [_] w9 (s.more h9) x hx)) rfl rfl ?_;rintro f w1 v9 ⟨r9,rfl,hr⟩ hE h s
 refine e9 ac 1 h rfl λf h=>ah (bE ac 2 h rfl λf h=>bV h rfl (λhc=>?_) (λhc=>?_))
 ·have hc:=aG9 hc
  have hn:=(hr.resolve_right (λ⟨k9,_,h9,_⟩=>by omega)).2
  refine bE ac 2 h rfl λf h=>rt (dK rfl h rfl (⟨_,rfl,IZ (C:=a8) (Dp hn).symm s⟩))
 ·obtain ⟨k9,ie,rfl,hpk,hpf⟩:=hr.resolve_left (λh9=>aH0 hc h9.1)
  have hqk:(!p (l.getD k9 cd))=false:=by rw [hpk];rfl
  obtain ⟨hst1,hst2⟩:=Ir cd (q:=(λx => !p x)) ie (λi hi=>by rw [hpf i hi];rfl) hqk
  refine kt (ah (bU ac 1 h rfl λf h=>ai h (bo (h.ev rfl) (h.ev rfl) (by omega)) rfl λf h=>e9 ac 1 h rfl λf h=>aL4 (aL6 (λnn aa ww=>∃ j:Nat,Sl 42 aa [(0,vh),(1,.func (.func g9) #[] caps.toArray),(8,vh),(5,.int .i64 (((oY (λx => !p x) l j):Nat):Int)),(6,.int .i64 (j:Int))]/\St w0 (.sl vh 54 3 (l).length (a8 (zI (λx => !p x) l j))::B9) ww/\nn=l.length - j/\k9+1<=j/\j<=l.length) (l.length - (k9+1)) ⟨k9+1,h.only ⟨rfl,rfl,rfl,ao rfl (by omega),ao rfl (by omega),trivial⟩,s.as ⟨eC rfl (by rw [hst1]),fx _⟩,rfl,by omega,by omega⟩ ?_)))
  rintro _ f w1 ⟨j,h,s,hnn,hp0,hp1⟩
  refine ah (bU ac 2 h rfl λf h=>eK 0 h s aR6 rfl rfl rfl λf h=>e9 ac 1 h rfl λf h=>cB h rfl (λhc=>?_) (λhc=>?_))
  ·refine kt (ah (aL4 (qr ?_)))
   have hjl:j<l.length:=by omega
   have hix:=DU (λx => !p x) l j
   refine am ac 2 h rfl λf h=>ai h (bj (bs.of_own (s.getSl 0 rfl)) (j) aR6 kB (h.ev rfl) (h.ev rfl) (rfl) (by omega)) rfl λf h=>ap ((bs.of_own (s.getSl 0 rfl)).el (j) (by omega) (by decide) (D:=bC (l.getD j cd).1.no (l.getD j cd).1.sec (l.getD j cd).2) ((nJ (zI (λx => !p x) l j) j (by rw [Gv];omega)).trans (by rw [QN cd hjl]))) h cC rfl (aG _ _ _) rfl λf h=>aK (bC 0 ByteArray.empty ax) h s i4 rfl rfl λf w1 b7 h s=>al 0 h s cC rfl rfl rfl (aG _ _ _) (aG _ _ _) (cA _ _ ((hx9 _ (cK hjl)))) λw1 s=>nt (ah ?_)
   cases hq:(p (l.getD j cd):Bool)
   ·refine rs ac 1 h rfl λf h=>ak 0 h s cC rfl rfl (aG _ _ _) rfl λf h=>cJ [.agg (bC (l.getD j cd).1.no (l.getD j cd).1.sec (l.getD j cd).2)] (caps:=caps) h s hg rfl (hp [_,_] _ s _ (cK hjl)) rfl rfl ?_;intro f w1 v28 hT hE h s;obtain rfl:=hT
    refine gW ac (.bool true) h rfl (by rw [hq];rfl) rfl λf h=>iY h rfl (bU ac 2 h rfl λf h=>ak 0 h s cC rfl rfl (aG _ _ _) rfl λf h=>ai h (bj (bs.of_own (s.getSl 1 rfl)) ((oY (λx => !p x) l j)) aR6 kB (h.ev rfl) (h.ev rfl) (rfl) (by omega)) rfl λf h=>fI 1 ((oY (λx => !p x) l j)) h s cC rfl rfl rfl (aG _ _ _) (by omega) (cA _ _ (hx9 _ (cK hjl))) ((CI (K:=(zI (λx => !p x) l j)) (by rw [Gv];omega) (l.getD j cd)).trans (aH3 a8 (EZ cd (q:=(λx => !p x)) hjl (by rw [hq];rfl)).1.symm)) λw1 s=>nt (rs ac 1 h rfl λf h=>ai h (bo (h.ev rfl) (h.ev rfl) (by omega)) rfl λf h=>am ac 1 h rfl λf h=>az (aW (aD (rs ac 1 h rfl λf h=>ai h (bo (h.ev rfl) (h.ev rfl) (by omega)) rfl λf h=>e9 ac 1 h rfl λf h=>?_)))))
    have h8:=(EZ cd (q:=(λx => !p x)) hjl (by rw [hq];rfl)).2
    exact ⟨_,by omega,⟨j+1,h.only ⟨rfl,rfl,rfl,ao rfl (by omega),ao rfl (by omega),trivial⟩,St.as (s.pick _ (aI8 [_] _)) ⟨rfl,fx _⟩,rfl,by omega,by omega⟩⟩
   ·refine rs ac 1 h rfl λf h=>ak 0 h s cC rfl rfl (aG _ _ _) rfl λf h=>cJ [.agg (bC (l.getD j cd).1.no (l.getD j cd).1.sec (l.getD j cd).2)] (caps:=caps) h s hg rfl (hp [_,_] _ s _ (cK hjl)) rfl rfl ?_;intro f w1 v28 hT hE h s;obtain rfl:=hT
    refine gW ac (.bool false) h rfl (by rw [hq];rfl) rfl λf h=>wV h rfl (wpIn_skip (aW (aD (rs ac 1 h rfl λf h=>ai h (bo (h.ev rfl) (h.ev rfl) (by omega)) rfl λf h=>e9 ac 1 h rfl λf h=>?_))))
    obtain ⟨h7,h8⟩:=Kv cd (q:=(λx => !p x)) hjl (by rw [hq];rfl)
    exact ⟨_,by omega,⟨j+1,h.only ⟨rfl,rfl,rfl,ao rfl (by omega),ao rfl (by omega),trivial⟩,St.as (s.pick _ (aI8 [_] _)) ⟨eC rfl (by rw [h7]),fx _⟩,rfl,by omega,by omega⟩⟩
  ·refine aL5 (aO (aO (bS (aD (qr ?_)))))
   obtain rfl:j=l.length:=by omega
   have hlt:=UV cd (q:=(λx => !p x)) ie hqk
   have hI:=Rm (λx => !p x) l
   obtain ⟨b9,cap,cur,fz,hvh,hfz,hnc,hcm,hcs,hct,s2⟩:=s.open_sl (by omega)
   clear s
   subst hvh
   have s:=s2
   have hz9:(Value.agg (bC cd.1.no cd.1.sec cd.2)).cells.size=3:=aG _ _ _
   refine am ac 2 h rfl λf h=>ai h (bz (.slice (some ⟨b9,(oY (λx => !p x) l l.length)*3,none⟩) (l.length - (oY (λx => !p x) l l.length)) (cap - (oY (λx => !p x) l l.length))) (i5 (i:=(oY (λx => !p x) l l.length)) aR6 kB (h.ev rfl) (h.ev rfl) rfl (by omega)) (by unfold Yl;rw [if_neg (by omega)])) rfl λf h=>mD (fz:=fz) (Z:=.agg (bC cd.1.no cd.1.sec cd.2)) 0 h s aR6 i4 rfl (by omega) rfl hfz (by rw [hz9];omega) (cA _ _ rfl) ?_;intro w1 s
   refine nt (bU ac 2 h rfl λf h=>ai h (i7 (i:=(oY (λx => !p x) l l.length)) aR6 kB (h.ev rfl) (h.ev rfl) rfl (by omega)) rfl λf h=>e9 ac 1 h rfl λf h=>aL3 (dK rfl h rfl (⟨_,rfl,(by have hzl:(Builtin.zeroCells (Value.agg (bC cd.1.no cd.1.sec cd.2)).cells (l.length - (oY (λx => !p x) l l.length))).toList.length=(l.length - (l.filter λx => !p x).length)*3:=(by rw [aI2,size_zeroCells,hz9,hI]);obtain ⟨hf1,hf2⟩:=XX cur.toList _ (λx => !p x) l hct (by have e9:=aI2 (xs:=cur);omega) hzl ((oY (λx => !p x) l l.length)*3) (by rw [hI]) ((l.length - (oY (λx => !p x) l l.length))*(Value.agg (bC cd.1.no cd.1.sec cd.2)).cells.size) (by rw [hz9,hI]);rw [← hI];exact s.close_sl (by rw [List.size_toArray];exact hfz.imp id λh9=>(by rw [hf1,aI2];exact h9)) (by omega) hcm (by rw [List.size_toArray];exact hf1.trans hcs) hf2 (by rw [Cj,hI]))⟩)))
theorem Nq (x:V2) (n:Int) (bx:Nat) (w:World) (hx9:x.2.oneCell'=true) (hb:gq w bx #[.int .i64 n]):Calls Tryz.prog 158 [.agg (bC x.1.no x.1.sec x.2),.pointer (some ⟨bx,0,none⟩)].toArray w (cb w (is (.bool (decide (x.1.no=n))))):=by
 refine bK Tryz.func158 rfl Tryz.ntmps158 rfl λf h s=>qr (aV (bC x.1.no x.1.sec x.2) h s rfl rfl rfl λf w1 b2 h s=>e9 ac 1 h rfl λf h=>bU ac 1 h rfl λf h=>ag (V:=.int .i64 x.1.no) (ae (aJ.of_own s 0 rfl) 0 (CY _ _ _)) h bJ rfl rfl λf h=>ag (V:=.int .i64 n) (ae (aJ.of_tab (hb.keep s.ext)) 0 (rfl)) h bJ rfl rfl λf h=>e9 ac 2 h rfl λf h=>aL3 (av rfl h s rfl (rfl)))
set_option maxHeartbeats 1000000 in
theorem HF (vo vs vh vl vn uo:Value) (la nw n:Int) (S:List V2) (bc:Nat) (B9:List Own) (w0 w:World) (s:St w0 (.blk bc (.cells (gJ vo vs vh vl la nw vn) 84)::.sl vs 54 3 S.length (a8 S)::B9) w) (hSl:S.length<=1000) (hx9:∀ x∈S,x.2.oneCell'=true) (hu1:uo.oneCell'=true):Calls Tryz.prog 101 [.pointer (some ⟨bc,0,none⟩),.agg #[uo],.int .i64 n].toArray w (λe w9=>∃ v,e=.returned v/\∃ v9,St w0 (.blk bc (.cells (gJ uo v9 vh vl la nw vn) 84)::.sl v9 54 3 (S.filter λx => !decide (x.1.no=n)).length (a8 (S.filter λx => !decide (x.1.no=n)))::B9) w9):=by
 refine c7 Tryz.func101 rfl Tryz.ntmps101 rfl [(0,.pointer (some ⟨bc,0,none⟩)),(1,.agg #[uo]),(2,.int .i64 n)] (by simp) λf h=>?_
 refine qr (aV (#[uo]) h s rfl rfl rfl λf w1 b4 h s=>aV (#[.int .i64 n]) h s rfl rfl rfl λf w1 b5 h s=>nt (bU ac 1 h rfl λf h=>ak 1 h s bN rfl rfl (rfl) rfl λf h=>am ac 3 h rfl λf h=>iP 2 h s bN rfl rfl rfl (rfl) (by rw [fR];omega) (cN (hu1)) λw1 s=>?_))
 replace s:=s.recell (D:=gJ uo vs vh vl la nw vn) 2 rfl rfl
 refine nt (rs ac 5 h rfl λf h=>ag (V:=vs) (ae (aJ.of_own s 2 rfl) 1 (Xo _ _ _ _ _ _ _)) h ij rfl rfl λf h=>ai h (cO [.pointer (some ⟨b5,0,none⟩)] (ke h rfl)) rfl λf h=>?_)
 replace s:=s.bring 3 rfl
 refine cM [vs,.func (.func 158) #[] #[.pointer (some ⟨b5,0,none⟩)]] h Vl (MO S hSl hx9 vs 158 [.pointer (some ⟨b5,0,none⟩)] (λx=>decide (x.1.no=n)) _ _ _ s WO (λA9 w9 s9 x hx=>Nq x n b5 w9 (hx9 x hx) (gq.of_mem (u:=3) s9 (by simp)))) rfl rfl ?_;rintro f w1 v18 s h
 refine am ac 3 h rfl λf h=>aM 3 h s ij rfl rfl rfl (by rw [fR];omega) (bk (s.getSl 0 rfl)) λw1 s=>?_
 replace s:=s.recell (D:=gJ uo v18 vh vl la nw vn) 3 rfl (rfl)
 refine az ?_
 exact cX rfl h (by replace s:=s.bring 3 rfl;exact ⟨_,rfl,_,(s.pick _ (aG7 _ (aG7 _ (aG8 _ (aG8 _ (List.Sublist.refl _))))))⟩)
end Go.Proofs.YthmlflaiidhoiaaGreatDoor
