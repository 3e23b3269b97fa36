/- Package world and what it stands on, so far as it is wanted: what each function answers. -/
import Derived.Test.YtkhepdpfdhdlaaaGreatDoorCon
set_option linter.unusedVariables false
set_option linter.unusedSimpArgs false
set_option linter.unusedSectionVars false
namespace Go.Proofs.YtkhepdpfdhdlaaaGreatDoor
open Go.RowKit
set_option maxHeartbeats 1000000 in
theorem IK (X:Wx) (vo vs vh vl:Value)  (w:World) (hX:RdW w vo vs vh vl X) (hbL:X.L.length<=maxLen) (hbS:X.S.length<=maxLen) (hbH:X.H.length<=maxLen):Calls Tryz.prog 6 [.agg (dV vo vs vh vl X.M.last X.M.now)].toArray w (cd w (is (.bool (rQ (aH X))))):=by
 unfold maxLen at hbL hbS hbH
 refine bN Tryz.func6 rfl Tryz.ntmps6 rfl λf h s=>qr (aZ (dV vo vs vh vl X.M.last X.M.now) h s rfl rfl rfl λf w1 b1 h s=>e9 ac 1 h rfl λf h=>ah (cw ac 1 h rfl λf h=>ag (V:=vs) (ae (aF.of_own s 0 rfl) 1 (jv _ _ _ _ _ _)) h fB rfl rfl λf h=>bT h (hX.sv.keep s.ext) aC1 rfl rfl λf h=>e9 ac 1 h rfl λf h=>av9 (aw1 (λnn aa ww=>∃ k:Nat,Sl 88 aa [(0,.agg (dV vo vs vh vl X.M.last X.M.now)),(1,.pointer (some ⟨b1,0,none⟩)),(10,vs),(11,.int .i64 (X.S.length:Int)),(12,.int .i64 (k:Int))]/\St w [.blk b1 (.cells (dV vo vs vh vl X.M.last X.M.now) 31)] ww/\nn=X.S.length - k/\k<=X.S.length/\∀ j,j<k->GB (X.S.getD j d4).1=false) (X.S.length - (0)) ⟨0,h.only ⟨rfl,rfl,rfl,rfl,aD rfl (by omega),trivial⟩,s.as ⟨rfl,trivial⟩,rfl,at8 _,λj hj=>az2 hj (ax1 _)⟩ ?_)))
 rintro _ f w1 ⟨k,h,s,hnn,hp0,hp1⟩
 refine bJ ac 1 h rfl λf h=>ah (dA h rfl (λhc=>?_) (λhc=>?_))
 ·refine kt (ah (av9 (qr ?_)))
  have hkl:k<X.S.length:=by omega
  refine am h (bg (hX.sv.keep s.ext) (k) aC1 pA (h.ev rfl) (h.ev rfl) (by omega) (by omega)) rfl λf h=>az ((hX.sv.keep s.ext).el (k) (by omega) (by decide) (D:=de (X.S.getD k d4).1.no (X.S.getD k d4).1.sec (X.S.getD k d4).2) (uA _ k hkl)) h ip rfl (cD _ _ _) rfl λf h=>aO (de 0 ByteArray.empty au) h s B7 rfl rfl λf w1 b4 h s=>aj 0 h s ip rfl rfl rfl (cD _ _ _) (cD _ _ _) (m7 _ _ (bR ((hX.sw _ (fY hkl)).keep s.ext))) λw1 s=>nt (ah ?_)
  refine rs ac 1 h rfl λf h=>ag (V:=(X.S.getD k d4).2) (ae (aF.of_own s 0 rfl) 2 (OY _ _ _)) h tN rfl rfl λf h=>bT h ((hX.sw _ (fY hkl)).keep s.ext) aC6 rfl rfl λf h=>kE ac (GB (X.S.getD k d4).1) h rfl ((as8.2 (by omega))) (λs0 f h=>?_) (λs0 f h=>?_)
  ·refine oW h rfl (wpIn_skip (bo (aK (aG (am h (bY (h.ev rfl) (h.ev rfl) (by omega)) rfl λf h=>e9 ac 1 h rfl λf h=>?_)))))
   exact ⟨_,by omega,⟨k+1,h.only ⟨rfl,rfl,rfl,rfl,aD rfl (by omega),trivial⟩,St.as (s.pick _ (at3 [_] _)) ⟨rfl,trivial⟩,rfl,by omega,eu hp1 (s0)⟩⟩
  ·refine gh h rfl (bJ ac 1 h rfl λf h=>av8 (bh (aU (aU (bh (aU (aA rfl h s rfl (by show _=_;rw [Yf hkl s0]))))))))
 ·refine aw0 (ba (ba (cj (aK (ah (qr ?_))))))
  have hA:∀ j,j<X.S.length->GB (X.S.getD j d4).1=false:=λj hj=>hp1 j (by omega)
  refine al ac 2 h rfl λf h=>ag (V:=vo) (ae (aF.of_own s 0 rfl) 0 (zW _ _ _ _ _ _)) h ew rfl rfl λf h=>bT h (hX.ov.1.keep s.ext) aC0 rfl rfl λf h=>e9 ac 1 h rfl λf h=>av9 (aw1 (λnn aa ww=>∃ k:Nat,Sl 88 aa [(0,.agg (dV vo vs vh vl X.M.last X.M.now)),(1,.pointer (some ⟨b1,0,none⟩)),(23,vo),(24,.int .i64 (X.L.length:Int)),(25,.int .i64 (k:Int))]/\St w [.blk b1 (.cells (dV vo vs vh vl X.M.last X.M.now) 31)] ww/\nn=X.L.length - k/\k<=X.L.length/\∀ j,j<k->yw (X.L.getD j z3).1=false) (X.L.length - (0)) ⟨0,h.only ⟨rfl,rfl,rfl,rfl,aD rfl (by omega),trivial⟩,s.as ⟨rfl,trivial⟩,rfl,at8 _,λj hj=>az2 hj (ax1 _)⟩ ?_)
  rintro _ f w1 ⟨k,h,s,hnn,hp0,hp1⟩
  refine bJ ac 1 h rfl λf h=>ah (dA h rfl (λhc=>?_) (λhc=>?_))
  ·refine kt (ah (av9 (qr ?_)))
   have hkl:k<X.L.length:=by omega
   refine am h (bg (hX.ov.1.keep s.ext) (k) aC0 mt (h.ev rfl) (h.ev rfl) (by omega) (by omega)) rfl λf h=>az ((hX.ov.1.keep s.ext).el (k) (by omega) (by decide) (D:=aP (X.L.getD k z3).1.me (X.L.getD k z3).1.pr (X.L.getD k z3).2.1 (X.L.getD k z3).2.2) (eE _ k hkl)) h bS rfl (aq _ _ _ _) rfl λf h=>aO (aP bz bz au au) h s jJ rfl rfl λf w1 b6 h s=>aj 0 h s bS rfl rfl rfl (aq _ _ _ _) (aq _ _ _ _) (bP (bR ((hX.ov.2 _ (bU hkl)).1.keep s.ext)) (bR ((hX.ov.2 _ (bU hkl)).2.keep s.ext))) λw1 s=>nt (ah ?_)
   refine rs ac 1 h rfl λf h=>ag (V:=(X.L.getD k z3).2.1) (ae (aF.of_own s 0 rfl) 66 (gc _ _ _ _)) h c7 rfl rfl λf h=>bT h ((hX.ov.2 _ (bU hkl)).1.keep s.ext) aD1 rfl rfl λf h=>kE ac (decide (6<(X.L.getD k z3).1.sc.length)) h rfl ((as8.2 (by omega))) (λq0 f h=>?_) (λq0 f h=>?_)
   ·skip
    refine al ac 2 h rfl λf h=>bF h rfl (ag (V:=(X.L.getD k z3).2.2) (ae (aF.of_own s 0 rfl) 67 (ik _ _ _ _)) h c7 rfl rfl λf h=>bF h rfl (bT h ((hX.ov.2 _ (bU hkl)).2.keep s.ext) aD1 rfl rfl λf h=>bF h rfl (kE ac (decide (18<(X.L.getD k z3).1.fg.length)) h rfl ((as8.2 (by omega))) (λq1 f h=>?_) (λq1 f h=>?_))))
    ·refine e9 ac 1 h rfl λf h=>mM h rfl (wpIn_skip (bo (aK (aG (am h (bY (h.ev rfl) (h.ev rfl) (by omega)) rfl λf h=>e9 ac 1 h rfl λf h=>?_)))))
     exact ⟨_,by omega,⟨k+1,h.only ⟨rfl,rfl,rfl,rfl,aD rfl (by omega),trivial⟩,St.as (s.pick _ (at3 [_] _)) ⟨rfl,trivial⟩,rfl,by omega,eu hp1 (by unfold yw;rw [q0,q1];rfl)⟩⟩
    ·refine e9 ac 1 h rfl λf h=>dw h rfl (bJ ac 1 h rfl λf h=>av8 (bh (aU (aU (bh (aU (aA rfl h s rfl (by show _=_;rw [Qo hkl (by unfold yw;rw [q0,q1]<;>rfl)]))))))))
   ·refine e9 ac 6 h rfl λf h=>dw h rfl (bJ ac 1 h rfl λf h=>av8 (bh (aU (aU (bh (aU (aA rfl h s rfl (by show _=_;rw [Qo hkl (by unfold yw;rw [q0]<;>rfl)]))))))))
  ·refine aw0 (ba (ba (cj (aK (ah (qr ?_))))))
   have hA2:∀ j,j<X.L.length->yw (X.L.getD j z3).1=false:=λj hj=>hp1 j (by omega)
   refine al ac 1 h rfl λf h=>ag (V:=vh) (ae (aF.of_own s 0 rfl) 2 (lj _ _ _ _ _ _)) h ga rfl rfl λf h=>bT h (hX.ho.keep s.ext) aC2 rfl rfl λf h=>e9 ac 1 h rfl λf h=>av9 (aw1 (λnn aa ww=>∃ k:Nat,Sl 88 aa [(0,.agg (dV vo vs vh vl X.M.last X.M.now)),(1,.pointer (some ⟨b1,0,none⟩)),(41,vh),(42,.int .i64 (X.H.length:Int)),(43,.int .i64 (k:Int))]/\St w [.blk b1 (.cells (dV vo vs vh vl X.M.last X.M.now) 31)] ww/\nn=X.H.length - k/\k<=X.H.length/\∀ j,j<k->yE (X.H.getD j bp).1=false) (X.H.length - (0)) ⟨0,h.only ⟨rfl,rfl,rfl,rfl,aD rfl (by omega),trivial⟩,s.as ⟨rfl,trivial⟩,rfl,at8 _,λj hj=>az2 hj (ax1 _)⟩ ?_)
   rintro _ f w1 ⟨k,h,s,hnn,hp0,hp1⟩
   refine bJ ac 1 h rfl λf h=>ah (dA h rfl (λhc=>?_) (λhc=>?_))
   ·refine kt (ah (av9 (qr ?_)))
    have hkl:k<X.H.length:=by omega
    refine am h (bg (hX.ho.keep s.ext) (k) aC2 mg (h.ev rfl) (h.ev rfl) (by omega) (by omega)) rfl λf h=>az ((hX.ho.keep s.ext).el (k) (by omega) (by decide) (D:=bE (X.H.getD k bp).1.no (X.H.getD k bp).1.gt (X.H.getD k bp).2.1 (X.H.getD k bp).2.2.1 (X.H.getD k bp).2.2.2) (ny _ k hkl)) h eM rfl (bq _ _ _ _ _) rfl λf h=>aO (bE 0 0 au au au) h s qJ rfl rfl λf w1 b8 h s=>aj 0 h s eM rfl rfl rfl (bq _ _ _ _ _) (bq _ _ _ _ _) (eW _ _ (bR ((hX.hw _ (dK hkl)).1.keep s.ext)) (bR ((hX.hw _ (dK hkl)).2.1.keep s.ext)) (bR ((hX.hw _ (dK hkl)).2.2.keep s.ext))) λw1 s=>nt (ah ?_)
    refine rs ac 1 h rfl λf h=>ag (V:=(X.H.getD k bp).2.1) (ae (aF.of_own s 0 rfl) 2 (kY _ _ _ _ _)) h ii rfl rfl λf h=>bT h ((hX.hw _ (dK hkl)).1.keep s.ext) aC8 rfl rfl λf h=>kE ac (decide (10<(X.H.getD k bp).1.ws.length)) h rfl ((as8.2 (by omega))) (λp0 f h=>?_) (λp0 f h=>?_)
    ·skip
     refine al ac 2 h rfl λf h=>bF h rfl (ag (V:=(X.H.getD k bp).2.2.1) (ae (aF.of_own s 0 rfl) 3 (j4 _ _ _ _ _)) h iO rfl rfl λf h=>bF h rfl (bT h ((hX.hw _ (dK hkl)).2.1.keep s.ext) aC9 rfl rfl λf h=>bF h rfl (kE ac (decide (10<(X.H.getD k bp).1.hs.length)) h rfl ((as8.2 (by omega))) (λp1 f h=>?_) (λp1 f h=>?_))))
     ·skip
      refine al ac 3 h rfl λf h=>bF h rfl (ag (V:=(X.H.getD k bp).2.2.2) (ae (aF.of_own s 0 rfl) 4 (pm _ _ _ _ _)) h iQ rfl rfl λf h=>bF h rfl (bT h ((hX.hw _ (dK hkl)).2.2.keep s.ext) aD0 rfl rfl λf h=>bF h rfl (kE ac (decide (34<(X.H.getD k bp).1.bx.length)) h rfl ((as8.2 (by omega))) (λp2 f h=>?_) (λp2 f h=>?_))))
      ·refine e9 ac 1 h rfl λf h=>mM h rfl (wpIn_skip (bo (aK (aG (am h (bY (h.ev rfl) (h.ev rfl) (by omega)) rfl λf h=>e9 ac 1 h rfl λf h=>?_)))))
       exact ⟨_,by omega,⟨k+1,h.only ⟨rfl,rfl,rfl,rfl,aD rfl (by omega),trivial⟩,St.as (s.pick _ (at3 [_] _)) ⟨rfl,trivial⟩,rfl,by omega,eu hp1 (by unfold yE;rw [p0,p1,p2];rfl)⟩⟩
      ·refine e9 ac 1 h rfl λf h=>dw h rfl (bJ ac 1 h rfl λf h=>av8 (bh (aU (aU (bh (aU (aA rfl h s rfl (by show _=_;rw [Hp hkl (by unfold yE;rw [p0,p1,p2]<;>rfl)]))))))))
     ·refine e9 ac 7 h rfl λf h=>dw h rfl (bJ ac 1 h rfl λf h=>av8 (bh (aU (aU (bh (aU (aA rfl h s rfl (by show _=_;rw [Hp hkl (by unfold yE;rw [p0,p1]<;>rfl)]))))))))
    ·refine e9 ac 12 h rfl λf h=>dw h rfl (bJ ac 1 h rfl λf h=>av8 (bh (aU (aU (bh (aU (aA rfl h s rfl (by show _=_;rw [Hp hkl (by unfold yE;rw [p0]<;>rfl)]))))))))
   ·refine aw0 (ba (ba (cj (aK (ah ?_)))))
    refine rs ac 1 h rfl λf h=>ag (V:=vs) (ae (aF.of_own s 0 rfl) 1 (jv _ _ _ _ _ _)) h fB rfl rfl λf h=>bT h (hX.sv.keep s.ext) aC1 rfl rfl λf h=>kE ac (decide (18<X.S.length)) h rfl ((as8.2 (by omega))) (λe0 f h=>?_) (λe0 f h=>?_)
    ·skip
     refine al ac 3 h rfl λf h=>bF h rfl (ag (V:=vo) (ae (aF.of_own s 0 rfl) 0 (zW _ _ _ _ _ _)) h ew rfl rfl λf h=>bF h rfl (bT h (hX.ov.1.keep s.ext) aC0 rfl rfl λf h=>bF h rfl (kE ac (decide (18<X.L.length)) h rfl ((as8.2 (by omega))) (λe1 f h=>?_) (λe1 f h=>?_))))
     ·skip
      refine al ac 3 h rfl λf h=>bF h rfl (ag (V:=vh) (ae (aF.of_own s 0 rfl) 2 (lj _ _ _ _ _ _)) h ga rfl rfl λf h=>bF h rfl (bT h (hX.ho.keep s.ext) aC2 rfl rfl λf h=>bF h rfl (kE ac (decide (18<X.H.length)) h rfl ((as8.2 (by omega))) (λe2 f h=>?_) (λe2 f h=>?_))))
      ·skip
       refine al ac 4 h rfl λf h=>bF h rfl (ag (V:=vl) (ae (aF.of_own s 0 rfl) 3 (qk _ _ _ _ _ _)) h fh rfl rfl λf h=>bF h rfl (bT h (hX.ml.keep s.ext) aC3 rfl rfl λf h=>bF h rfl (kE ac (decide (66<X.M.l.length)) h rfl ((as8.2 (by omega))) (λe3 f h=>?_) (λe3 f h=>?_))))
       ·refine e9 ac 2 h rfl λf h=>av8 (aA rfl h s rfl (by show _=_;rw [zz hA hA2 (λj hj=>hp1 j (by omega)),e0,e1,e2,e3];rfl))
       ·refine e9 ac 2 h rfl λf h=>av8 (aA rfl h s rfl (by show _=_;rw [zz hA hA2 (λj hj=>hp1 j (by omega)),e0,e1,e2,e3];rfl))
      ·refine e9 ac 9 h rfl λf h=>av8 (aA rfl h s rfl (by show _=_;rw [zz hA hA2 (λj hj=>hp1 j (by omega)),e0,e1,e2];rfl))
     ·refine e9 ac 15 h rfl λf h=>av8 (aA rfl h s rfl (by show _=_;rw [zz hA hA2 (λj hj=>hp1 j (by omega)),e0,e1];rfl))
    ·refine e9 ac 21 h rfl λf h=>av8 (aA rfl h s rfl (by show _=_;rw [zz hA hA2 (λj hj=>hp1 j (by omega)),e0];rfl))
theorem oQ (x:Id) (w:World):Calls Tryz.prog 28 [kF x].toArray w (cd w (is (.bool (kC x)))):=by
 refine bN Tryz.func28 rfl Tryz.ntmps28 rfl λf h s=>qr (aZ (aI x) h s rfl rfl rfl λf w1 b1 h s=>e9 ac 1 h rfl λf h=>ah (qr (am h (p7 (16) az3 i4 (h.ev rfl) (h.ev rfl) (by omega) (by omega)) rfl λf h=>bT h (br.of_has (aF.subL (o:=0) (aF.of_own s 0 rfl) 16 16 (D:=((eR x).drop 16).toArray) (KC x)) (pp x) (at6 _)) aE8 rfl rfl λf h=>e9 ac 1 h rfl λf h=>av9 (aw1 (λnn aa ww=>∃ k:Nat,Sl 14 aa [(0,kF x),(1,.pointer (some ⟨b1,0,none⟩)),(5,.slice (some ⟨b1,16,none⟩) 16 16),(6,.int .i64 16),(7,.int .i64 (k:Int))]/\St w [.blk b1 (.cells (aI x) 33)] ww/\nn=16 - k/\k<=16/\∀ j,j<k->bQ x (j+16)=255) (16 - (0)) ⟨0,h.only ⟨rfl,rfl,rfl,rfl,aD rfl (by omega),trivial⟩,s.as ⟨rfl,trivial⟩,rfl,at8 _,λj hj=>az2 hj (ax1 _)⟩ ?_))))
 rintro _ f w1 ⟨k,h,s,hnn,hp0,hp1⟩
 refine bJ ac 1 h rfl λf h=>ah (dA h rfl (λhc=>?_) (λhc=>?_))
 ·refine kt (ah (av9 (qr ?_)))
  have hk16:k<16:=by omega
  refine am h (bg (br.of_has (aF.subL (o:=0) (aF.of_own s 0 rfl) 16 16 (D:=((eR x).drop 16).toArray) (KC x)) (pp x) (at6 _)) (k) aE8 ai3 (h.ev rfl) (h.ev rfl) (by omega) (by omega)) rfl λf h=>ag ((br.of_has (aF.subL (o:=0) (aF.of_own s 0 rfl) 16 16 (D:=((eR x).drop 16).toArray) (KC x)) (pp x) (at6 _)).el1 (k) (V:=.int .u8 (bQ x (k+16):Int)) (Il x hk16)) h qV rfl rfl λf h=>e9 ac 1 h rfl λf h=>bJ ac 2 h rfl λf h=>dA h rfl (λhc=>?_) (λhc=>?_)
  ·refine bJ ac 1 h rfl λf h=>av8 (bh (aU (aU (bh (aU (aA rfl h s rfl (by show _=_;rw [PA (k:=k) (by omega) (by simp at hc;omega)])))))))
  ·refine wpIn_skip (bo (aK (aG (am h (bY (h.ev rfl) (h.ev rfl) (by omega)) rfl λf h=>e9 ac 1 h rfl λf h=>?_))))
   exact ⟨_,by omega,⟨k+1,h.only ⟨rfl,rfl,rfl,rfl,aD rfl (by omega),trivial⟩,St.as s ⟨rfl,trivial⟩,rfl,by omega,eu hp1 (by simp at hc;omega)⟩⟩
 ·refine aw0 (ba (ba (cj (aK (bJ ac 1 h rfl λf h=>av8 (aA rfl h s rfl (by show _=_;rw [OX (λj hj=>hp1 j (by omega))])))))))
def Ii:List (Int × Value):=[(1,.func (.func 34) #[] #[]),(2,.func (.func 35) #[] #[]),(3,.func (.func 36) #[] #[]),(4,.func (.func 37) #[] #[]),(5,.func (.func 38) #[] #[]),(6,.func (.func 39) #[] #[]),(7,.func (.func 40) #[] #[]),(8,.func (.func 41) #[] #[]),(9,.func (.func 42) #[] #[]),(10,.func (.func 43) #[] #[]),(11,.func (.func 44) #[] #[]),(12,.func (.func 45) #[] #[]),(13,.func (.func 46) #[] #[]),(14,.func (.func 47) #[] #[]),(15,.func (.func 48) #[] #[])]
set_option maxHeartbeats 1000000 in
theorem Gr  (w:World):Calls Tryz.prog 18 [].toArray w (cd w (λv w'=>∃ b,v=.map (some b)/\St w [.blk b (KvO Ii)] w')):=by
 refine bN Tryz.func18 rfl Tryz.ntmps18 rfl λf h s=>bJ ac 1 h rfl λf h=>qr (oX h s rfl ?_);intro f w1 b1 h s
 refine cM 0 h s aF0 aB7 (by exact rfl) rfl rfl rfl rfl (by rfl) ?_;intro w1 s
 refine cM 0 h s aF0 aB7 (by exact rfl) rfl rfl rfl rfl (by rfl) ?_;intro w1 s
 refine cM 0 h s aF0 aB7 (by exact rfl) rfl rfl rfl rfl (by rfl) ?_;intro w1 s
 refine cM 0 h s aF0 aB7 (by exact rfl) rfl rfl rfl rfl (by rfl) ?_;intro w1 s
 refine cM 0 h s aF0 aB7 (by exact rfl) rfl rfl rfl rfl (by rfl) ?_;intro w1 s
 refine cM 0 h s aF0 aB7 (by exact rfl) rfl rfl rfl rfl (by rfl) ?_;intro w1 s
 refine cM 0 h s aF0 aB7 (by exact rfl) rfl rfl rfl rfl (by rfl) ?_;intro w1 s
 refine cM 0 h s aF0 aB7 (by exact rfl) rfl rfl rfl rfl (by rfl) ?_;intro w1 s
 refine cM 0 h s aF0 aB7 (by exact rfl) rfl rfl rfl rfl (by rfl) ?_;intro w1 s
 refine cM 0 h s aF0 aB7 (by exact rfl) rfl rfl rfl rfl (by rfl) ?_;intro w1 s
 refine cM 0 h s aF0 aB7 (by exact rfl) rfl rfl rfl rfl (by rfl) ?_;intro w1 s
 refine cM 0 h s aF0 aB7 (by exact rfl) rfl rfl rfl rfl (by rfl) ?_;intro w1 s
 refine cM 0 h s aF0 aB7 (by exact rfl) rfl rfl rfl rfl (by rfl) ?_;intro w1 s
 refine cM 0 h s aF0 aB7 (by exact rfl) rfl rfl rfl rfl (by rfl) ?_;intro w1 s
 refine cM 0 h s aF0 aB7 (by exact rfl) rfl rfl rfl rfl (by rfl) ?_;intro w1 s
 refine e9 ac 2 h rfl λf h=>av8 (aA rfl h s rfl (⟨b1,rfl,s.sel [0] rfl (by decide)⟩))
theorem N7 (l:List V2) (hln:l.length<=1000) (a9:Option Addr) (n9 c9:Nat) (w:World) (hR:br w (.slice a9 n9 c9) 3 l.length (aR l)) (hx9:∀ x∈l,x.2.oneCell'=true):Calls Tryz.prog 51 [.slice a9 n9 c9].toArray w (cd w (λv w'=>cI w' w.heap.size 46 3 v l.length (aR l))):=by
 refine bN Tryz.func51 rfl Tryz.ntmps51 rfl λf h s=>bJ ac 1 h rfl λf h=>ah (ah ?_)
 cases hn:(a9.isNone:Bool)
 ·refine rs ac 1 h rfl λf h=>am h (a8 (.bool false) (cq aC1 (h.ev rfl) (h.ev rfl)) (ar8 Value.bool hn)) rfl λf h=>fL h rfl (qr (fo (base:=w.heap.size) h aC1 DO (at6 _) rfl λf w2 v5 h hE3 e5=>al ac 1 h rfl λf h=>dQ (base:=w.heap.size) e5 (hR.keep hE3) h aC1 DO rfl rfl hE3.le (u4 hx9) (by unfold maxLen;omega) (by omega) rfl λf w3 v7 h hE4 e7=>?_))
  replace s:=s.sl_new (hE3.trans hE4) e7
  refine e9 ac 1 h rfl λf h=>av8 (aA rfl h s rfl (s.getSl 0 rfl))
 ·refine rs ac 1 h rfl λf h=>am h (a8 (.bool true) (cq aC1 (h.ev rfl) (h.ev rfl)) (ar8 Value.bool hn)) rfl λf h=>gh h rfl (bJ ac 1 h rfl λf h=>rt (aA rfl h s rfl (by obtain rfl:=gQ hn hR;exact d6 _ _ _ _)))
theorem JD (l:List V2) (hln:l.length<=1000) (v9:Value) (w:World) (hR:br w v9 3 l.length (aR l)) (hx9:∀ x∈l,x.2.oneCell'=true):Calls Tryz.prog 51 [v9].toArray w (cd w (λv w'=>cI w' w.heap.size 46 3 v l.length (aR l))):=by
 obtain ⟨a,c,rfl⟩:=hR.len
 exact N7 l hln a _ c w hR hx9
theorem O9 (l:List H4) (hln:l.length<=1000) (a9:Option Addr) (n9 c9:Nat) (w:World) (hR:br w (.slice a9 n9 c9) 5 l.length (aM l)) (hx9:∀ x∈l,x.2.1.oneCell'=true/\x.2.2.1.oneCell'=true/\x.2.2.2.oneCell'=true):Calls Tryz.prog 53 [.slice a9 n9 c9].toArray w (cd w (λv w'=>cI w' w.heap.size 66 5 v l.length (aM l))):=by
 refine bN Tryz.func53 rfl Tryz.ntmps53 rfl λf h s=>bJ ac 1 h rfl λf h=>ah (ah ?_)
 cases hn:(a9.isNone:Bool)
 ·refine rs ac 1 h rfl λf h=>am h (a8 (.bool false) (cq aC2 (h.ev rfl) (h.ev rfl)) (ar8 Value.bool hn)) rfl λf h=>fL h rfl (qr (fo (base:=w.heap.size) h aC2 EI (at6 _) rfl λf w2 v5 h hE3 e5=>al ac 1 h rfl λf h=>dQ (base:=w.heap.size) e5 (hR.keep hE3) h aC2 EI rfl rfl hE3.le (wh hx9) (by unfold maxLen;omega) (by omega) rfl λf w3 v7 h hE4 e7=>?_))
  replace s:=s.sl_new (hE3.trans hE4) e7
  refine e9 ac 1 h rfl λf h=>av8 (aA rfl h s rfl (s.getSl 0 rfl))
 ·refine rs ac 1 h rfl λf h=>am h (a8 (.bool true) (cq aC2 (h.ev rfl) (h.ev rfl)) (ar8 Value.bool hn)) rfl λf h=>gh h rfl (bJ ac 1 h rfl λf h=>rt (aA rfl h s rfl (by obtain rfl:=gQ hn hR;exact d6 _ _ _ _)))
theorem JE (l:List H4) (hln:l.length<=1000) (v9:Value) (w:World) (hR:br w v9 5 l.length (aM l)) (hx9:∀ x∈l,x.2.1.oneCell'=true/\x.2.2.1.oneCell'=true/\x.2.2.2.oneCell'=true):Calls Tryz.prog 53 [v9].toArray w (cd w (λv w'=>cI w' w.heap.size 66 5 v l.length (aM l))):=by
 obtain ⟨a,c,rfl⟩:=hR.len
 exact O9 l hln a _ c w hR hx9
theorem Pr (l:List Wn) (hln:l.length<=1000) (a9:Option Addr) (n9 c9:Nat) (w:World) (hR:br w (.slice a9 n9 c9) 33 l.length (cX l)):Calls Tryz.prog 54 [.slice a9 n9 c9].toArray w (cd w (λv w'=>cI w' w.heap.size 109 33 v l.length (cX l))):=by
 refine bN Tryz.func54 rfl Tryz.ntmps54 rfl λf h s=>bJ ac 1 h rfl λf h=>ah (ah ?_)
 cases hn:(a9.isNone:Bool)
 ·refine rs ac 1 h rfl λf h=>am h (a8 (.bool false) (cq aC8 (h.ev rfl) (h.ev rfl)) (ar8 Value.bool hn)) rfl λf h=>fL h rfl (qr (fo (base:=w.heap.size) h aC8 Jb (at6 _) rfl λf w2 v5 h hE3 e5=>al ac 1 h rfl λf h=>dQ (base:=w.heap.size) e5 (hR.keep hE3) h aC8 Jb rfl rfl hE3.le (xr _) (by unfold maxLen;omega) (by omega) rfl λf w3 v7 h hE4 e7=>?_))
  replace s:=s.sl_new (hE3.trans hE4) e7
  refine e9 ac 1 h rfl λf h=>av8 (aA rfl h s rfl (s.getSl 0 rfl))
 ·refine rs ac 1 h rfl λf h=>am h (a8 (.bool true) (cq aC8 (h.ev rfl) (h.ev rfl)) (ar8 Value.bool hn)) rfl λf h=>gh h rfl (bJ ac 1 h rfl λf h=>rt (aA rfl h s rfl (by obtain rfl:=gQ hn hR;exact d6 _ _ _ _)))
theorem Li (l:List Wn) (hln:l.length<=1000) (v9:Value) (w:World) (hR:br w v9 33 l.length (cX l)):Calls Tryz.prog 54 [v9].toArray w (cd w (λv w'=>cI w' w.heap.size 109 33 v l.length (cX l))):=by
 obtain ⟨a,c,rfl⟩:=hR.len
 exact Pr l hln a _ c w hR
theorem Nl (l:List Hn) (hln:l.length<=1000) (a9:Option Addr) (n9 c9:Nat) (w:World) (hR:br w (.slice a9 n9 c9) 34 l.length (cV l)):Calls Tryz.prog 55 [.slice a9 n9 c9].toArray w (cd w (λv w'=>cI w' w.heap.size 112 34 v l.length (cV l))):=by
 refine bN Tryz.func55 rfl Tryz.ntmps55 rfl λf h s=>bJ ac 1 h rfl λf h=>ah (ah ?_)
 cases hn:(a9.isNone:Bool)
 ·refine rs ac 1 h rfl λf h=>am h (a8 (.bool false) (cq aC9 (h.ev rfl) (h.ev rfl)) (ar8 Value.bool hn)) rfl λf h=>fL h rfl (qr (fo (base:=w.heap.size) h aC9 Kj (at6 _) rfl λf w2 v5 h hE3 e5=>al ac 1 h rfl λf h=>dQ (base:=w.heap.size) e5 (hR.keep hE3) h aC9 Kj rfl rfl hE3.le (xg _) (by unfold maxLen;omega) (by omega) rfl λf w3 v7 h hE4 e7=>?_))
  replace s:=s.sl_new (hE3.trans hE4) e7
  refine e9 ac 1 h rfl λf h=>av8 (aA rfl h s rfl (s.getSl 0 rfl))
 ·refine rs ac 1 h rfl λf h=>am h (a8 (.bool true) (cq aC9 (h.ev rfl) (h.ev rfl)) (ar8 Value.bool hn)) rfl λf h=>gh h rfl (bJ ac 1 h rfl λf h=>rt (aA rfl h s rfl (by obtain rfl:=gQ hn hR;exact d6 _ _ _ _)))
theorem Mc (l:List Hn) (hln:l.length<=1000) (v9:Value) (w:World) (hR:br w v9 34 l.length (cV l)):Calls Tryz.prog 55 [v9].toArray w (cd w (λv w'=>cI w' w.heap.size 112 34 v l.length (cV l))):=by
 obtain ⟨a,c,rfl⟩:=hR.len
 exact Nl l hln a _ c w hR
theorem yF (x:V2)  (w:World) (hx9:x.2.oneCell'=true):Calls Tryz.prog 76 [.agg (de x.1.no x.1.sec x.2)].toArray w (cd w (is (.int .i64 x.1.no))):=by
 refine bN Tryz.func76 rfl Tryz.ntmps76 rfl λf h s=>qr (aZ (de x.1.no x.1.sec x.2) h s rfl rfl rfl λf w1 b1 h s=>e9 ac 1 h rfl λf h=>cw ac 1 h rfl λf h=>ag (V:=.int .i64 x.1.no) (ae (aF.of_own s 0 rfl) 0 (CT _ _ _)) h bu rfl rfl λf h=>e9 ac 1 h rfl λf h=>av8 (aA rfl h s rfl (rfl)))
theorem qI (x:H4)  (w:World) (hx9:x.2.1.oneCell'=true/\x.2.2.1.oneCell'=true/\x.2.2.2.oneCell'=true):Calls Tryz.prog 88 [.agg (bE x.1.no x.1.gt x.2.1 x.2.2.1 x.2.2.2)].toArray w (cd w (is (.int .i64 x.1.no))):=by
 refine bN Tryz.func88 rfl Tryz.ntmps88 rfl λf h s=>qr (aZ (bE x.1.no x.1.gt x.2.1 x.2.2.1 x.2.2.2) h s rfl rfl rfl λf w1 b1 h s=>e9 ac 1 h rfl λf h=>cw ac 1 h rfl λf h=>ag (V:=.int .i64 x.1.no) (ae (aF.of_own s 0 rfl) 0 (l9 _ _ _ _ _)) h bu rfl rfl λf h=>e9 ac 1 h rfl λf h=>av8 (aA rfl h s rfl (rfl)))
theorem CC (l:List H4) (vh:Value) (no:Int) (w:World) (hR:br w vh 5 l.length (aM l)) (ho:∀ x∈l,x.2.1.oneCell'=true/\x.2.2.1.oneCell'=true/\x.2.2.2.oneCell'=true) (hln:l.length<=1000):Calls Tryz.prog 146 [vh,.int .i64 no,.func (.func 88) #[] #[]].toArray w (cd w (is (sY (λx:H4=>x.1.no) 5 vh l no))):=by
 refine bN Tryz.func146 rfl Tryz.ntmps146 rfl λf h s=>bJ ac 1 h rfl λf h=>ah (cw ac 1 h rfl λf h=>bT h (hR.keep s.ext) aC2 rfl rfl λf h=>e9 ac 1 h rfl λf h=>av9 (aw1 (λnn aa ww=>∃ k:Nat,Sl 25 aa [(0,vh),(1,.int .i64 no),(2,.func (.func 88) #[] #[]),(8,vh),(9,.int .i64 (l.length:Int)),(10,.int .i64 (k:Int))]/\St w [] ww/\nn=l.length - k/\k<=l.length/\∀ j,j<k->decide ((l.getD j bp).1.no=no)=false) (l.length - (0)) ⟨0,h.only ⟨rfl,rfl,rfl,rfl,rfl,aD rfl (by omega),trivial⟩,s.as trivial,rfl,at8 _,λj hj=>az2 hj (ax1 _)⟩ ?_))
 rintro _ f w1 ⟨k,h,s,hnn,hp0,hp1⟩
 refine bJ ac 1 h rfl λf h=>ah (dA h rfl (λhc=>?_) (λhc=>?_))
 ·refine kt (ah (av9 (qr ?_)))
  have hkl:k<l.length:=by omega
  refine e9 ac 2 h rfl λf h=>cw ac 3 h rfl λf h=>am h (bg (hR.keep s.ext) (k) aC2 mg (h.ev rfl) (h.ev rfl) (by omega) (by omega)) rfl λf h=>az ((hR.keep s.ext).el (k) (by omega) (by decide) (D:=bE (l.getD k bp).1.no (l.getD k bp).1.gt (l.getD k bp).2.1 (l.getD k bp).2.2.1 (l.getD k bp).2.2.2) (ny _ k hkl)) h eM rfl (bq _ _ _ _ _) rfl λf h=>eS [.agg (bE (l.getD k bp).1.no (l.getD k bp).1.gt (l.getD k bp).2.1 (l.getD k bp).2.2.1 (l.getD k bp).2.2.2)] (caps:=[]) h s HL rfl (qI (l.getD k bp) _ (ho _ (dK hkl))) rfl rfl ?_;intro f w1 v18 hT hE h s;obtain rfl:=hT
  refine e9 ac 2 h rfl λf h=>cr h rfl (λhc=>?_) (λhc=>?_)
  ·have c0:=hc
   refine cw ac 2 h rfl λf h=>am h (bg (hR.keep s.ext) (k) aC2 mg (h.ev rfl) (h.ev rfl) (by omega) (by omega)) rfl λf h=>e9 ac 1 h rfl λf h=>av8 (bh (aU (aU (bh (aU (aA rfl h s rfl (by show _=_;rw [UY bp hkl hp1 c0])))))))
  ·have c0:=hc
   refine wpIn_skip (bo (aK (aG (am h (bY (h.ev rfl) (h.ev rfl) (by omega)) rfl λf h=>e9 ac 1 h rfl λf h=>?_))))
   exact ⟨_,by omega,⟨k+1,h.only ⟨rfl,rfl,rfl,rfl,rfl,aD rfl (by omega),trivial⟩,St.as s trivial,rfl,by omega,eu hp1 c0⟩⟩
 ·refine aw0 (ba (ba (cj (aK (bJ ac 1 h rfl λf h=>av8 (aA rfl h s rfl (by show _=_;rw [TQ bp (by omega) hp1])))))))
theorem oP (vo vs vh vl vn:Value) (la nw:Int) (bc:Nat) (l:List H4) (no:Int) (w:World) (hb:iX w bc (dZ vo vs vh vl la nw vn)) (hR:br w vh 5 l.length (aM l)) (ho:∀ x∈l,x.2.1.oneCell'=true/\x.2.2.1.oneCell'=true/\x.2.2.2.oneCell'=true) (hln:l.length<=1000):Calls Tryz.prog 86 [.pointer (some ⟨bc,0,none⟩),.int .i64 no].toArray w (cd w (is (sY (λx:H4=>x.1.no) 5 vh l no))):=by
 refine bN Tryz.func86 rfl Tryz.ntmps86 rfl λf h s=>bJ ac 1 h rfl λf h=>cw ac 4 h rfl λf h=>ag (V:=vh) (ae (aF.of_tab (hb.keep s.ext)) 2 (rfl)) h ga rfl rfl λf h=>al ac 1 h rfl λf h=>dM h s R5 (CC l vh no _ (hR.keep s.ext) ho hln) rfl rfl λf w1 h s=>e9 ac 1 h rfl λf h=>av8 (aA rfl h s rfl (rfl))
theorem E4 (n:Int) (h0:0<=n/\n<=1000) (w:World):Calls Tryz.prog 93 [.int .i64 n].toArray w (cd w (is (.int .i64 (16+n)))):=by
 refine bN Tryz.func93 rfl Tryz.ntmps93 rfl λf h s=>bJ ac 1 h rfl λf h=>cw ac 1 h rfl λf h=>am h (a8 (.int .i64 (16+n)) (bY (h.ev rfl) (h.ev rfl) (by omega)) (rfl)) rfl λf h=>e9 ac 1 h rfl λf h=>av8 (aA rfl h s rfl (rfl))
theorem Gb (x:Se) (us:Value) (fr:Int) (bc:Nat) (h0:0<=x.1)  (w:World) (h1:us.oneCell'=true):Calls Tryz.prog 221 [.pointer (some ⟨bc,0,none⟩),.int .i64 fr,.agg (cH x.1 x.2.1 us x.2.2)].toArray w (cd w (is (.tuple #[.int .i64 x.1,.int .i64 0]))):=by
 refine bN Tryz.func221 rfl Tryz.ntmps221 rfl λf h s=>qr (aZ (cH x.1 x.2.1 us x.2.2) h s rfl rfl rfl λf w1 b5 h s=>e9 ac 2 h rfl λf h=>ah (cw ac 1 h rfl λf h=>ag (V:=.int .i64 x.1) (ae (aF.of_own s 0 rfl) 0 (Xx _ _ _ _)) h bu rfl rfl λf h=>fy ac h rfl (ar7 (by omega)) λf h=>gh h rfl (cw ac 1 h rfl λf h=>ag (V:=.int .i64 x.1) (ae (aF.of_own s 0 rfl) 0 (Xx _ _ _ _)) h bu rfl rfl λf h=>e9 ac 2 h rfl λf h=>rt (wQ rfl h s rfl rfl (rfl)))))
set_option maxHeartbeats 1000000 in
theorem uE (vo vs vh vl vn:Value) (X:Wx) (N:List Nt) (kk:List Nat) (bc:Nat) (B9:List Own) (x:Nt) (w0 w:World) (s:St w0 (.blk bc (.cells (dZ vo vs vh vl X.M.last X.M.now vn) 83)::.sl vn 59 74 N.length (aW N)::.grp kk (λw9=>RdC w9 vo vl X)::B9) w) (hNl:N.length<=100000):Calls Tryz.prog 95 [.pointer (some ⟨bc,0,none⟩),.agg (xR x.k x.tm x.no x.wa x.le x.tr x.d x.y)].toArray w (λe w9=>∃ v,e=.returned v/\∃ vm,St w0 (.blk bc (.cells (dZ vo vs vh vl X.M.last X.M.now vm) 83)::.sl vm 59 74 (N++[({x with tm:=X.M.now}:Nt)]).length (aW (N++[({x with tm:=X.M.now}:Nt)]))::.grp kk (λw9=>RdC w9 vo vl X)::B9) w9):=by
 refine cO Tryz.func95 rfl Tryz.ntmps95 rfl [(0,.pointer (some ⟨bc,0,none⟩)),(1,.agg (xR x.k x.tm x.no x.wa x.le x.tr x.d x.y))] (by simp) λf h=>?_
 refine qr (aZ (xR x.k x.tm x.no x.wa x.le x.tr x.d x.y) h s rfl rfl rfl λf w1 b3 h s=>nt (cw ac 5 h rfl λf h=>ag (V:=.int .i64 X.M.now) (ae (aF.of_own s 1 rfl) 5 (QZ _ _ _ _ _ _ _)) h bu rfl rfl λf h=>al ac 1 h rfl λf h=>aJ 0 h s bu rfl rfl rfl (by rw [r7];omega) (rfl) λw1 s=>?_))
 replace s:=s.recell (D:=xR x.k (X.M.now) x.no x.wa x.le x.tr x.d x.y) 0 rfl (rfl)
 refine nt ?_
 replace s:=s.bring 2 rfl
 replace s:St w0 (.sl vn 59 74 N.length (aW N)::.blk b3 (.cells (xR x.k (X.M.now) x.no x.wa x.le x.tr x.d x.y) 59)::.blk bc (.cells (dZ vo vs vh vl X.M.last X.M.now vn) 83)::(.grp kk (λw9=>RdC w9 vo vl X))::B9) _:=s
 refine fH 1 8 [[],[],[1],[1,2],[1,2,3],[],[5],[1,2,3,4,5,6],[0,1,2,3,4,5,6,7],[0,1,2,3,4,5,6,7,8],[0,1,2,3,4,5,6,7,8,9]] [[],[],[],[],[],[],[],[6,11],[],[],[]] [[_]] [.v _,.v _,.v _,.v _,.v vn,.v (.agg (xR x.k (X.M.now) x.no x.wa x.le x.tr x.d x.y)),.m (λv=>[.sl (v 6) 59 74 1 (aW [({x with tm:=X.M.now}:Nt)])]),.m (λv=>[.sl (v 7) 59 74 (N++[({x with tm:=X.M.now}:Nt)]).length (aW (N++[({x with tm:=X.M.now}:Nt)]))]),.n,.n,.n] _ h s rfl (by kernel_rfl) (by kernel_rfl) (by kernel_rfl) (fJ ac h rfl rfl rfl (fJ ac h rfl rfl rfl (fJ ac h rfl rfl rfl (fJ ac h rfl rfl rfl (bW ?_ (bW ?_ (bW ?_ (bW ?_ (trivial))))))))) [0,1,2,3,4,5,7] (by kernel_rfl) ?_
 ·intro f9 w2 vl2 E9 hs9 hd9 hl hF s
  have h:=cb [(14,_)] h hs9 hd9 ⟨aS hl 14 3 (by kernel_rfl) (hF 3 (by decide)),trivial⟩
  refine ag (V:=vn) (ae (aF.of_own s 1 rfl) 6 (X2 _ _ _ _ _ _ _)) h Kz rfl rfl λf h=>aw ⟨_,aV 15 h rfl rfl,rfl,s⟩
 ·intro f9 w2 vl2 E9 hs9 hd9 hl hF s
  have h:=cb [(3,_)] h hs9 hd9 ⟨d5 hl 3 (by kernel_rfl) (h.holds 3 _ rfl),trivial⟩
  refine ak 0 h s Y5 rfl rfl (r7 _ _ _ _ _ _ _ _) rfl λf h=>aw ⟨_,aV 16 h rfl rfl,rfl,s⟩
 ·intro f9 w2 vl2 E9 hs9 hd9 hl hF s
  have h:=cb [(16,_)] h hs9 hd9 ⟨aS hl 16 5 (by kernel_rfl) (hF 5 (by decide)),trivial⟩
  refine cU (vs:=[.agg (xR x.k (X.M.now) x.no x.wa x.le x.tr x.d x.y)]) [.tmp 16] h s aC5 QU rfl rfl (λv hv=>by rw [as9.1 hv];exact r7 ..) rfl rfl rfl λf w1 v17 h s=>?_
  replace s:=s.resl (m:=1) (ys:=aW [({x with tm:=X.M.now}:Nt)]) 0 rfl rfl (by exact T3 [] ({x with tm:=X.M.now}:Nt))
  exact aw ⟨_,aV 17 h rfl rfl,trivial,s⟩
 ·intro f9 w2 vl2 E9 hs9 hd9 hl hF s
  have e15:f9.tmps.getD 15 undef=vn:=(dO hl 15 4 (by kernel_rfl) (by kernel_rfl)).trans (hF 4 (by decide))
  have e17:f9.tmps.getD 17 undef=(vl2 6):=dO hl 17 6 (by kernel_rfl) (by kernel_rfl)
  have h:=dy [(15,vn),(17,(vl2 6))] (hs9.trans h.size) (hd9.trans h.defers) (holds_lk ⟨e15,e17,trivial⟩)
  refine ez 1 0 h s aC5 QU rfl rfl rfl rfl (by decide) (xT [({x with tm:=X.M.now}:Nt)]) (by unfold maxLen;omega) (by omega) rfl λf w1 v18 h s=>?_
  replace s:=s.pick _ (at7 _ _)
  replace s:=s.resl (m:=(N++[({x with tm:=X.M.now}:Nt)]).length) (ys:=aW (N++[({x with tm:=X.M.now}:Nt)])) 0 rfl (by rw [as2];rfl) (by rw [pU])
  exact aw ⟨_,aV 18 h rfl rfl,trivial,s⟩
 intro f w1 vl2 hs9 hd9 hv hr hF s
 replace hv:=λi d h9=>hv i d (show Nat.blt i 8=true from h9)
 replace h:=eI 8 (ops:=_) [(11,_),(12,_),(13,_),(14,_),(15,_),(16,_),(17,(vl2 6)),(18,(vl2 7))] h hs9 hd9 hr ⟨(hv 0 11 rfl rfl).trans (hF 0 rfl),(hv 1 12 rfl rfl).trans (hF 1 rfl),(hv 2 13 rfl rfl).trans (hF 2 rfl),(hv 3 14 rfl rfl).trans (hF 3 rfl),(hv 4 15 rfl rfl).trans (hF 4 rfl),(hv 5 16 rfl rfl).trans (hF 5 rfl),hv 6 17 rfl rfl,hv 7 18 rfl rfl,trivial⟩ (by kernel_rfl)
 replace s:St w0 (.sl (vl2 7) 59 74 (N++[({x with tm:=X.M.now}:Nt)]).length (aW (N++[({x with tm:=X.M.now}:Nt)]))::.blk b3 (.cells (xR x.k (X.M.now) x.no x.wa x.le x.tr x.d x.y) 59)::.blk bc (.cells (dZ vo vs vh vl X.M.last X.M.now vn) 83)::(.grp kk (λw9=>RdC w9 vo vl X))::B9) _:=s
 refine al ac 2 h rfl λf h=>aJ 2 h s Kz rfl rfl rfl (by rw [gH];omega) (aT (s.getSl 0 rfl)) λw1 s=>?_
 replace s:=s.recell (D:=dZ vo vs vh vl X.M.last X.M.now (vl2 7)) 2 rfl (rfl)
 refine aw ?_
 exact ex rfl h (by replace s:=s.bring 3 rfl;replace s:=s.bring 1 rfl;replace s:=s.bring 3 rfl;exact ⟨_,rfl,_,(s.pick _ (ar2 _ (ar2 _ (ar2 _ (ar3 _ (List.Sublist.refl _))))))⟩)
theorem lH (vo vs vh vl vn vx:Value) (la nw la2 nw2:Int) (bc:Nat) (B9:List Own) (ee:Int) (w0 w:World) (s:St w0 (.blk bc (.cells (dZ vo vs vh vl la nw vn) 83)::B9) w) (h1:vx.oneCell'=true):Calls Tryz.prog 83 [.pointer (some ⟨bc,0,none⟩),.agg (#[vx,.int .i64 la2,.int .i64 nw2]),.int .i64 ee].toArray w (λe w9=>∃ v,e=.returned v/\v=.int .i64 ee/\St w0 (.blk bc (.cells (dZ vo vs vh vx la2 nw2 vn) 83)::B9) w9):=by
 refine cO Tryz.func83 rfl Tryz.ntmps83 rfl [(0,.pointer (some ⟨bc,0,none⟩)),(1,.agg (#[vx,.int .i64 la2,.int .i64 nw2])),(2,.int .i64 ee)] (by simp) λf h=>?_
 refine qr (aZ (#[vx,.int .i64 la2,.int .i64 nw2]) h s rfl rfl rfl λf w1 b4 h s=>e9 ac 1 h rfl λf h=>cw ac 1 h rfl λf h=>ak 0 h s bV rfl rfl (rfl) rfl λf h=>al ac 3 h rfl λf h=>eg 1 h s bV rfl rfl rfl (rfl) (by rw [gH];omega) (nF _ _ (h1)) λw1 s=>?_)
 replace s:=s.recell (D:=dZ vo vs vh vx la2 nw2 vn) 1 rfl rfl
 refine nt (bJ ac 2 h rfl λf h=>av8 (dG rfl h rfl (by replace s:=s.bring 1 rfl;exact ⟨_,rfl,rfl,(s.pick _ (ar2 _ (ar3 _ (List.Sublist.refl _))))⟩)))
end Go.Proofs.YtkhepdpfdhdlaaaGreatDoor
