/- Package node and what it stands on, so far as it is wanted: what each function answers. -/
import Derived.Test.YthmlflaiidhoiaaGreatDoorZa
import Derived.Test.YthmlflaiidhoiaaGreatDoorZd
set_option linter.unusedVariables false
set_option linter.unusedSimpArgs false
set_option linter.unusedSectionVars false
namespace Go.Proofs.YthmlflaiidhoiaaGreatDoor
open Go.RowKit
theorem uX (l:List Mb) (vh:Value) (no:Int) (w:World) (hR:a7 w vh 33 l.length (aj l)) (hln:l.length<=1000):Calls Tryz.prog 242 [vh,.int .i64 no].toArray w (bW w (is (.bool (nD l no)))):=by
 refine bG Tryz.func242 rfl Tryz.ntmps242 rfl λf h s=>qr (ba (#[.int .i64 no]) h s rfl rfl rfl λf w1 b3 h s=>e9 ac 1 h rfl λf h=>cw ac 1 h rfl λf h=>ak h (de [.pointer (some ⟨b3,0,none⟩)] (lL h rfl)) rfl λf h=>fP h s Ru (mJ l vh 299 [.pointer (some ⟨b3,0,none⟩)] (λx=>decide (x.1=no)) _ (hR.keep s.ext) hln S7 (λw9 h9 x _=>BY x no b3 w9 ((jA.of_own s 0 rfl).keep h9))) rfl rfl λf w1 h s=>e9 ac 1 h rfl λf h=>au3 (aA rfl h s rfl (rfl)))
theorem nE (l:List Mb) (vh:Value) (no:Int) (w:World) (hR:a7 w vh 33 l.length (aj l)) (hln:l.length<=1000):Calls Tryz.prog 205 [vh,.int .i64 no].toArray w (bW w (is (.bool (sL l no)))):=by
 refine bG Tryz.func205 rfl Tryz.ntmps205 rfl λf h s=>bD ac 1 h rfl λf h=>ag (cw ac 1 h rfl λf h=>cb h (hR.keep s.ext) aA6 rfl rfl λf h=>e9 ac 1 h rfl λf h=>au4 (au6 (λnn aa ww=>∃ k:Nat,Sl 32 aa [(0,vh),(1,.int .i64 no),(7,vh),(8,.int .i64 (l.length:Int)),(9,.int .i64 (k:Int))]/\St w [] ww/\nn=l.length - k/\k<=l.length/\∀ j,j<k->oX l no j=false) (l.length - (0)) ⟨0,h.only ⟨rfl,rfl,rfl,rfl,aw rfl (by omega),trivial⟩,s.as trivial,rfl,as3 _,λj hj=>ax7 hj (av6 _)⟩ ?_))
 rintro _ f w1 ⟨k,h,s,hnn,hp0,hp1⟩
 refine bD ac 1 h rfl λf h=>ag (cZ h rfl (λhc=>?_) (λhc=>?_))
 ·refine kt (ag (au4 (cw ac 1 h rfl λf h=>?_)))
  have hkl:k<l.length:=by omega
  refine ak h (bj (hR.keep s.ext) (k) aA6 dd (h.ev rfl) (h.ev rfl) (by omega) (by omega)) rfl λf h=>ax ((hR.keep s.ext).el (k) (by omega) (by decide) (D:=ar (l.getD k aS)) (dI l k hkl)) h aI rfl (ae _) rfl λf h=>aK (ar aS) h s cQ rfl rfl λf w1 b6 h s=>ap ac 1 h rfl λf h=>am 0 h s aI rfl rfl rfl (ae _) (ae _) (aP _) λw1 s=>nt (ag ?_)
  cases k0:(ib (l.getD k aS):Bool)
  ·refine cK 17 h (by kernel_rfl) (aH 0 h s aI rfl rfl (ae _) rfl λf h=>bR h pW (λw9 hE9=>bK (.bool false) (jT (l.getD k aS) w9) (aq3 Value.bool k0)) rfl rfl λf h=>aD ac 15 h rfl λf h=>bF s λw1 s=>iz h rfl (bD ac 1 h rfl λf h=>au3 (aY (aQ (aQ (aY (aQ (aA rfl h s rfl (by show _=_;rw [ua hkl (UJ k0)])))))))))
  ·skip
   refine cK 17 h (by kernel_rfl) (aH 0 h s aI rfl rfl (ae _) rfl λf h=>bR h pW (λw9 hE9=>bK (.bool true) (jT (l.getD k aS) w9) (aq3 Value.bool k0)) rfl rfl λf h=>aD ac 3 h rfl λf h=>cj h rfl (bw (ah (aX.of_own s 0 rfl) 0 (bH _)) h bQ rfl rfl λf h=>aD ac 1 h rfl λf h=>cj h rfl (UC ac h rfl (λk1 f h=>?_) (λk1 f h=>?_))))
   ·refine aD ac 4 h rfl λf h=>cj h rfl (aF h (ei (hR.keep s.ext) (k) aA6 dd (h.ev rfl) (h.ev rfl) (rfl) (by omega)) rfl λf h=>aD ac 1 h rfl λf h=>cj h rfl (bw (ah (aX.of_own s 0 rfl) 0 (bH _)) h bQ rfl rfl λf h=>cj h rfl (bR h LS (λw9 hE9=>uX (l.take k) (gG vh k) (l.getD k aS).1 w9 ((DB hR k (by omega)).keep (s.ext.trans hE9)) (by rw [au0];omega)) rfl rfl λf h=>aD ac 1 h rfl λf h=>bF s λw1 s=>nt (cT h rfl (λhc=>?_) (λhc=>?_)))))
    ·refine bD ac 1 h rfl λf h=>au3 (aY (aQ (aQ (aY (aQ (aA rfl h s rfl (by show _=_;rw [ua hkl ((Jk k0 k1).trans hc)])))))))
    ·refine wpIn_skip (aW (aG (aC (ak h (bB (h.ev rfl) (h.ev rfl) (by omega)) rfl λf h=>e9 ac 1 h rfl λf h=>?_))))
     have hb9:oX l no k=false:=(Jk k0 k1).trans hc
     exact ⟨_,by omega,⟨k+1,h.only ⟨rfl,rfl,rfl,rfl,aw rfl (by omega),trivial⟩,St.as (s.pick _ (ar8 [_] _)) trivial,rfl,by omega,eM hp1 hb9⟩⟩
   ·refine aD ac 9 h rfl λf h=>bF s λw1 s=>iz h rfl (bD ac 1 h rfl λf h=>au3 (aY (aQ (aQ (aY (aQ (aA rfl h s rfl (by show _=_;rw [ua hkl (Uh k1)]))))))))
 ·refine au5 (aT (aT (bS (aG (bD ac 1 h rfl λf h=>au3 (aA rfl h s rfl (by show _=_;rw [Jw (by omega) hp1])))))))
theorem Py (l:List Mb) (vh:Value) (m:Mb) (w:World) (hR:a7 w vh 33 l.length (aj l)) (hln:l.length<=1000):Calls Tryz.prog 132 [vh,.agg (ar m)].toArray w (bW w (is (.bool (qY l m)))):=by
 refine bG Tryz.func132 rfl Tryz.ntmps132 rfl λf h s=>qr (ba ((ar m)) h s rfl rfl rfl λf w1 b3 h s=>e9 ac 1 h rfl λf h=>ag (ag ?_))
 cases h1:(decide (l.length=1):Bool)
 ·refine cK 10 h (by kernel_rfl) (aD ac 1 h rfl λf h=>aF h (l9 (hR.keep s.ext) aA6 (h.ev rfl)) rfl λf h=>sT ac h rfl (aq1 (by have:=aq0 h1;omega)) λf h=>aD ac 7 h rfl λf h=>bF s λw1 s=>iA h rfl (ag ?_))
  cases g0:(decide (1<=l.length):Bool)
  ·refine aC ?_
   have hno:¬ (l.length=1/\l.getD 0 aS=m):=(by rintro ⟨h9,h8⟩;exact ax7 h9 (aq0 h1))
   refine ap ac 1 h rfl λf h=>cb h (hR.keep s.ext) aA6 rfl rfl λf h=>jd ac h rfl (aq1 (by have:=aq0 g0;omega)) λf h=>e9 ac 12 h rfl λf h=>au3 (aA rfl h s rfl (by show _=_;rw [Rc hno g0]))
  ·skip
   cases g1:(decide (l.length<=4):Bool)
   ·refine aC ?_
    have hno:¬ (l.length=1/\l.getD 0 aS=m):=(by rintro ⟨h9,h8⟩;exact ax7 h9 (aq0 h1))
    refine ap ac 1 h rfl λf h=>cb h (hR.keep s.ext) aA6 rfl rfl λf h=>jy ac h rfl (aq2 (by have:=ap9 g0;omega)) λf h=>ap ac 2 h rfl λf h=>cg h rfl (cb h (hR.keep s.ext) aA6 rfl rfl λf h=>cg h rfl (jd ac h rfl (aq1 (by have:=aq0 g1;omega)) λf h=>e9 ac 8 h rfl λf h=>au3 (aA rfl h s rfl (by show _=_;rw [Q5 hno g1]))))
   ·refine aC ?_
    have hno:¬ (l.length=1/\l.getD 0 aS=m):=(by rintro ⟨h9,h8⟩;exact ax7 h9 (aq0 h1))
    refine ap ac 1 h rfl λf h=>cb h (hR.keep s.ext) aA6 rfl rfl λf h=>jy ac h rfl (aq2 (by have:=ap9 g0;omega)) λf h=>ap ac 2 h rfl λf h=>cg h rfl (cb h (hR.keep s.ext) aA6 rfl rfl λf h=>cg h rfl (jy ac h rfl (aq2 (by have:=ap9 g1;omega)) λf h=>ap ac 4 h rfl λf h=>cg h rfl (ai (ah (aX.of_own s 0 rfl) 0 (bH _)) h bQ rfl rfl λf h=>cg h rfl (fP h s CI (nE l vh m.1 _ (hR.keep s.ext) hln) rfl rfl λf w1 h s=>e9 ac 2 h rfl λf h=>au3 (aA rfl h s rfl (by show _=_;rw [Q8 hno g0 g1]))))))
 ·skip
  cases h2:(decide (l.getD 0 aS=m):Bool)
  ·refine cK 10 h (by kernel_rfl) (aD ac 1 h rfl λf h=>aF h (l9 (hR.keep s.ext) aA6 (h.ev rfl)) rfl λf h=>ql ac h rfl (aq2 (by have:=ap9 h1;omega)) λf h=>aD ac 2 h rfl λf h=>cj h rfl ?_)
   have h19:=ap9 h1
   refine aF h (bj (hR.keep s.ext) (0) aA6 dd (h.ev rfl) (h.ev rfl) (by omega) (by omega)) rfl λf h=>cj h rfl (aU ((hR.keep s.ext).el (0) (by omega) (by decide) (D:=ar (l.getD 0 aS)) (dI l 0 (by omega))) h aI rfl (ae _) rfl λf h=>cj h rfl (aH 0 h s aI rfl rfl (ae _) rfl λf h=>cj h rfl (aF h (bk (.bool false) (gj (Bb _ _) (by kernel_rfl) (by decide) (h.ev rfl) (h.ev rfl) (decide (l.getD 0 aS=m)) (mm _ _)) (aq3 Value.bool h2)) rfl λf h=>aD ac 1 h rfl λf h=>bF s λw1 s=>iA h rfl (ag ?_))))
   cases g0:(decide (1<=l.length):Bool)
   ·refine aC ?_
    have hno:¬ (l.length=1/\l.getD 0 aS=m):=(by rintro ⟨h9,h8⟩;exact ax7 h8 (aq0 h2))
    refine ap ac 1 h rfl λf h=>cb h (hR.keep s.ext) aA6 rfl rfl λf h=>jd ac h rfl (aq1 (by have:=aq0 g0;omega)) λf h=>e9 ac 12 h rfl λf h=>au3 (aA rfl h s rfl (by show _=_;rw [Rc hno g0]))
   ·skip
    cases g1:(decide (l.length<=4):Bool)
    ·refine aC ?_
     have hno:¬ (l.length=1/\l.getD 0 aS=m):=(by rintro ⟨h9,h8⟩;exact ax7 h8 (aq0 h2))
     refine ap ac 1 h rfl λf h=>cb h (hR.keep s.ext) aA6 rfl rfl λf h=>jy ac h rfl (aq2 (by have:=ap9 g0;omega)) λf h=>ap ac 2 h rfl λf h=>cg h rfl (cb h (hR.keep s.ext) aA6 rfl rfl λf h=>cg h rfl (jd ac h rfl (aq1 (by have:=aq0 g1;omega)) λf h=>e9 ac 8 h rfl λf h=>au3 (aA rfl h s rfl (by show _=_;rw [Q5 hno g1]))))
    ·refine aC ?_
     have hno:¬ (l.length=1/\l.getD 0 aS=m):=(by rintro ⟨h9,h8⟩;exact ax7 h8 (aq0 h2))
     refine ap ac 1 h rfl λf h=>cb h (hR.keep s.ext) aA6 rfl rfl λf h=>jy ac h rfl (aq2 (by have:=ap9 g0;omega)) λf h=>ap ac 2 h rfl λf h=>cg h rfl (cb h (hR.keep s.ext) aA6 rfl rfl λf h=>cg h rfl (jy ac h rfl (aq2 (by have:=ap9 g1;omega)) λf h=>ap ac 4 h rfl λf h=>cg h rfl (ai (ah (aX.of_own s 0 rfl) 0 (bH _)) h bQ rfl rfl λf h=>cg h rfl (fP h s CI (nE l vh m.1 _ (hR.keep s.ext) hln) rfl rfl λf w1 h s=>e9 ac 2 h rfl λf h=>au3 (aA rfl h s rfl (by show _=_;rw [Q8 hno g0 g1]))))))
  ·refine cK 10 h (by kernel_rfl) (aD ac 1 h rfl λf h=>aF h (l9 (hR.keep s.ext) aA6 (h.ev rfl)) rfl λf h=>ql ac h rfl (aq2 (by have:=ap9 h1;omega)) λf h=>aD ac 2 h rfl λf h=>cj h rfl ?_)
   have h19:=ap9 h1
   refine aF h (bj (hR.keep s.ext) (0) aA6 dd (h.ev rfl) (h.ev rfl) (by omega) (by omega)) rfl λf h=>cj h rfl (aU ((hR.keep s.ext).el (0) (by omega) (by decide) (D:=ar (l.getD 0 aS)) (dI l 0 (by omega))) h aI rfl (ae _) rfl λf h=>cj h rfl (aH 0 h s aI rfl rfl (ae _) rfl λf h=>cj h rfl (aF h (bk (.bool true) (gj (Bb _ _) (by kernel_rfl) (by decide) (h.ev rfl) (h.ev rfl) (decide (l.getD 0 aS=m)) (mm _ _)) (aq3 Value.bool h2)) rfl λf h=>aD ac 1 h rfl λf h=>bF s λw1 s=>iz h rfl (bD ac 1 h rfl λf h=>rt (aA rfl h s rfl (by show _=_;rw [Zr h1 h2]))))))
theorem K0 (l:List Mb) (vh:Value) (no:Int) (w:World) (hR:a7 w vh 33 l.length (aj l)) (hln:l.length<=1000):Calls Tryz.prog 133 [vh,.int .i64 no].toArray w (bW w (is (.bool (zE l no)))):=by
 refine bG Tryz.func133 rfl Tryz.ntmps133 rfl λf h s=>bD ac 1 h rfl λf h=>ag ?_
 cases g0:(decide (l.length<=16):Bool)
 ·refine rs ac 1 h rfl λf h=>cb h (hR.keep s.ext) aA6 rfl rfl λf h=>jd ac h rfl (aq1 (by have:=aq0 g0;omega)) λf h=>e9 ac 6 h rfl λf h=>au3 (aA rfl h s rfl (by show _=_;rw [YR g0]))
 ·refine rs ac 1 h rfl λf h=>cb h (hR.keep s.ext) aA6 rfl rfl λf h=>jy ac h rfl (aq2 (by have:=ap9 g0;omega)) λf h=>ap ac 3 h rfl λf h=>cg h rfl (fP h s CI (nE l vh no _ (hR.keep s.ext) hln) rfl rfl λf w1 h s=>e9 ac 2 h rfl λf h=>au3 (aA rfl h s rfl (by show _=_;rw [Yu g0])))
theorem fY (n:Nd) (vs vf:Value) (w:World) (hRs:a7 w vs 33 n.sc.length (aj n.sc)) (hRf:a7 w vf 33 n.fg.length (aj n.fg)) (hns:n.sc.length<=1000) (hnf:n.fg.length<=1000):Calls Tryz.prog 79 [.agg (aR n.me n.pr vs vf)].toArray w (bW w (is (.bool (co n)))):=by
 refine bG Tryz.func79 rfl Tryz.ntmps79 rfl λf h s=>qr (ba (aR n.me n.pr vs vf) h s rfl rfl rfl λf w1 b1 h s=>e9 ac 1 h rfl λf h=>ag ?_)
 refine rs ac 1 h rfl λf h=>ax (aX.subL (aX.of_own s 0 rfl) 0 33 (D:=ar n.me) (dx _ _ _ _)) h aI rfl (ae _) rfl λf h=>fx h s pW (jT n.me _) rfl rfl (λh0 f w1 h s=>?_) (λh0 f w1 h s=>?_)
 ·refine e9 ac 24 h rfl λf h=>au3 (aA rfl h s rfl (by show _=_;rw [PC h0]))
 ·skip
  refine ap ac 2 h rfl λf h=>cg h rfl (ax (aX.subL (aX.of_own s 0 rfl) 33 33 (D:=ar n.pr) (fq _ _ _ _)) h aI rfl (ae _) rfl λf h=>ap ac 2 h rfl λf h=>cg h rfl (ai (ah (aX.of_own s 0 rfl) 0 (lG _ _ _ _)) h bQ rfl rfl λf h=>cg h rfl (fx h s Sq (NV n.pr n.me.1 _) rfl rfl (λh1 f w1 h s=>?_) (λh1 f w1 h s=>?_))))
  ·refine e9 ac 17 h rfl λf h=>au3 (aA rfl h s rfl (by show _=_;rw [PE h1]))
  ·skip
   refine ap ac 3 h rfl λf h=>cg h rfl (ai (V:=vs) (ah (aX.of_own s 0 rfl) 66 (iQ _ _ _ _)) h ci rfl rfl λf h=>ap ac 1 h rfl λf h=>cg h rfl (ax (aX.subL (aX.of_own s 0 rfl) 0 33 (D:=ar n.me) (dx _ _ _ _)) h aI rfl (ae _) rfl λf h=>cg h rfl (fx h s SU (Py n.sc vs n.me _ (hRs.keep s.ext) hns) rfl rfl (λh2 f w1 h s=>?_) (λh2 f w1 h s=>?_))))
   ·refine e9 ac 10 h rfl λf h=>au3 (aA rfl h s rfl (by show _=_;rw [Pf h2]))
   ·refine ap ac 3 h rfl λf h=>cg h rfl (ai (V:=vf) (ah (aX.of_own s 0 rfl) 67 (jP _ _ _ _)) h ci rfl rfl λf h=>ap ac 2 h rfl λf h=>cg h rfl (ai (ah (aX.of_own s 0 rfl) 0 (lG _ _ _ _)) h bQ rfl rfl λf h=>cg h rfl (fP h s T6 (K0 n.fg vf n.me.1 _ (hRf.keep s.ext) hnf) rfl rfl λf w1 h s=>e9 ac 2 h rfl λf h=>au3 (aA rfl h s rfl (by show _=_;rw [Mz h0 h1 h2])))))
theorem nj (n:Nd) (vs vf:Value) (w:World) (hRs:a7 w vs 33 n.sc.length (aj n.sc)) (hRf:a7 w vf 33 n.fg.length (aj n.fg)) (hns:n.sc.length<=1000) (hnf:n.fg.length<=1000):Calls Tryz.prog 271 [.agg (aR n.me n.pr vs vf)].toArray w (bW w (Xg w 60 n)):=by
 refine bG Tryz.func271 rfl Tryz.ntmps271 rfl λf h s=>qr (ba (aR n.me n.pr vs vf) h s rfl rfl rfl λf w1 b1 h s=>aK (aR aS aS aq aq) h s pK rfl rfl λf w1 b2 h s=>nt (cw ac 1 h rfl λf h=>ai (V:=vs) (ah (aX.of_own s 1 rfl) 66 (iQ _ _ _ _)) h ci rfl rfl λf h=>bg h s vj (gJ n.sc hns vs _ (hRs.keep s.ext)) rfl rfl ?_));intro f w1 v5 hT hE h sq;replace s:=s.sl_new hE hT
 refine ap ac 1 h rfl λf h=>aB 2 h s ci rfl rfl rfl (by rw [ao];omega) (aZ (s.getSl 0 rfl)) λw1 s=>?_
 replace s:=s.recell (D:=aR n.me n.pr v5 vf) 2 rfl (pq _ _ _ _ _)
 refine nt (cw ac 1 h rfl λf h=>ai (V:=vf) (ah (aX.of_own s 2 rfl) 67 (jP _ _ _ _)) h ci rfl rfl λf h=>bg h s vj (gJ n.fg hnf vf _ (hRf.keep s.ext)) rfl rfl ?_);intro f w1 v9 hT hE h sq;replace s:=s.sl_new hE hT
 refine ap ac 1 h rfl λf h=>aB 3 h s ci rfl rfl rfl (by rw [ao];omega) (aZ (s.getSl 0 rfl)) λw1 s=>?_
 replace s:=s.recell (D:=aR n.me n.pr v5 v9) 3 rfl (rQ _ _ _ _ _)
 refine nt (qr (al 3 h s bI rfl rfl (ao _ _ _ _) rfl λf h=>am 2 h s bI rfl rfl rfl (ao _ _ _ _) (ao _ _ _ _) (bL (aZ (s.getSl 1 rfl)) (aZ (s.getSl 0 rfl))) λw1 s=>nt (au3 (g7 2 rfl h s bI rfl rfl (ao _ _ _ _) (VG rfl (s.sel [1,0] rfl (by decide)))))))
theorem lW (x:Mb) (nos:List Int) (vn:Value) (bx:Nat) (w:World) (hb:jA w bx #[vn]) (hN:a7 w vn 1 nos.length (nos.map (Value.int .i64))) (hnn:nos.length<=1000):Calls Tryz.prog 269 [.agg (ar x),.pointer (some ⟨bx,0,none⟩)].toArray w (bW w (is (.bool (eK nos x)))):=by
 refine bG Tryz.func269 rfl Tryz.ntmps269 rfl λf h s=>qr (ba ((ar x)) h s rfl rfl rfl λf w1 b2 h s=>e9 ac 1 h rfl λf h=>qr (ai (V:=vn) (ah (aX.of_tab (hb.keep s.ext)) 0 (rfl)) h nc rfl rfl λf h=>ap ac 1 h rfl λf h=>ai (ah (aX.of_own s 0 rfl) 0 (bH _)) h bQ rfl rfl λf h=>fP h s S4 (Fg nos vn x.1 _ (hN.keep s.ext) hnn) rfl rfl λf w1 h s=>e9 ac 1 h rfl λf h=>au3 (aA rfl h s rfl (rfl))))
set_option maxHeartbeats 1000000 in
theorem FP (n:Nd) (vs vf:Value) (nos:List Int) (vn:Value) (w:World) (hRs:a7 w vs 33 n.sc.length (aj n.sc)) (hRf:a7 w vf 33 n.fg.length (aj n.fg)) (hns:n.sc.length<=1000) (hnf:n.fg.length<=1000) (hN:a7 w vn 1 nos.length (nos.map (Value.int .i64))) (hnn:nos.length<=1000):Calls Tryz.prog 214 [.agg (aR n.me n.pr vs vf),vn].toArray w (bW w (He w 60 (V3 n nos) (V4 n))):=by
 refine bG Tryz.func214 rfl Tryz.ntmps214 rfl λf h s=>qr (ba (aR n.me n.pr vs vf) h s rfl rfl rfl λf w1 b2 h s=>ba (#[vn]) h s rfl (Vv (hN.keep s.ext)) rfl λf w1 b3 h s=>aK (aR aS aS aq aq) h s pK rfl rfl λf w1 b4 h s=>e9 ac 1 h rfl λf h=>ag (ag ?_))
 refine aC (al 2 h s bI rfl rfl (ao _ _ _ _) rfl λf h=>fx h s sM (fY n vs vf _ (hRs.keep s.ext) (hRf.keep s.ext) hns hnf) rfl rfl (λhr f w1 h s=>?_) (λhr f w1 h s=>?_))
 ·refine e9 ac 1 h rfl λf h=>dF h rfl (qr (ak h (gr JD) rfl λf h=>am 0 h s bI rfl rfl rfl (ao _ _ _ _) (ao _ _ _ _) (bL (rfl) (rfl)) λw1 s=>e9 ac 1 h rfl λf h=>rt (cc 0 rfl h s bI rfl rfl (ao _ _ _ _) rfl (rW s (QB nos hr).1 (QB nos hr).2))))
 ·refine e9 ac 1 h rfl λf h=>ry h rfl (qr ?_)
  have hrt:=hr
  refine ak h (de [.pointer (some ⟨b3,0,none⟩)] (lL h rfl)) rfl λf h=>e9 ac 1 h rfl λf h=>qr (al 2 h s bI rfl rfl (ao _ _ _ _) rfl λf h=>bg h s Bx (nj n vs vf _ (hRs.keep s.ext) (hRf.keep s.ext) hns hnf) rfl rfl ?_);rintro f w1 v13 ⟨us,uf,rfl,hS⟩ hE h sq;replace s:=s.add hS
  refine am 4 h s bI rfl rfl rfl (ao _ _ _ _) (ao _ _ _ _) (bL (aZ (s.getSl 0 rfl)) (aZ (s.getSl 1 rfl))) λw1 s=>nt (ag (jC 1 7 [[],[0],[],[0,1,2],[],[4],[0,1,2,3,4,5],[0,1,2,3,4,5,6],[0,1,2,3,4,5,6,7]] [[],[],[],[9],[],[],[3],[],[]] [[_]] [.v _,.v us,.v (.func (.func 269) #[] #[.pointer (some ⟨b3,0,none⟩)]),.m (λv=>[.sl (v 3) 60 33 (n.sc.filter λx => !(eK nos) x).length (aj (n.sc.filter λx => !(eK nos) x))]),.v _,.v (.agg (ar n.me)),.m (λv=>[.sl (v 6) 60 33 (nY (n.sc.filter λx => !(eK nos) x) n.me).length (aj (nY (n.sc.filter λx => !(eK nos) x) n.me))]),.n,.n] _ h s rfl (by kernel_rfl) (by kernel_rfl) (by kernel_rfl) (iG ac h rfl rfl rfl (cq ?_ (cq ?_ (cq ?_ (iG ac h rfl rfl rfl (cq ?_ (cq ?_ (trivial)))))))) [0,1,2,4,5,6] (by kernel_rfl) ?_))
  ·intro f9 w2 vl5 E9 hs9 hd9 hl hF s
   have h:=cJ [(14,_)] h hs9 hd9 ⟨bp hl 14 0 (by kernel_rfl) (hF 0 (by decide)),trivial⟩
   refine ai (V:=us) (ah (aX.of_own s 3 rfl) 66 (iQ _ _ _ _)) h ci rfl rfl λf h=>aE ⟨_,bq 15 h rfl rfl,rfl,s⟩
  ·intro f9 w2 vl5 E9 hs9 hd9 hl hF s
   have h:=cJ [(6,_)] h hs9 hd9 ⟨gp hl 6 (by kernel_rfl) (h.holds 6 _ rfl),trivial⟩
   refine ap ac 1 h rfl λf h=>aE ⟨_,bq 16 h rfl rfl,rfl,s⟩
  ·intro f9 w2 vl5 E9 hs9 hd9 hl hF s
   have h:=cJ [(15,_),(16,_)] h hs9 hd9 ⟨bp hl 15 1 (by kernel_rfl) (hF 1 (by decide)),bp hl 16 2 (by kernel_rfl) (hF 2 (by decide)),trivial⟩
   refine df [us,.func (.func 269) #[] #[.pointer (some ⟨b3,0,none⟩)]] h H6 (qQ n.sc hns us 269 [.pointer (some ⟨b3,0,none⟩)] (eK nos) _ _ _ s xh (λA9 w9 s9 x hx=>lW x nos vn b3 w9 (jA.of_mem (u:=106) s9 (by simp)) (hN.keep s9.ext) hnn)) rfl rfl ?_;rintro f w1 v17 s h
   exact aE ⟨_,bq 17 h rfl rfl,trivial,s⟩
  ·intro f9 w2 vl5 E9 hs9 hd9 hl hF s
   have h:=cJ [(18,_)] h hs9 hd9 ⟨bp hl 18 4 (by kernel_rfl) (hF 4 (by decide)),trivial⟩
   refine ax (aX.subL (aX.of_own s 3 rfl) 0 33 (D:=ar n.me) (dx _ _ _ _)) h aI rfl (ae _) rfl λf h=>aE ⟨_,bq 19 h rfl rfl,rfl,s⟩
  ·intro f9 w2 vl5 E9 hs9 hd9 hl hF s
   have e17:f9.tmps.getD 17 undef=(vl5 3):=eN hl 17 3 (by kernel_rfl) (by kernel_rfl)
   have e19:f9.tmps.getD 19 undef=.agg (ar n.me):=(eN hl 19 5 (by kernel_rfl) (by kernel_rfl)).trans (hF 5 (by decide))
   have h:=dU [(17,(vl5 3)),(19,.agg (ar n.me))] (hs9.trans h.size) (hd9.trans h.defers) (holds_lk ⟨e17,e19,trivial⟩)
   refine df [(vl5 3),.agg (ar n.me)] h JW (qG (n.sc.filter λx => !(eK nos) x) (vl5 3) n.me _ _ _ s) rfl rfl ?_;rintro f w1 v20 s h
   exact aE ⟨_,bq 20 h rfl rfl,trivial,s⟩
  intro f w1 vl5 hs9 hd9 hv hr hF s
  replace hv:=λi d h9=>hv i d (show Nat.blt i 7=true from h9)
  replace h:=jx 7 (ops:=_) [(14,_),(15,_),(16,_),(17,(vl5 3)),(18,_),(19,_),(20,(vl5 6))] h hs9 hd9 hr ⟨(hv 0 14 rfl rfl).trans (hF 0 rfl),(hv 1 15 rfl rfl).trans (hF 1 rfl),(hv 2 16 rfl rfl).trans (hF 2 rfl),hv 3 17 rfl rfl,(hv 4 18 rfl rfl).trans (hF 4 rfl),(hv 5 19 rfl rfl).trans (hF 5 rfl),hv 6 20 rfl rfl,trivial⟩ (by kernel_rfl)
  replace s:St w [.sl (vl5 6) 60 33 (nY (n.sc.filter λx => !(eK nos) x) n.me).length (aj (nY (n.sc.filter λx => !(eK nos) x) n.me)),.sl uf 60 33 n.fg.length (aj n.fg),.blk b4 (.cells (aR aS aS aq aq) 63),.blk b3 (.cells (#[vn]) 106),.blk b2 (.cells (aR n.me n.pr us uf) 63)] _:=s
  refine ap ac 1 h rfl λf h=>aB 4 h s ci rfl rfl rfl (by rw [ao];omega) (aZ (s.getSl 0 rfl)) λw1 s=>?_
  replace s:=s.recell (D:=aR n.me n.pr (vl5 6) uf) 4 rfl (pq _ _ _ _ _)
  refine nt (cw ac 1 h rfl λf h=>ai (V:=uf) (ah (aX.of_own s 4 rfl) 67 (jP _ _ _ _)) h ci rfl rfl λf h=>ap ac 1 h rfl λf h=>?_)
  replace s:=(s.sel [1,0,2,3,4] rfl (by decide))
  refine df [uf,.func (.func 269) #[] #[.pointer (some ⟨b3,0,none⟩)]] h H6 (qQ n.fg hnf uf 269 [.pointer (some ⟨b3,0,none⟩)] (eK nos) _ _ _ s xh (λA9 w9 s9 x hx=>lW x nos vn b3 w9 (jA.of_mem (u:=106) s9 (by simp)) (hN.keep s9.ext) hnn)) rfl rfl ?_;rintro f w1 v25 s h
  refine ap ac 1 h rfl λf h=>aB 4 h s ci rfl rfl rfl (by rw [ao];omega) (aZ (s.getSl 0 rfl)) λw1 s=>?_
  replace s:=s.recell (D:=aR n.me n.pr (vl5 6) v25) 4 rfl (rQ _ _ _ _ _)
  refine nt (ag (ag ?_))
  cases hgn:(eK nos n.pr:Bool)
  ·refine rs ac 2 h rfl λf h=>ax (aX.subL (aX.of_own s 4 rfl) 33 33 (D:=ar n.pr) (fq _ _ _ _)) h aI rfl (ae _) rfl λf h=>gQ [.agg (ar n.pr)] (caps:=[.pointer (some ⟨b3,0,none⟩)]) h s xh rfl (bK (.bool false) (lW n.pr nos vn b3 _ (jA.of_own s 3 rfl) (hN.keep s.ext) hnn) (aq3 Value.bool hgn)) rfl rfl ?_;intro f w1 v30 hT hE h s;obtain rfl:=hT
   refine iA h rfl (qr (al 4 h s bI rfl rfl (ao _ _ _ _) rfl λf h=>am 2 h s bI rfl rfl rfl (ao _ _ _ _) (ao _ _ _ _) (bL (aZ (s.getSl 1 rfl)) (aZ (s.getSl 0 rfl))) λw1 s=>e9 ac 1 h rfl λf h=>au3 (cc 2 rfl h s bI rfl rfl (ao _ _ _ _) rfl (lA ((vW nos hrt).1.trans (by rw [QE hgn];rfl)) (vW nos hrt).2 (s.sel [1,0] rfl (by decide))))))
  ·refine rs ac 2 h rfl λf h=>ax (aX.subL (aX.of_own s 4 rfl) 33 33 (D:=ar n.pr) (fq _ _ _ _)) h aI rfl (ae _) rfl λf h=>gQ [.agg (ar n.pr)] (caps:=[.pointer (some ⟨b3,0,none⟩)]) h s xh rfl (bK (.bool true) (lW n.pr nos vn b3 _ (jA.of_own s 3 rfl) (hN.keep s.ext) hnn) (aq3 Value.bool hgn)) rfl rfl ?_;intro f w1 v30 hT hE h s;obtain rfl:=hT
   refine iz h rfl (aC (fP h s ki (gk _) rfl rfl λf w1 h s=>ap ac 1 h rfl λf h=>ga 4 h s aI rfl rfl rfl (ae _) (by rw [ao];omega) (aP _) λw1 s=>?_))
   replace s:=s.recell (D:=aR n.me fj (vl5 6) v25) 4 rfl (rh _ _ _ _ _)
   refine nt (qr (al 4 h s bI rfl rfl (ao _ _ _ _) rfl λf h=>am 2 h s bI rfl rfl rfl (ao _ _ _ _) (ao _ _ _ _) (bL (aZ (s.getSl 1 rfl)) (aZ (s.getSl 0 rfl))) λw1 s=>e9 ac 1 h rfl λf h=>au3 (cc 2 rfl h s bI rfl rfl (ao _ _ _ _) rfl (lA ((vW nos hrt).1.trans (by rw [QF hgn];rfl)) (vW nos hrt).2 (s.sel [1,0] rfl (by decide))))))
end Go.Proofs.YthmlflaiidhoiaaGreatDoor
