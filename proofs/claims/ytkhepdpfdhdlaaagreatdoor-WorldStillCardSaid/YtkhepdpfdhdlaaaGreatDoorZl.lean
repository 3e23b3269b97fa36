/- Package node and what it stands on, so far as it is wanted: what each function answers. -/
import Derived.Test.YtkhepdpfdhdlaaaGreatDoorZa
import Derived.Test.YtkhepdpfdhdlaaaGreatDoorZd
set_option linter.unusedVariables false
set_option linter.unusedSimpArgs false
set_option linter.unusedSectionVars false
namespace Go.Proofs.YtkhepdpfdhdlaaaGreatDoor
open Go.RowKit
theorem uG (l:List Mb) (vh:Value) (no:Int) (w:World) (hR:br w vh 33 l.length (ap l)) (hln:l.length<=1000):Calls Tryz.prog 233 [vh,.int .i64 no].toArray w (cd w (is (.bool (pZ l no)))):=by
 refine bN Tryz.func233 rfl Tryz.ntmps233 rfl λf h s=>qr (aZ (#[.int .i64 no]) h s rfl rfl rfl λf w1 b3 h s=>e9 ac 1 h rfl λf h=>cw ac 1 h rfl λf h=>am h (dF [.pointer (some ⟨b3,0,none⟩)] (kQ h rfl)) rfl λf h=>dM h s LH (mx l vh 293 [.pointer (some ⟨b3,0,none⟩)] (λx=>decide (x.1=no)) _ (hR.keep s.ext) hln RR (λw9 h9 x _=>BF x no b3 w9 ((iX.of_own s 0 rfl).keep h9))) rfl rfl λf w1 h s=>e9 ac 1 h rfl λf h=>av8 (aA rfl h s rfl (rfl)))
theorem mL (l:List Mb) (vh:Value) (no:Int) (w:World) (hR:br w vh 33 l.length (ap l)) (hln:l.length<=1000):Calls Tryz.prog 185 [vh,.int .i64 no].toArray w (cd w (is (.bool (q8 l no)))):=by
 refine bN Tryz.func185 rfl Tryz.ntmps185 rfl λf h s=>bJ ac 1 h rfl λf h=>ah (cw ac 1 h rfl λf h=>bT h (hR.keep s.ext) aD1 rfl rfl λf h=>e9 ac 1 h rfl λf h=>av9 (aw1 (λnn aa ww=>∃ k:Nat,Sl 32 aa [(0,vh),(1,.int .i64 no),(7,vh),(8,.int .i64 (l.length:Int)),(9,.int .i64 (k:Int))]/\St w [] ww/\nn=l.length - k/\k<=l.length/\∀ j,j<k->og l no j=false) (l.length - (0)) ⟨0,h.only ⟨rfl,rfl,rfl,rfl,aD rfl (by omega),trivial⟩,s.as trivial,rfl,at8 _,λj hj=>az2 hj (ax1 _)⟩ ?_))
 rintro _ f w1 ⟨k,h,s,hnn,hp0,hp1⟩
 refine bJ ac 1 h rfl λf h=>ah (dA h rfl (λhc=>?_) (λhc=>?_))
 ·refine kt (ah (av9 (cw ac 1 h rfl λf h=>?_)))
  have hkl:k<l.length:=by omega
  refine am h (bg (hR.keep s.ext) (k) aD1 ed (h.ev rfl) (h.ev rfl) (by omega) (by omega)) rfl λf h=>az ((hR.keep s.ext).el (k) (by omega) (by decide) (D:=ay (l.getD k bz)) (fu l k hkl)) h aY rfl (ai _) rfl λf h=>aO (ay bz) h s eV rfl rfl λf w1 b6 h s=>al ac 1 h rfl λf h=>aj 0 h s aY rfl rfl rfl (ai _) (ai _) (bI _) λw1 s=>nt (ah ?_)
  cases k0:(gb (l.getD k bz):Bool)
  ·refine cQ 17 h (by kernel_rfl) (aX 0 h s aY rfl rfl (ai _) rfl λf h=>bj h mB (λw9 hE9=>a6 (.bool false) (iF (l.getD k bz) w9) (ar8 Value.bool k0)) rfl rfl λf h=>ar ac 15 h rfl λf h=>bK s λw1 s=>gh h rfl (bJ ac 1 h rfl λf h=>av8 (bh (aU (aU (bh (aU (aA rfl h s rfl (by show _=_;rw [rZ hkl (SL k0)])))))))))
  ·skip
   refine cQ 17 h (by kernel_rfl) (aX 0 h s aY rfl rfl (ai _) rfl λf h=>bj h mB (λw9 hE9=>a6 (.bool true) (iF (l.getD k bz) w9) (ar8 Value.bool k0)) rfl rfl λf h=>ar ac 3 h rfl λf h=>bD h rfl (ao (ae (aF.of_own s 0 rfl) 0 (cf _)) h bu rfl rfl λf h=>ar ac 1 h rfl λf h=>bD h rfl (Ko ac h rfl (λk1 f h=>?_) (λk1 f h=>?_))))
   ·refine ar ac 4 h rfl λf h=>bD h rfl (av h (eY (hR.keep s.ext) (k) aD1 ed (h.ev rfl) (h.ev rfl) (rfl) (by omega)) rfl λf h=>ar ac 1 h rfl λf h=>bD h rfl (ao (ae (aF.of_own s 0 rfl) 0 (cf _)) h bu rfl rfl λf h=>bD h rfl (bj h LN (λw9 hE9=>uG (l.take k) (jK vh k) (l.getD k bz).1 w9 ((De hR k (by omega)).keep (s.ext.trans hE9)) (by rw [av5];omega)) rfl rfl λf h=>ar ac 1 h rfl λf h=>bK s λw1 s=>nt (cr h rfl (λhc=>?_) (λhc=>?_)))))
    ·refine bJ ac 1 h rfl λf h=>av8 (bh (aU (aU (bh (aU (aA rfl h s rfl (by show _=_;rw [rZ hkl ((Lz k0 k1).trans hc)])))))))
    ·refine wpIn_skip (bo (aK (aG (am h (bY (h.ev rfl) (h.ev rfl) (by omega)) rfl λf h=>e9 ac 1 h rfl λf h=>?_))))
     have hb9:og l no k=false:=(Lz k0 k1).trans hc
     exact ⟨_,by omega,⟨k+1,h.only ⟨rfl,rfl,rfl,rfl,aD rfl (by omega),trivial⟩,St.as (s.pick _ (at3 [_] _)) trivial,rfl,by omega,gY hp1 hb9⟩⟩
   ·refine ar ac 9 h rfl λf h=>bK s λw1 s=>gh h rfl (bJ ac 1 h rfl λf h=>av8 (bh (aU (aU (bh (aU (aA rfl h s rfl (by show _=_;rw [rZ hkl (SJ k1)]))))))))
 ·refine aw0 (ba (ba (cj (aK (bJ ac 1 h rfl λf h=>av8 (aA rfl h s rfl (by show _=_;rw [I4 (by omega) hp1])))))))
theorem PF (l:List Mb) (vh:Value) (m:Mb) (w:World) (hR:br w vh 33 l.length (ap l)) (hln:l.length<=1000):Calls Tryz.prog 111 [vh,.agg (ay m)].toArray w (cd w (is (.bool (pX l m)))):=by
 refine bN Tryz.func111 rfl Tryz.ntmps111 rfl λf h s=>qr (aZ ((ay m)) h s rfl rfl rfl λf w1 b3 h s=>e9 ac 1 h rfl λf h=>ah (ah ?_))
 cases h1:(decide (l.length=1):Bool)
 ·refine cQ 10 h (by kernel_rfl) (ar ac 1 h rfl λf h=>av h (iv (hR.keep s.ext) aD1 (h.ev rfl)) rfl λf h=>zC ac h rfl (ar6 (by have:=ar5 h1;omega)) λf h=>ar ac 7 h rfl λf h=>bK s λw1 s=>fL h rfl (ah ?_))
  cases g0:(decide (1<=l.length):Bool)
  ·refine aG ?_
   have hno:¬ (l.length=1/\l.getD 0 bz=m):=(by rintro ⟨h9,h8⟩;exact az2 h9 (ar5 h1))
   refine al ac 1 h rfl λf h=>bT h (hR.keep s.ext) aD1 rfl rfl λf h=>eF ac h rfl (ar6 (by have:=ar5 g0;omega)) λf h=>e9 ac 12 h rfl λf h=>av8 (aA rfl h s rfl (by show _=_;rw [Rq hno g0]))
  ·skip
   cases g1:(decide (l.length<=4):Bool)
   ·refine aG ?_
    have hno:¬ (l.length=1/\l.getD 0 bz=m):=(by rintro ⟨h9,h8⟩;exact az2 h9 (ar5 h1))
    refine al ac 1 h rfl λf h=>bT h (hR.keep s.ext) aD1 rfl rfl λf h=>fy ac h rfl (ar7 (by have:=ar4 g0;omega)) λf h=>al ac 2 h rfl λf h=>bF h rfl (bT h (hR.keep s.ext) aD1 rfl rfl λf h=>bF h rfl (eF ac h rfl (ar6 (by have:=ar5 g1;omega)) λf h=>e9 ac 8 h rfl λf h=>av8 (aA rfl h s rfl (by show _=_;rw [Rj hno g1]))))
   ·refine aG ?_
    have hno:¬ (l.length=1/\l.getD 0 bz=m):=(by rintro ⟨h9,h8⟩;exact az2 h9 (ar5 h1))
    refine al ac 1 h rfl λf h=>bT h (hR.keep s.ext) aD1 rfl rfl λf h=>fy ac h rfl (ar7 (by have:=ar4 g0;omega)) λf h=>al ac 2 h rfl λf h=>bF h rfl (bT h (hR.keep s.ext) aD1 rfl rfl λf h=>bF h rfl (fy ac h rfl (ar7 (by have:=ar4 g1;omega)) λf h=>al ac 4 h rfl λf h=>bF h rfl (ag (ae (aF.of_own s 0 rfl) 0 (cf _)) h bu rfl rfl λf h=>bF h rfl (dM h s Bl (mL l vh m.1 _ (hR.keep s.ext) hln) rfl rfl λf w1 h s=>e9 ac 2 h rfl λf h=>av8 (aA rfl h s rfl (by show _=_;rw [QQ hno g0 g1]))))))
 ·skip
  cases h2:(decide (l.getD 0 bz=m):Bool)
  ·refine cQ 10 h (by kernel_rfl) (ar ac 1 h rfl λf h=>av h (iv (hR.keep s.ext) aD1 (h.ev rfl)) rfl λf h=>ot ac h rfl (ar7 (by have:=ar4 h1;omega)) λf h=>ar ac 2 h rfl λf h=>bD h rfl ?_)
   have h19:=ar4 h1
   refine av h (bg (hR.keep s.ext) (0) aD1 ed (h.ev rfl) (h.ev rfl) (by omega) (by omega)) rfl λf h=>bD h rfl (aE ((hR.keep s.ext).el (0) (by omega) (by decide) (D:=ay (l.getD 0 bz)) (fu l 0 (by omega))) h aY rfl (ai _) rfl λf h=>bD h rfl (aX 0 h s aY rfl rfl (ai _) rfl λf h=>bD h rfl (av h (a8 (.bool false) (dS (uW _ _) (by kernel_rfl) (by decide) (h.ev rfl) (h.ev rfl) (decide (l.getD 0 bz=m)) (jC _ _)) (ar8 Value.bool h2)) rfl λf h=>ar ac 1 h rfl λf h=>bK s λw1 s=>fL h rfl (ah ?_))))
   cases g0:(decide (1<=l.length):Bool)
   ·refine aG ?_
    have hno:¬ (l.length=1/\l.getD 0 bz=m):=(by rintro ⟨h9,h8⟩;exact az2 h8 (ar5 h2))
    refine al ac 1 h rfl λf h=>bT h (hR.keep s.ext) aD1 rfl rfl λf h=>eF ac h rfl (ar6 (by have:=ar5 g0;omega)) λf h=>e9 ac 12 h rfl λf h=>av8 (aA rfl h s rfl (by show _=_;rw [Rq hno g0]))
   ·skip
    cases g1:(decide (l.length<=4):Bool)
    ·refine aG ?_
     have hno:¬ (l.length=1/\l.getD 0 bz=m):=(by rintro ⟨h9,h8⟩;exact az2 h8 (ar5 h2))
     refine al ac 1 h rfl λf h=>bT h (hR.keep s.ext) aD1 rfl rfl λf h=>fy ac h rfl (ar7 (by have:=ar4 g0;omega)) λf h=>al ac 2 h rfl λf h=>bF h rfl (bT h (hR.keep s.ext) aD1 rfl rfl λf h=>bF h rfl (eF ac h rfl (ar6 (by have:=ar5 g1;omega)) λf h=>e9 ac 8 h rfl λf h=>av8 (aA rfl h s rfl (by show _=_;rw [Rj hno g1]))))
    ·refine aG ?_
     have hno:¬ (l.length=1/\l.getD 0 bz=m):=(by rintro ⟨h9,h8⟩;exact az2 h8 (ar5 h2))
     refine al ac 1 h rfl λf h=>bT h (hR.keep s.ext) aD1 rfl rfl λf h=>fy ac h rfl (ar7 (by have:=ar4 g0;omega)) λf h=>al ac 2 h rfl λf h=>bF h rfl (bT h (hR.keep s.ext) aD1 rfl rfl λf h=>bF h rfl (fy ac h rfl (ar7 (by have:=ar4 g1;omega)) λf h=>al ac 4 h rfl λf h=>bF h rfl (ag (ae (aF.of_own s 0 rfl) 0 (cf _)) h bu rfl rfl λf h=>bF h rfl (dM h s Bl (mL l vh m.1 _ (hR.keep s.ext) hln) rfl rfl λf w1 h s=>e9 ac 2 h rfl λf h=>av8 (aA rfl h s rfl (by show _=_;rw [QQ hno g0 g1]))))))
  ·refine cQ 10 h (by kernel_rfl) (ar ac 1 h rfl λf h=>av h (iv (hR.keep s.ext) aD1 (h.ev rfl)) rfl λf h=>ot ac h rfl (ar7 (by have:=ar4 h1;omega)) λf h=>ar ac 2 h rfl λf h=>bD h rfl ?_)
   have h19:=ar4 h1
   refine av h (bg (hR.keep s.ext) (0) aD1 ed (h.ev rfl) (h.ev rfl) (by omega) (by omega)) rfl λf h=>bD h rfl (aE ((hR.keep s.ext).el (0) (by omega) (by decide) (D:=ay (l.getD 0 bz)) (fu l 0 (by omega))) h aY rfl (ai _) rfl λf h=>bD h rfl (aX 0 h s aY rfl rfl (ai _) rfl λf h=>bD h rfl (av h (a8 (.bool true) (dS (uW _ _) (by kernel_rfl) (by decide) (h.ev rfl) (h.ev rfl) (decide (l.getD 0 bz=m)) (jC _ _)) (ar8 Value.bool h2)) rfl λf h=>ar ac 1 h rfl λf h=>bK s λw1 s=>gh h rfl (bJ ac 1 h rfl λf h=>rt (aA rfl h s rfl (by show _=_;rw [Y8 h1 h2]))))))
theorem GZ (l:List Mb) (vh:Value) (no:Int) (w:World) (hR:br w vh 33 l.length (ap l)) (hln:l.length<=1000):Calls Tryz.prog 112 [vh,.int .i64 no].toArray w (cd w (is (.bool (Ar l no)))):=by
 refine bN Tryz.func112 rfl Tryz.ntmps112 rfl λf h s=>bJ ac 1 h rfl λf h=>ah ?_
 cases g0:(decide (l.length<=16):Bool)
 ·refine rs ac 1 h rfl λf h=>bT h (hR.keep s.ext) aD1 rfl rfl λf h=>eF ac h rfl (ar6 (by have:=ar5 g0;omega)) λf h=>e9 ac 6 h rfl λf h=>av8 (aA rfl h s rfl (by show _=_;rw [Y1 g0]))
 ·refine rs ac 1 h rfl λf h=>bT h (hR.keep s.ext) aD1 rfl rfl λf h=>fy ac h rfl (ar7 (by have:=ar4 g0;omega)) λf h=>al ac 3 h rfl λf h=>bF h rfl (dM h s Bl (mL l vh no _ (hR.keep s.ext) hln) rfl rfl λf w1 h s=>e9 ac 2 h rfl λf h=>av8 (aA rfl h s rfl (by show _=_;rw [YT g0])))
theorem gi (n:Nd) (vs vf:Value) (w:World) (hRs:br w vs 33 n.sc.length (ap n.sc)) (hRf:br w vf 33 n.fg.length (ap n.fg)) (hns:n.sc.length<=1000) (hnf:n.fg.length<=1000):Calls Tryz.prog 65 [.agg (aP n.me n.pr vs vf)].toArray w (cd w (is (.bool (cY n)))):=by
 refine bN Tryz.func65 rfl Tryz.ntmps65 rfl λf h s=>qr (aZ (aP n.me n.pr vs vf) h s rfl rfl rfl λf w1 b1 h s=>e9 ac 1 h rfl λf h=>ah ?_)
 refine rs ac 1 h rfl λf h=>az (aF.subL (aF.of_own s 0 rfl) 0 33 (D:=ay n.me) (cN _ _ _ _)) h aY rfl (ai _) rfl λf h=>eC h s mB (iF n.me _) rfl rfl (λh0 f w1 h s=>?_) (λh0 f w1 h s=>?_)
 ·refine e9 ac 24 h rfl λf h=>av8 (aA rfl h s rfl (by show _=_;rw [OB h0]))
 ·skip
  refine al ac 2 h rfl λf h=>bF h rfl (az (aF.subL (aF.of_own s 0 rfl) 33 33 (D:=ay n.pr) (fm _ _ _ _)) h aY rfl (ai _) rfl λf h=>al ac 2 h rfl λf h=>bF h rfl (ag (ae (aF.of_own s 0 rfl) 0 (kR _ _ _ _)) h bu rfl rfl λf h=>bF h rfl (eC h s SP (NO n.pr n.me.1 _) rfl rfl (λh1 f w1 h s=>?_) (λh1 f w1 h s=>?_))))
  ·refine e9 ac 17 h rfl λf h=>av8 (aA rfl h s rfl (by show _=_;rw [Pn h1]))
  ·skip
   refine al ac 3 h rfl λf h=>bF h rfl (ag (V:=vs) (ae (aF.of_own s 0 rfl) 66 (gc _ _ _ _)) h c7 rfl rfl λf h=>al ac 1 h rfl λf h=>bF h rfl (az (aF.subL (aF.of_own s 0 rfl) 0 33 (D:=ay n.me) (cN _ _ _ _)) h aY rfl (ai _) rfl λf h=>bF h rfl (eC h s R2 (PF n.sc vs n.me _ (hRs.keep s.ext) hns) rfl rfl (λh2 f w1 h s=>?_) (λh2 f w1 h s=>?_))))
   ·refine e9 ac 10 h rfl λf h=>av8 (aA rfl h s rfl (by show _=_;rw [Ov h2]))
   ·refine al ac 3 h rfl λf h=>bF h rfl (ag (V:=vf) (ae (aF.of_own s 0 rfl) 67 (ik _ _ _ _)) h c7 rfl rfl λf h=>al ac 2 h rfl λf h=>bF h rfl (ag (ae (aF.of_own s 0 rfl) 0 (kR _ _ _ _)) h bu rfl rfl λf h=>bF h rfl (dM h s SN (GZ n.fg vf n.me.1 _ (hRf.keep s.ext) hnf) rfl rfl λf w1 h s=>e9 ac 2 h rfl λf h=>av8 (aA rfl h s rfl (by show _=_;rw [PJ h0 h1 h2])))))
theorem mX (n:Nd) (vs vf:Value) (w:World) (hRs:br w vs 33 n.sc.length (ap n.sc)) (hRf:br w vf 33 n.fg.length (ap n.fg)) (hns:n.sc.length<=1000) (hnf:n.fg.length<=1000):Calls Tryz.prog 265 [.agg (aP n.me n.pr vs vf)].toArray w (cd w (Xy w 69 n)):=by
 refine bN Tryz.func265 rfl Tryz.ntmps265 rfl λf h s=>qr (aZ (aP n.me n.pr vs vf) h s rfl rfl rfl λf w1 b1 h s=>aO (aP bz bz au au) h s jJ rfl rfl λf w1 b2 h s=>nt (cw ac 1 h rfl λf h=>ag (V:=vs) (ae (aF.of_own s 1 rfl) 66 (gc _ _ _ _)) h c7 rfl rfl λf h=>bB h s uO (gU n.sc hns vs _ (hRs.keep s.ext)) rfl rfl ?_));intro f w1 v5 hT hE h sq;replace s:=s.sl_new hE hT
 refine al ac 1 h rfl λf h=>aJ 2 h s c7 rfl rfl rfl (by rw [aq];omega) (aT (s.getSl 0 rfl)) λw1 s=>?_
 replace s:=s.recell (D:=aP n.me n.pr v5 vf) 2 rfl (nu _ _ _ _ _)
 refine nt (cw ac 1 h rfl λf h=>ag (V:=vf) (ae (aF.of_own s 2 rfl) 67 (ik _ _ _ _)) h c7 rfl rfl λf h=>bB h s uO (gU n.fg hnf vf _ (hRf.keep s.ext)) rfl rfl ?_);intro f w1 v9 hT hE h sq;replace s:=s.sl_new hE hT
 refine al ac 1 h rfl λf h=>aJ 3 h s c7 rfl rfl rfl (by rw [aq];omega) (aT (s.getSl 0 rfl)) λw1 s=>?_
 replace s:=s.recell (D:=aP n.me n.pr v5 v9) 3 rfl (q9 _ _ _ _ _)
 refine nt (qr (ak 3 h s bS rfl rfl (aq _ _ _ _) rfl λf h=>aj 2 h s bS rfl rfl rfl (aq _ _ _ _) (aq _ _ _ _) (bP (aT (s.getSl 1 rfl)) (aT (s.getSl 0 rfl))) λw1 s=>nt (av8 (iP 2 rfl h s bS rfl rfl (aq _ _ _ _) (Ti rfl (s.sel [1,0] rfl (by decide)))))))
theorem lV (x:Mb) (nos:List Int) (vn:Value) (bx:Nat) (w:World) (hb:iX w bx #[vn]) (hN:br w vn 1 nos.length (nos.map (Value.int .i64))) (hnn:nos.length<=1000):Calls Tryz.prog 263 [.agg (ay x),.pointer (some ⟨bx,0,none⟩)].toArray w (cd w (is (.bool (fx nos x)))):=by
 refine bN Tryz.func263 rfl Tryz.ntmps263 rfl λf h s=>qr (aZ ((ay x)) h s rfl rfl rfl λf w1 b2 h s=>e9 ac 1 h rfl λf h=>qr (ag (V:=vn) (ae (aF.of_tab (hb.keep s.ext)) 0 (rfl)) h D5 rfl rfl λf h=>al ac 1 h rfl λf h=>ag (ae (aF.of_own s 0 rfl) 0 (cf _)) h bu rfl rfl λf h=>dM h s TY (E5 nos vn x.1 _ (hN.keep s.ext) hnn) rfl rfl λf w1 h s=>e9 ac 1 h rfl λf h=>av8 (aA rfl h s rfl (rfl))))
set_option maxHeartbeats 1000000 in
theorem FL (n:Nd) (vs vf:Value) (nos:List Int) (vn:Value) (w:World) (hRs:br w vs 33 n.sc.length (ap n.sc)) (hRf:br w vf 33 n.fg.length (ap n.fg)) (hns:n.sc.length<=1000) (hnf:n.fg.length<=1000) (hN:br w vn 1 nos.length (nos.map (Value.int .i64))) (hnn:nos.length<=1000):Calls Tryz.prog 203 [.agg (aP n.me n.pr vs vf),vn].toArray w (cd w (BR w 69 (VJ n nos) (Vz n))):=by
 refine bN Tryz.func203 rfl Tryz.ntmps203 rfl λf h s=>qr (aZ (aP n.me n.pr vs vf) h s rfl rfl rfl λf w1 b2 h s=>aZ (#[vn]) h s rfl (U2 (hN.keep s.ext)) rfl λf w1 b3 h s=>aO (aP bz bz au au) h s jJ rfl rfl λf w1 b4 h s=>e9 ac 1 h rfl λf h=>ah (ah ?_))
 refine aG (ak 2 h s bS rfl rfl (aq _ _ _ _) rfl λf h=>eC h s rL (gi n vs vf _ (hRs.keep s.ext) (hRf.keep s.ext) hns hnf) rfl rfl (λhr f w1 h s=>?_) (λhr f w1 h s=>?_))
 ·refine e9 ac 1 h rfl λf h=>dw h rfl (qr (am h (fM Cg) rfl λf h=>aj 0 h s bS rfl rfl rfl (aq _ _ _ _) (aq _ _ _ _) (bP (rfl) (rfl)) λw1 s=>e9 ac 1 h rfl λf h=>rt (bL 0 rfl h s bS rfl rfl (aq _ _ _ _) rfl (pi s (QS nos hr).1 (QS nos hr).2))))
 ·refine e9 ac 1 h rfl λf h=>mQ h rfl (qr ?_)
  have hrt:=hr
  refine am h (dF [.pointer (some ⟨b3,0,none⟩)] (kQ h rfl)) rfl λf h=>e9 ac 1 h rfl λf h=>qr (ak 2 h s bS rfl rfl (aq _ _ _ _) rfl λf h=>bB h s B5 (mX n vs vf _ (hRs.keep s.ext) (hRf.keep s.ext) hns hnf) rfl rfl ?_);rintro f w1 v13 ⟨us,uf,rfl,hS⟩ hE h sq;replace s:=s.add hS
  refine aj 4 h s bS rfl rfl rfl (aq _ _ _ _) (aq _ _ _ _) (bP (aT (s.getSl 0 rfl)) (aT (s.getSl 1 rfl))) λw1 s=>nt (ah (fH 1 7 [[],[0],[],[0,1,2],[],[4],[0,1,2,3,4,5],[0,1,2,3,4,5,6],[0,1,2,3,4,5,6,7]] [[],[],[],[9],[],[],[3],[],[]] [[_]] [.v _,.v us,.v (.func (.func 263) #[] #[.pointer (some ⟨b3,0,none⟩)]),.m (λv=>[.sl (v 3) 69 33 (n.sc.filter λx => !(fx nos) x).length (ap (n.sc.filter λx => !(fx nos) x))]),.v _,.v (.agg (ay n.me)),.m (λv=>[.sl (v 6) 69 33 (o7 (n.sc.filter λx => !(fx nos) x) n.me).length (ap (o7 (n.sc.filter λx => !(fx nos) x) n.me))]),.n,.n] _ h s rfl (by kernel_rfl) (by kernel_rfl) (by kernel_rfl) (fJ ac h rfl rfl rfl (bW ?_ (bW ?_ (bW ?_ (fJ ac h rfl rfl rfl (bW ?_ (bW ?_ (trivial)))))))) [0,1,2,4,5,6] (by kernel_rfl) ?_))
  ·intro f9 w2 vl5 E9 hs9 hd9 hl hF s
   have h:=cb [(14,_)] h hs9 hd9 ⟨aS hl 14 0 (by kernel_rfl) (hF 0 (by decide)),trivial⟩
   refine ag (V:=us) (ae (aF.of_own s 3 rfl) 66 (gc _ _ _ _)) h c7 rfl rfl λf h=>aw ⟨_,aV 15 h rfl rfl,rfl,s⟩
  ·intro f9 w2 vl5 E9 hs9 hd9 hl hF s
   have h:=cb [(6,_)] h hs9 hd9 ⟨d5 hl 6 (by kernel_rfl) (h.holds 6 _ rfl),trivial⟩
   refine al ac 1 h rfl λf h=>aw ⟨_,aV 16 h rfl rfl,rfl,s⟩
  ·intro f9 w2 vl5 E9 hs9 hd9 hl hF s
   have h:=cb [(15,_),(16,_)] h hs9 hd9 ⟨aS hl 15 1 (by kernel_rfl) (hF 1 (by decide)),aS hl 16 2 (by kernel_rfl) (hF 2 (by decide)),trivial⟩
   refine cF [us,.func (.func 263) #[] #[.pointer (some ⟨b3,0,none⟩)]] h LM (pN n.sc hns us 263 [.pointer (some ⟨b3,0,none⟩)] (fx nos) _ _ _ s xl (λA9 w9 s9 x hx=>lV x nos vn b3 w9 (iX.of_mem (u:=55) s9 (by simp)) (hN.keep s9.ext) hnn)) rfl rfl ?_;rintro f w1 v17 s h
   exact aw ⟨_,aV 17 h rfl rfl,trivial,s⟩
  ·intro f9 w2 vl5 E9 hs9 hd9 hl hF s
   have h:=cb [(18,_)] h hs9 hd9 ⟨aS hl 18 4 (by kernel_rfl) (hF 4 (by decide)),trivial⟩
   refine az (aF.subL (aF.of_own s 3 rfl) 0 33 (D:=ay n.me) (cN _ _ _ _)) h aY rfl (ai _) rfl λf h=>aw ⟨_,aV 19 h rfl rfl,rfl,s⟩
  ·intro f9 w2 vl5 E9 hs9 hd9 hl hF s
   have e17:f9.tmps.getD 17 undef=(vl5 3):=dO hl 17 3 (by kernel_rfl) (by kernel_rfl)
   have e19:f9.tmps.getD 19 undef=.agg (ay n.me):=(dO hl 19 5 (by kernel_rfl) (by kernel_rfl)).trans (hF 5 (by decide))
   have h:=dy [(17,(vl5 3)),(19,.agg (ay n.me))] (hs9.trans h.size) (hd9.trans h.defers) (holds_lk ⟨e17,e19,trivial⟩)
   refine cF [(vl5 3),.agg (ay n.me)] h II (py (n.sc.filter λx => !(fx nos) x) (vl5 3) n.me _ _ _ s) rfl rfl ?_;rintro f w1 v20 s h
   exact aw ⟨_,aV 20 h rfl rfl,trivial,s⟩
  intro f w1 vl5 hs9 hd9 hv hr hF s
  replace hv:=λi d h9=>hv i d (show Nat.blt i 7=true from h9)
  replace h:=eI 7 (ops:=_) [(14,_),(15,_),(16,_),(17,(vl5 3)),(18,_),(19,_),(20,(vl5 6))] h hs9 hd9 hr ⟨(hv 0 14 rfl rfl).trans (hF 0 rfl),(hv 1 15 rfl rfl).trans (hF 1 rfl),(hv 2 16 rfl rfl).trans (hF 2 rfl),hv 3 17 rfl rfl,(hv 4 18 rfl rfl).trans (hF 4 rfl),(hv 5 19 rfl rfl).trans (hF 5 rfl),hv 6 20 rfl rfl,trivial⟩ (by kernel_rfl)
  replace s:St w [.sl (vl5 6) 69 33 (o7 (n.sc.filter λx => !(fx nos) x) n.me).length (ap (o7 (n.sc.filter λx => !(fx nos) x) n.me)),.sl uf 69 33 n.fg.length (ap n.fg),.blk b4 (.cells (aP bz bz au au) 72),.blk b3 (.cells (#[vn]) 55),.blk b2 (.cells (aP n.me n.pr us uf) 72)] _:=s
  refine al ac 1 h rfl λf h=>aJ 4 h s c7 rfl rfl rfl (by rw [aq];omega) (aT (s.getSl 0 rfl)) λw1 s=>?_
  replace s:=s.recell (D:=aP n.me n.pr (vl5 6) uf) 4 rfl (nu _ _ _ _ _)
  refine nt (cw ac 1 h rfl λf h=>ag (V:=uf) (ae (aF.of_own s 4 rfl) 67 (ik _ _ _ _)) h c7 rfl rfl λf h=>al ac 1 h rfl λf h=>?_)
  replace s:=(s.sel [1,0,2,3,4] rfl (by decide))
  refine cF [uf,.func (.func 263) #[] #[.pointer (some ⟨b3,0,none⟩)]] h LM (pN n.fg hnf uf 263 [.pointer (some ⟨b3,0,none⟩)] (fx nos) _ _ _ s xl (λA9 w9 s9 x hx=>lV x nos vn b3 w9 (iX.of_mem (u:=55) s9 (by simp)) (hN.keep s9.ext) hnn)) rfl rfl ?_;rintro f w1 v25 s h
  refine al ac 1 h rfl λf h=>aJ 4 h s c7 rfl rfl rfl (by rw [aq];omega) (aT (s.getSl 0 rfl)) λw1 s=>?_
  replace s:=s.recell (D:=aP n.me n.pr (vl5 6) v25) 4 rfl (q9 _ _ _ _ _)
  refine nt (ah (ah ?_))
  cases hgn:(fx nos n.pr:Bool)
  ·refine rs ac 2 h rfl λf h=>az (aF.subL (aF.of_own s 4 rfl) 33 33 (D:=ay n.pr) (fm _ _ _ _)) h aY rfl (ai _) rfl λf h=>eS [.agg (ay n.pr)] (caps:=[.pointer (some ⟨b3,0,none⟩)]) h s xl rfl (a6 (.bool false) (lV n.pr nos vn b3 _ (iX.of_own s 3 rfl) (hN.keep s.ext) hnn) (ar8 Value.bool hgn)) rfl rfl ?_;intro f w1 v30 hT hE h s;obtain rfl:=hT
   refine fL h rfl (qr (ak 4 h s bS rfl rfl (aq _ _ _ _) rfl λf h=>aj 2 h s bS rfl rfl rfl (aq _ _ _ _) (aq _ _ _ _) (bP (aT (s.getSl 1 rfl)) (aT (s.getSl 0 rfl))) λw1 s=>e9 ac 1 h rfl λf h=>av8 (bL 2 rfl h s bS rfl rfl (aq _ _ _ _) rfl (ke ((uS nos hrt).1.trans (by rw [RG hgn];rfl)) (uS nos hrt).2 (s.sel [1,0] rfl (by decide))))))
  ·refine rs ac 2 h rfl λf h=>az (aF.subL (aF.of_own s 4 rfl) 33 33 (D:=ay n.pr) (fm _ _ _ _)) h aY rfl (ai _) rfl λf h=>eS [.agg (ay n.pr)] (caps:=[.pointer (some ⟨b3,0,none⟩)]) h s xl rfl (a6 (.bool true) (lV n.pr nos vn b3 _ (iX.of_own s 3 rfl) (hN.keep s.ext) hnn) (ar8 Value.bool hgn)) rfl rfl ?_;intro f w1 v30 hT hE h s;obtain rfl:=hT
   refine gh h rfl (aG (dM h s jk (f8 _) rfl rfl λf w1 h s=>al ac 1 h rfl λf h=>eg 4 h s aY rfl rfl rfl (ai _) (by rw [aq];omega) (bI _) λw1 s=>?_))
   replace s:=s.recell (D:=aP n.me fe (vl5 6) v25) 4 rfl (qq _ _ _ _ _)
   refine nt (qr (ak 4 h s bS rfl rfl (aq _ _ _ _) rfl λf h=>aj 2 h s bS rfl rfl rfl (aq _ _ _ _) (aq _ _ _ _) (bP (aT (s.getSl 1 rfl)) (aT (s.getSl 0 rfl))) λw1 s=>e9 ac 1 h rfl λf h=>av8 (bL 2 rfl h s bS rfl rfl (aq _ _ _ _) rfl (ke ((uS nos hrt).1.trans (by rw [Q8 hgn];rfl)) (uS nos hrt).2 (s.sel [1,0] rfl (by decide))))))
end Go.Proofs.YtkhepdpfdhdlaaaGreatDoor
