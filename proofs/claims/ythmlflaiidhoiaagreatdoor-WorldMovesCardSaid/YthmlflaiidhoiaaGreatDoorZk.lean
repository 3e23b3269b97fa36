/- Package node: what its functions answer. -/
import Derived.Test.YthmlflaiidhoiaaGreatDoorZa
import Derived.Test.YthmlflaiidhoiaaGreatDoorZd
set_option linter.unusedVariables false
namespace Go.Proofs.YthmlflaiidhoiaaGreatDoor
open Go.RowKit
theorem HT (l:List Mb) (vh:Value) (no:Int) (w:World) (hR:bs w vh 33 l.length (aq l)) (hln:l.length<=1000):Calls Tryz.prog 242 [vh,.int .i64 no].toArray w (cb w (is (.bool (Ct l no)))):=by
 refine bK Tryz.func242 rfl Tryz.ntmps242 rfl λf h s=>qr (aV (#[.int .i64 no]) h s rfl rfl rfl λf w1 b3 h s=>e9 ac 1 h rfl λf h=>bU ac 1 h rfl λf h=>ai h (cO [.pointer (some ⟨b3,0,none⟩)] (ke h rfl)) rfl λf h=>dF h s T2 (nK l vh 299 [.pointer (some ⟨b3,0,none⟩)] (λx=>decide (x.1=no)) _ (hR.keep s.ext) hln VM (λw9 h9 x _=>CV x no b3 w9 ((gq.of_own s 0 rfl).keep h9))) rfl rfl λf w1 h s=>e9 ac 1 h rfl λf h=>aL3 (av rfl h s rfl (rfl)))
theorem oQ (l:List Mb) (vh:Value) (no:Int) (w:World) (hR:bs w vh 33 l.length (aq l)) (hln:l.length<=1000):Calls Tryz.prog 205 [vh,.int .i64 no].toArray w (cb w (is (.bool (tS l no)))):=by
 refine bK Tryz.func205 rfl Tryz.ntmps205 rfl λf h s=>bE ac 1 h rfl λf h=>ah (bU ac 1 h rfl λf h=>ck h (hR.keep s.ext) aS2 rfl rfl λf h=>e9 ac 1 h rfl λf h=>aL4 (aL6 (λnn aa ww=>∃ k:Nat,Sl 32 aa [(0,vh),(1,.int .i64 no),(7,vh),(8,.int .i64 (l.length:Int)),(9,.int .i64 (k:Int))]/\St w [] ww/\nn=l.length - k/\k<=l.length/\∀ j,j<k->px l no j=false) (l.length - (0)) ⟨0,h.only ⟨rfl,rfl,rfl,rfl,ao rfl (by omega),trivial⟩,s.as trivial,rfl,aJ3 _,λj hj=>aO7 hj (aM6 _)⟩ ?_))
 rintro _ f w1 ⟨k,h,s,hnn,hp0,hp1⟩
 refine bE ac 1 h rfl λf h=>ah (cB h rfl (λhc=>?_) (λhc=>?_))
 ·refine kt (ah (aL4 (bU ac 1 h rfl λf h=>?_)))
  have hkl:k<l.length:=by omega
  refine ai h (bj (hR.keep s.ext) (k) aS2 dX (h.ev rfl) (h.ev rfl) (by omega) (by omega)) rfl λf h=>ap ((hR.keep s.ext).el (k) (by omega) (by decide) (D:=ar (l.getD k bH)) (eM l k hkl)) h aQ rfl (aj _) rfl λf h=>aK (ar bH) h s em rfl rfl λf w1 b6 h s=>am ac 1 h rfl λf h=>al 0 h s aQ rfl rfl rfl (aj _) (aj _) (bD _) λw1 s=>nt (ah ?_)
  cases k0:(im (l.getD k bH):Bool)
  ·refine dJ 17 h (by kernel_rfl) (aT 0 h s aQ rfl rfl (aj _) rfl λf h=>bF h qp (λw9 hE9=>aR (.bool false) (kI (l.getD k bH) w9) (aH3 Value.bool k0)) rfl rfl λf h=>ay ac 15 h rfl λf h=>bY s λw1 s=>iY h rfl (bE ac 1 h rfl λf h=>aL3 (bA (aS (aS (bA (aS (av rfl h s rfl (by show _=_;rw [uu hkl (Yf k0)])))))))))
  ·skip
   refine dJ 17 h (by kernel_rfl) (aT 0 h s aQ rfl rfl (aj _) rfl λf h=>bF h qp (λw9 hE9=>aR (.bool true) (kI (l.getD k bH) w9) (aH3 Value.bool k0)) rfl rfl λf h=>ay ac 3 h rfl λf h=>bL h rfl (aB (ae (aJ.of_own s 0 rfl) 0 (cp _)) h bJ rfl rfl λf h=>ay ac 1 h rfl λf h=>bL h rfl (MC ac h rfl (λk1 f h=>?_) (λk1 f h=>?_))))
   ·refine ay ac 4 h rfl λf h=>bL h rfl (aF h (eA (hR.keep s.ext) (k) aS2 dX (h.ev rfl) (h.ev rfl) (rfl) (by omega)) rfl λf h=>ay ac 1 h rfl λf h=>bL h rfl (aB (ae (aJ.of_own s 0 rfl) 0 (cp _)) h bJ rfl rfl λf h=>bL h rfl (bF h Xr (λw9 hE9=>HT (l.take k) (eT vh k) (l.getD k bH).1 w9 ((Fz hR k (by omega)).keep (s.ext.trans hE9)) (by rw [aL0];omega)) rfl rfl λf h=>ay ac 1 h rfl λf h=>bY s λw1 s=>nt (bV h rfl (λhc=>?_) (λhc=>?_)))))
    ·refine bE ac 1 h rfl λf h=>aL3 (bA (aS (aS (bA (aS (av rfl h s rfl (by show _=_;rw [uu hkl ((Mu k0 k1).trans hc)])))))))
    ·refine wpIn_skip (aW (aD (aw (ai h (bo (h.ev rfl) (h.ev rfl) (by omega)) rfl λf h=>e9 ac 1 h rfl λf h=>?_))))
     have hb9:px l no k=false:=(Mu k0 k1).trans hc
     exact ⟨_,by omega,⟨k+1,h.only ⟨rfl,rfl,rfl,rfl,ao rfl (by omega),trivial⟩,St.as (s.pick _ (aI8 [_] _)) trivial,rfl,by omega,fF hp1 hb9⟩⟩
   ·refine ay ac 9 h rfl λf h=>bY s λw1 s=>iY h rfl (bE ac 1 h rfl λf h=>aL3 (bA (aS (aS (bA (aS (av rfl h s rfl (by show _=_;rw [uu hkl (UP k1)]))))))))
 ·refine aL5 (aO (aO (bS (aD (bE ac 1 h rfl λf h=>aL3 (av rfl h s rfl (by show _=_;rw [JL (by omega) hp1])))))))
theorem Qy (l:List Mb) (vh:Value) (m:Mb) (w:World) (hR:bs w vh 33 l.length (aq l)) (hln:l.length<=1000):Calls Tryz.prog 132 [vh,.agg (ar m)].toArray w (cb w (is (.bool (rE l m)))):=by
 refine bK Tryz.func132 rfl Tryz.ntmps132 rfl λf h s=>qr (aV ((ar m)) h s rfl rfl rfl λf w1 b3 h s=>e9 ac 1 h rfl λf h=>ah (ah ?_))
 cases h1:(decide (l.length=1):Bool)
 ·refine dJ 10 h (by kernel_rfl) (ay ac 1 h rfl λf h=>aF h (jk (hR.keep s.ext) aS2 (h.ev rfl)) rfl λf h=>vB ac h rfl (aH1 (by have:=aH0 h1;omega)) λf h=>ay ac 7 h rfl λf h=>bY s λw1 s=>gS h rfl (ah ?_))
  cases g0:(decide (1<=l.length):Bool)
  ·refine aw ?_
   have hno:¬ (l.length=1/\l.getD 0 bH=m):=(by rintro ⟨h9,h8⟩;exact aO7 h9 (aH0 h1))
   refine am ac 1 h rfl λf h=>ck h (hR.keep s.ext) aS2 rfl rfl λf h=>lj ac h rfl (aH1 (by have:=aH0 g0;omega)) λf h=>e9 ac 12 h rfl λf h=>aL3 (av rfl h s rfl (by show _=_;rw [S9 hno g0]))
  ·skip
   cases g1:(decide (l.length<=4):Bool)
   ·refine aw ?_
    have hno:¬ (l.length=1/\l.getD 0 bH=m):=(by rintro ⟨h9,h8⟩;exact aO7 h9 (aH0 h1))
    refine am ac 1 h rfl λf h=>ck h (hR.keep s.ext) aS2 rfl rfl λf h=>jK ac h rfl (aH2 (by have:=aG9 g0;omega)) λf h=>am ac 2 h rfl λf h=>cy h rfl (ck h (hR.keep s.ext) aS2 rfl rfl λf h=>cy h rfl (lj ac h rfl (aH1 (by have:=aH0 g1;omega)) λf h=>e9 ac 8 h rfl λf h=>aL3 (av rfl h s rfl (by show _=_;rw [Tf hno g1]))))
   ·refine aw ?_
    have hno:¬ (l.length=1/\l.getD 0 bH=m):=(by rintro ⟨h9,h8⟩;exact aO7 h9 (aH0 h1))
    refine am ac 1 h rfl λf h=>ck h (hR.keep s.ext) aS2 rfl rfl λf h=>jK ac h rfl (aH2 (by have:=aG9 g0;omega)) λf h=>am ac 2 h rfl λf h=>cy h rfl (ck h (hR.keep s.ext) aS2 rfl rfl λf h=>cy h rfl (jK ac h rfl (aH2 (by have:=aG9 g1;omega)) λf h=>am ac 4 h rfl λf h=>cy h rfl (ag (ae (aJ.of_own s 0 rfl) 0 (cp _)) h bJ rfl rfl λf h=>cy h rfl (dF h s D7 (oQ l vh m.1 _ (hR.keep s.ext) hln) rfl rfl λf w1 h s=>e9 ac 2 h rfl λf h=>aL3 (av rfl h s rfl (by show _=_;rw [Uu hno g0 g1]))))))
 ·skip
  cases h2:(decide (l.getD 0 bH=m):Bool)
  ·refine dJ 10 h (by kernel_rfl) (ay ac 1 h rfl λf h=>aF h (jk (hR.keep s.ext) aS2 (h.ev rfl)) rfl λf h=>nD ac h rfl (aH2 (by have:=aG9 h1;omega)) λf h=>ay ac 2 h rfl λf h=>bL h rfl ?_)
   have h19:=aG9 h1
   refine aF h (bj (hR.keep s.ext) (0) aS2 dX (h.ev rfl) (h.ev rfl) (by omega) (by omega)) rfl λf h=>bL h rfl (bh ((hR.keep s.ext).el (0) (by omega) (by decide) (D:=ar (l.getD 0 bH)) (eM l 0 (by omega))) h aQ rfl (aj _) rfl λf h=>bL h rfl (aT 0 h s aQ rfl rfl (aj _) rfl λf h=>bL h rfl (aF h (bz (.bool false) (ec (x6 _ _) (by kernel_rfl) (by decide) (h.ev rfl) (h.ev rfl) (decide (l.getD 0 bH=m)) (lg _ _)) (aH3 Value.bool h2)) rfl λf h=>ay ac 1 h rfl λf h=>bY s λw1 s=>gS h rfl (ah ?_))))
   cases g0:(decide (1<=l.length):Bool)
   ·refine aw ?_
    have hno:¬ (l.length=1/\l.getD 0 bH=m):=(by rintro ⟨h9,h8⟩;exact aO7 h8 (aH0 h2))
    refine am ac 1 h rfl λf h=>ck h (hR.keep s.ext) aS2 rfl rfl λf h=>lj ac h rfl (aH1 (by have:=aH0 g0;omega)) λf h=>e9 ac 12 h rfl λf h=>aL3 (av rfl h s rfl (by show _=_;rw [S9 hno g0]))
   ·skip
    cases g1:(decide (l.length<=4):Bool)
    ·refine aw ?_
     have hno:¬ (l.length=1/\l.getD 0 bH=m):=(by rintro ⟨h9,h8⟩;exact aO7 h8 (aH0 h2))
     refine am ac 1 h rfl λf h=>ck h (hR.keep s.ext) aS2 rfl rfl λf h=>jK ac h rfl (aH2 (by have:=aG9 g0;omega)) λf h=>am ac 2 h rfl λf h=>cy h rfl (ck h (hR.keep s.ext) aS2 rfl rfl λf h=>cy h rfl (lj ac h rfl (aH1 (by have:=aH0 g1;omega)) λf h=>e9 ac 8 h rfl λf h=>aL3 (av rfl h s rfl (by show _=_;rw [Tf hno g1]))))
    ·refine aw ?_
     have hno:¬ (l.length=1/\l.getD 0 bH=m):=(by rintro ⟨h9,h8⟩;exact aO7 h8 (aH0 h2))
     refine am ac 1 h rfl λf h=>ck h (hR.keep s.ext) aS2 rfl rfl λf h=>jK ac h rfl (aH2 (by have:=aG9 g0;omega)) λf h=>am ac 2 h rfl λf h=>cy h rfl (ck h (hR.keep s.ext) aS2 rfl rfl λf h=>cy h rfl (jK ac h rfl (aH2 (by have:=aG9 g1;omega)) λf h=>am ac 4 h rfl λf h=>cy h rfl (ag (ae (aJ.of_own s 0 rfl) 0 (cp _)) h bJ rfl rfl λf h=>cy h rfl (dF h s D7 (oQ l vh m.1 _ (hR.keep s.ext) hln) rfl rfl λf w1 h s=>e9 ac 2 h rfl λf h=>aL3 (av rfl h s rfl (by show _=_;rw [Uu hno g0 g1]))))))
  ·refine dJ 10 h (by kernel_rfl) (ay ac 1 h rfl λf h=>aF h (jk (hR.keep s.ext) aS2 (h.ev rfl)) rfl λf h=>nD ac h rfl (aH2 (by have:=aG9 h1;omega)) λf h=>ay ac 2 h rfl λf h=>bL h rfl ?_)
   have h19:=aG9 h1
   refine aF h (bj (hR.keep s.ext) (0) aS2 dX (h.ev rfl) (h.ev rfl) (by omega) (by omega)) rfl λf h=>bL h rfl (bh ((hR.keep s.ext).el (0) (by omega) (by decide) (D:=ar (l.getD 0 bH)) (eM l 0 (by omega))) h aQ rfl (aj _) rfl λf h=>bL h rfl (aT 0 h s aQ rfl rfl (aj _) rfl λf h=>bL h rfl (aF h (bz (.bool true) (ec (x6 _ _) (by kernel_rfl) (by decide) (h.ev rfl) (h.ev rfl) (decide (l.getD 0 bH=m)) (lg _ _)) (aH3 Value.bool h2)) rfl λf h=>ay ac 1 h rfl λf h=>bY s λw1 s=>iY h rfl (bE ac 1 h rfl λf h=>rt (av rfl h s rfl (by show _=_;rw [YJ h1 h2]))))))
theorem Kq (l:List Mb) (vh:Value) (no:Int) (w:World) (hR:bs w vh 33 l.length (aq l)) (hln:l.length<=1000):Calls Tryz.prog 133 [vh,.int .i64 no].toArray w (cb w (is (.bool (Ar l no)))):=by
 refine bK Tryz.func133 rfl Tryz.ntmps133 rfl λf h s=>bE ac 1 h rfl λf h=>ah ?_
 cases g0:(decide (l.length<=16):Bool)
 ·refine rs ac 1 h rfl λf h=>ck h (hR.keep s.ext) aS2 rfl rfl λf h=>lj ac h rfl (aH1 (by have:=aH0 g0;omega)) λf h=>e9 ac 6 h rfl λf h=>aL3 (av rfl h s rfl (by show _=_;rw [ab9 g0]))
 ·refine rs ac 1 h rfl λf h=>ck h (hR.keep s.ext) aS2 rfl rfl λf h=>jK ac h rfl (aH2 (by have:=aG9 g0;omega)) λf h=>am ac 3 h rfl λf h=>cy h rfl (dF h s D7 (oQ l vh no _ (hR.keep s.ext) hln) rfl rfl λf w1 h s=>e9 ac 2 h rfl λf h=>aL3 (av rfl h s rfl (by show _=_;rw [Yz g0])))
theorem ld (n:Nd) (vs vf:Value) (w:World) (hRs:bs w vs 33 n.sc.length (aq n.sc)) (hRf:bs w vf 33 n.fg.length (aq n.fg)) (hns:n.sc.length<=1000) (hnf:n.fg.length<=1000):Calls Tryz.prog 79 [.agg (bu n.me n.pr vs vf)].toArray w (cb w (is (.bool (ex n)))):=by
 refine bK Tryz.func79 rfl Tryz.ntmps79 rfl λf h s=>qr (aV (bu n.me n.pr vs vf) h s rfl rfl rfl λf w1 b1 h s=>e9 ac 1 h rfl λf h=>ah ?_)
 refine rs ac 1 h rfl λf h=>ap (aJ.subL (aJ.of_own s 0 rfl) 0 33 (D:=ar n.me) (dE _ _ _ _)) h aQ rfl (aj _) rfl λf h=>fh h s qp (kI n.me _) rfl rfl (λh0 f w1 h s=>?_) (λh0 f w1 h s=>?_)
 ·refine e9 ac 24 h rfl λf h=>aL3 (av rfl h s rfl (by show _=_;rw [SA h0]))
 ·skip
  refine am ac 2 h rfl λf h=>cy h rfl (ap (aJ.subL (aJ.of_own s 0 rfl) 33 33 (D:=ar n.pr) (di _ _ _ _)) h aQ rfl (aj _) rfl λf h=>am ac 2 h rfl λf h=>cy h rfl (ag (ae (aJ.of_own s 0 rfl) 0 (mz _ _ _ _)) h bJ rfl rfl λf h=>cy h rfl (fh h s Xv (Ps n.pr n.me.1 _) rfl rfl (λh1 f w1 h s=>?_) (λh1 f w1 h s=>?_))))
  ·refine e9 ac 17 h rfl λf h=>aL3 (av rfl h s rfl (by show _=_;rw [P2 h1]))
  ·skip
   refine am ac 3 h rfl λf h=>cy h rfl (ag (V:=vs) (ae (aJ.of_own s 0 rfl) 66 (gn _ _ _ _)) h dS rfl rfl λf h=>am ac 1 h rfl λf h=>cy h rfl (ap (aJ.subL (aJ.of_own s 0 rfl) 0 33 (D:=ar n.me) (dE _ _ _ _)) h aQ rfl (aj _) rfl λf h=>cy h rfl (fh h s XP (Qy n.sc vs n.me _ (hRs.keep s.ext) hns) rfl rfl (λh2 f w1 h s=>?_) (λh2 f w1 h s=>?_))))
   ·refine e9 ac 10 h rfl λf h=>aL3 (av rfl h s rfl (by show _=_;rw [QH h2]))
   ·refine am ac 3 h rfl λf h=>cy h rfl (ag (V:=vf) (ae (aJ.of_own s 0 rfl) 67 (kv _ _ _ _)) h dS rfl rfl λf h=>am ac 2 h rfl λf h=>cy h rfl (ag (ae (aJ.of_own s 0 rfl) 0 (mz _ _ _ _)) h bJ rfl rfl λf h=>cy h rfl (dF h s VU (Kq n.fg vf n.me.1 _ (hRf.keep s.ext) hnf) rfl rfl λf w1 h s=>e9 ac 2 h rfl λf h=>aL3 (av rfl h s rfl (by show _=_;rw [PD h0 h1 h2])))))
theorem Ev (n:Nd) (vs vf:Value) (w:World) (hRs:bs w vs 33 n.sc.length (aq n.sc)) (hRf:bs w vf 33 n.fg.length (aq n.fg)) (hns:n.sc.length<=1000) (hnf:n.fg.length<=1000):Calls Tryz.prog 271 [.agg (bu n.me n.pr vs vf)].toArray w (cb w (YL w 60 n)):=by
 refine bK Tryz.func271 rfl Tryz.ntmps271 rfl λf h s=>qr (aV (bu n.me n.pr vs vf) h s rfl rfl rfl λf w1 b1 h s=>aK (bu bH bH ax ax) h s kJ rfl rfl λf w1 b2 h s=>nt (bU ac 1 h rfl λf h=>ag (V:=vs) (ae (aJ.of_own s 1 rfl) 66 (gn _ _ _ _)) h dS rfl rfl λf h=>aY h s wW (ir n.sc hns vs _ (hRs.keep s.ext)) rfl rfl ?_));intro f w1 v5 hT hE h sq;replace s:=s.sl_new hE hT
 refine am ac 1 h rfl λf h=>aM 2 h s dS rfl rfl rfl (by rw [aP];omega) (bk (s.getSl 0 rfl)) λw1 s=>?_
 replace s:=s.recell (D:=bu n.me n.pr v5 vf) 2 rfl (tR _ _ _ _ _)
 refine nt (bU ac 1 h rfl λf h=>ag (V:=vf) (ae (aJ.of_own s 2 rfl) 67 (kv _ _ _ _)) h dS rfl rfl λf h=>aY h s wW (ir n.fg hnf vf _ (hRf.keep s.ext)) rfl rfl ?_);intro f w1 v9 hT hE h sq;replace s:=s.sl_new hE hT
 refine am ac 1 h rfl λf h=>aM 3 h s dS rfl rfl rfl (by rw [aP];omega) (bk (s.getSl 0 rfl)) λw1 s=>?_
 replace s:=s.recell (D:=bu n.me n.pr v5 v9) 3 rfl (sX _ _ _ _ _)
 refine nt (qr (ak 3 h s dl rfl rfl (aP _ _ _ _) rfl λf h=>al 2 h s dl rfl rfl rfl (aP _ _ _ _) (aP _ _ _ _) (cI (bk (s.getSl 1 rfl)) (bk (s.getSl 0 rfl))) λw1 s=>nt (aL3 (lH 2 rfl h s dl rfl rfl (aP _ _ _ _) (VF rfl (s.sel [1,0] rfl (by decide)))))))
theorem mG (x:Mb) (nos:List Int) (vn:Value) (bx:Nat) (w:World) (hb:gq w bx #[vn]) (hN:bs w vn 1 nos.length (nos.map (Value.int .i64))) (hnn:nos.length<=1000):Calls Tryz.prog 269 [.agg (ar x),.pointer (some ⟨bx,0,none⟩)].toArray w (cb w (is (.bool (gm nos x)))):=by
 refine bK Tryz.func269 rfl Tryz.ntmps269 rfl λf h s=>qr (aV ((ar x)) h s rfl rfl rfl λf w1 b2 h s=>e9 ac 1 h rfl λf h=>qr (ag (V:=vn) (ae (aJ.of_tab (hb.keep s.ext)) 0 (rfl)) h XS rfl rfl λf h=>am ac 1 h rfl λf h=>ag (ae (aJ.of_own s 0 rfl) 0 (cp _)) h bJ rfl rfl λf h=>dF h s Wl (GW nos vn x.1 _ (hN.keep s.ext) hnn) rfl rfl λf w1 h s=>e9 ac 1 h rfl λf h=>aL3 (av rfl h s rfl (rfl))))
set_option maxHeartbeats 1000000 in
theorem HV (n:Nd) (vs vf:Value) (nos:List Int) (vn:Value) (w:World) (hRs:bs w vs 33 n.sc.length (aq n.sc)) (hRf:bs w vf 33 n.fg.length (aq n.fg)) (hns:n.sc.length<=1000) (hnf:n.fg.length<=1000) (hN:bs w vn 1 nos.length (nos.map (Value.int .i64))) (hnn:nos.length<=1000):Calls Tryz.prog 214 [.agg (bu n.me n.pr vs vf),vn].toArray w (cb w (NQ w 60 (Yn n nos) (Yv n))):=by
 refine bK Tryz.func214 rfl Tryz.ntmps214 rfl λf h s=>qr (aV (bu n.me n.pr vs vf) h s rfl rfl rfl λf w1 b2 h s=>aV (#[vn]) h s rfl (UD (hN.keep s.ext)) rfl λf w1 b3 h s=>aK (bu bH bH ax ax) h s kJ rfl rfl λf w1 b4 h s=>e9 ac 1 h rfl λf h=>ah (ah ?_))
 refine aw (ak 2 h s dl rfl rfl (aP _ _ _ _) rfl λf h=>fh h s EV (ld n vs vf _ (hRs.keep s.ext) (hRf.keep s.ext) hns hnf) rfl rfl (λhr f w1 h s=>?_) (λhr f w1 h s=>?_))
 ·refine e9 ac 1 h rfl λf h=>dG h rfl (qr (ai h (pa Xy) rfl λf h=>al 0 h s dl rfl rfl rfl (aP _ _ _ _) (aP _ _ _ _) (cI (rfl) (rfl)) λw1 s=>e9 ac 1 h rfl λf h=>rt (cc 0 rfl h s dl rfl rfl (aP _ _ _ _) rfl (Jf s (Uk nos hr).1 (Uk nos hr).2))))
 ·refine e9 ac 1 h rfl λf h=>nH h rfl (qr ?_)
  have hrt:=hr
  refine ai h (cO [.pointer (some ⟨b3,0,none⟩)] (ke h rfl)) rfl λf h=>e9 ac 1 h rfl λf h=>qr (ak 2 h s dl rfl rfl (aP _ _ _ _) rfl λf h=>aY h s WE (Ev n vs vf _ (hRs.keep s.ext) (hRf.keep s.ext) hns hnf) rfl rfl ?_);rintro f w1 v13 ⟨us,uf,rfl,hS⟩ hE h sq;replace s:=s.add hS
  refine al 4 h s dl rfl rfl rfl (aP _ _ _ _) (aP _ _ _ _) (cI (bk (s.getSl 0 rfl)) (bk (s.getSl 1 rfl))) λw1 s=>nt (ah (fC 1 7 [[],[0],[],[0,1,2],[],[4],[0,1,2,3,4,5],[0,1,2,3,4,5,6],[0,1,2,3,4,5,6,7]] [[],[],[],[9],[],[],[3],[],[]] [[_]] [.v _,.v us,.v (.func (.func 269) #[] #[.pointer (some ⟨b3,0,none⟩)]),.m (λv=>[.sl (v 3) 60 33 (n.sc.filter λx => !(gm nos) x).length (aq (n.sc.filter λx => !(gm nos) x))]),.v _,.v (.agg (ar n.me)),.m (λv=>[.sl (v 6) 60 33 (wC (n.sc.filter λx => !(gm nos) x) n.me).length (aq (wC (n.sc.filter λx => !(gm nos) x) n.me))]),.n,.n] _ h s rfl (by kernel_rfl) (by kernel_rfl) (by kernel_rfl) (gL ac h rfl rfl rfl (cm ?_ (cm ?_ (cm ?_ (gL ac h rfl rfl rfl (cm ?_ (cm ?_ (trivial)))))))) [0,1,2,4,5,6] (by kernel_rfl) ?_))
  ·intro f9 w2 vl5 E9 hs9 hd9 hl hF s
   have h:=cq [(14,_)] h hs9 hd9 ⟨a7 hl 14 0 (by kernel_rfl) (hF 0 (by decide)),trivial⟩
   refine ag (V:=us) (ae (aJ.of_own s 3 rfl) 66 (gn _ _ _ _)) h dS rfl rfl λf h=>az ⟨_,br 15 h rfl rfl,rfl,s⟩
  ·intro f9 w2 vl5 E9 hs9 hd9 hl hF s
   have h:=cq [(6,_)] h hs9 hd9 ⟨fu hl 6 (by kernel_rfl) (h.holds 6 _ rfl),trivial⟩
   refine am ac 1 h rfl λf h=>az ⟨_,br 16 h rfl rfl,rfl,s⟩
  ·intro f9 w2 vl5 E9 hs9 hd9 hl hF s
   have h:=cq [(15,_),(16,_)] h hs9 hd9 ⟨a7 hl 15 1 (by kernel_rfl) (hF 1 (by decide)),a7 hl 16 2 (by kernel_rfl) (hF 2 (by decide)),trivial⟩
   refine cM [us,.func (.func 269) #[] #[.pointer (some ⟨b3,0,none⟩)]] h OH (rl n.sc hns us 269 [.pointer (some ⟨b3,0,none⟩)] (gm nos) _ _ _ s ye (λA9 w9 s9 x hx=>mG x nos vn b3 w9 (gq.of_mem (u:=106) s9 (by simp)) (hN.keep s9.ext) hnn)) rfl rfl ?_;rintro f w1 v17 s h
   exact az ⟨_,br 17 h rfl rfl,trivial,s⟩
  ·intro f9 w2 vl5 E9 hs9 hd9 hl hF s
   have h:=cq [(18,_)] h hs9 hd9 ⟨a7 hl 18 4 (by kernel_rfl) (hF 4 (by decide)),trivial⟩
   refine ap (aJ.subL (aJ.of_own s 3 rfl) 0 33 (D:=ar n.me) (dE _ _ _ _)) h aQ rfl (aj _) rfl λf h=>az ⟨_,br 19 h rfl rfl,rfl,s⟩
  ·intro f9 w2 vl5 E9 hs9 hd9 hl hF s
   have h:=cq [(17,_),(19,_)] h hs9 hd9 ⟨ff hl 17 3 (by kernel_rfl) (by kernel_rfl),a7 hl 19 5 (by kernel_rfl) (hF 5 (by decide)),trivial⟩
   refine cM [(vl5 3),.agg (ar n.me)] h XC (B7 (n.sc.filter λx => !(gm nos) x) (vl5 3) n.me _ _ _ s) rfl rfl ?_;rintro f w1 v20 s h
   exact az ⟨_,br 20 h rfl rfl,trivial,s⟩
  intro f w1 vl5 hs9 hd9 hv hr hF s
  replace hv:=λi d h9=>hv i d (show Nat.blt i 7=true from h9)
  replace h:=ew 7 (ops:=_) [(14,_),(15,_),(16,_),(17,(vl5 3)),(18,_),(19,_),(20,(vl5 6))] h hs9 hd9 hr ⟨(hv 0 14 rfl rfl).trans (hF 0 rfl),(hv 1 15 rfl rfl).trans (hF 1 rfl),(hv 2 16 rfl rfl).trans (hF 2 rfl),hv 3 17 rfl rfl,(hv 4 18 rfl rfl).trans (hF 4 rfl),(hv 5 19 rfl rfl).trans (hF 5 rfl),hv 6 20 rfl rfl,trivial⟩ (by kernel_rfl)
  replace s:St w [.sl (vl5 6) 60 33 (wC (n.sc.filter λx => !(gm nos) x) n.me).length (aq (wC (n.sc.filter λx => !(gm nos) x) n.me)),.sl uf 60 33 n.fg.length (aq n.fg),.blk b4 (.cells (bu bH bH ax ax) 63),.blk b3 (.cells (#[vn]) 106),.blk b2 (.cells (bu n.me n.pr us uf) 63)] _:=s
  refine am ac 1 h rfl λf h=>aM 4 h s dS rfl rfl rfl (by rw [aP];omega) (bk (s.getSl 0 rfl)) λw1 s=>?_
  replace s:=s.recell (D:=bu n.me n.pr (vl5 6) uf) 4 rfl (tR _ _ _ _ _)
  refine nt (bU ac 1 h rfl λf h=>ag (V:=uf) (ae (aJ.of_own s 4 rfl) 67 (kv _ _ _ _)) h dS rfl rfl λf h=>am ac 1 h rfl λf h=>?_)
  replace s:=(s.sel [1,0,2,3,4] rfl (by decide))
  refine cM [uf,.func (.func 269) #[] #[.pointer (some ⟨b3,0,none⟩)]] h OH (rl n.fg hnf uf 269 [.pointer (some ⟨b3,0,none⟩)] (gm nos) _ _ _ s ye (λA9 w9 s9 x hx=>mG x nos vn b3 w9 (gq.of_mem (u:=106) s9 (by simp)) (hN.keep s9.ext) hnn)) rfl rfl ?_;rintro f w1 v25 s h
  refine am ac 1 h rfl λf h=>aM 4 h s dS rfl rfl rfl (by rw [aP];omega) (bk (s.getSl 0 rfl)) λw1 s=>?_
  replace s:=s.recell (D:=bu n.me n.pr (vl5 6) v25) 4 rfl (sX _ _ _ _ _)
  refine nt (ah (ah ?_))
  cases hgn:(gm nos n.pr:Bool)
  ·refine rs ac 2 h rfl λf h=>ap (aJ.subL (aJ.of_own s 4 rfl) 33 33 (D:=ar n.pr) (di _ _ _ _)) h aQ rfl (aj _) rfl λf h=>cJ [.agg (ar n.pr)] (caps:=[.pointer (some ⟨b3,0,none⟩)]) h s ye rfl (aR (.bool false) (mG n.pr nos vn b3 _ (gq.of_own s 3 rfl) (hN.keep s.ext) hnn) (aH3 Value.bool hgn)) rfl rfl ?_;intro f w1 v30 hT hE h s;obtain rfl:=hT
   refine gS h rfl (qr (ak 4 h s dl rfl rfl (aP _ _ _ _) rfl λf h=>al 2 h s dl rfl rfl rfl (aP _ _ _ _) (aP _ _ _ _) (cI (bk (s.getSl 1 rfl)) (bk (s.getSl 0 rfl))) λw1 s=>e9 ac 1 h rfl λf h=>aL3 (cc 2 rfl h s dl rfl rfl (aP _ _ _ _) rfl (Cv ((AK nos hrt).1.trans (by rw [Zh hgn];rfl)) (AK nos hrt).2 (s.sel [1,0] rfl (by decide))))))
  ·refine rs ac 2 h rfl λf h=>ap (aJ.subL (aJ.of_own s 4 rfl) 33 33 (D:=ar n.pr) (di _ _ _ _)) h aQ rfl (aj _) rfl λf h=>cJ [.agg (ar n.pr)] (caps:=[.pointer (some ⟨b3,0,none⟩)]) h s ye rfl (aR (.bool true) (mG n.pr nos vn b3 _ (gq.of_own s 3 rfl) (hN.keep s.ext) hnn) (aH3 Value.bool hgn)) rfl rfl ?_;intro f w1 v30 hT hE h s;obtain rfl:=hT
   refine iY h rfl (aw (dF h s uK (lX _) rfl rfl λf w1 h s=>am ac 1 h rfl λf h=>iP 4 h s aQ rfl rfl rfl (aj _) (by rw [aP];omega) (bD _) λw1 s=>?_))
   replace s:=s.recell (D:=bu n.me i1 (vl5 6) v25) 4 rfl (Gs _ _ _ _ _)
   refine nt (qr (ak 4 h s dl rfl rfl (aP _ _ _ _) rfl λf h=>al 2 h s dl rfl rfl rfl (aP _ _ _ _) (aP _ _ _ _) (cI (bk (s.getSl 1 rfl)) (bk (s.getSl 0 rfl))) λw1 s=>e9 ac 1 h rfl λf h=>aL3 (cc 2 rfl h s dl rfl rfl (aP _ _ _ _) rfl (Cv ((AK nos hrt).1.trans (by rw [ad7 hgn];rfl)) (AK nos hrt).2 (s.sel [1,0] rfl (by decide))))))
end Go.Proofs.YthmlflaiidhoiaaGreatDoor
