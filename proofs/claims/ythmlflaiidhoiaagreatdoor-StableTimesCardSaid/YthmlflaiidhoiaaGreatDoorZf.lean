/- Package stable and what it stands on, so far as it is wanted: what each function answers. -/
import Derived.Test.YthmlflaiidhoiaaGreatDoorCon
set_option linter.unusedVariables false
set_option linter.unusedSimpArgs false
set_option linter.unusedSectionVars false
namespace Go.Proofs.YthmlflaiidhoiaaGreatDoor
open Go.RowKit
set_option maxHeartbeats 1000000 in
theorem nJ (X:Wx) (vo vs vh vl:Value)  (w:World) (hX:RdW w vo vs vh vl X) (hbL:X.L.length<=maxLen) (hbS:X.S.length<=maxLen) (hbH:X.H.length<=maxLen):Calls Tryz.prog 5 [.agg (cY vo vs vh vl X.M.last X.M.now)].toArray w (bW w (is (.bool (zG (aM X))))):=by
 unfold maxLen at hbL hbS hbH
 refine bG Tryz.func5 rfl Tryz.ntmps5 rfl λf h s=>qr (ba (cY vo vs vh vl X.M.last X.M.now) h s rfl rfl rfl λf w1 b1 h s=>e9 ac 1 h rfl λf h=>ag (cw ac 1 h rfl λf h=>ai (V:=vs) (ah (aX.of_own s 0 rfl) 1 (wK _ _ _ _ _ _)) h mV rfl rfl λf h=>cb h (hX.sv.keep s.ext) aA2 rfl rfl λf h=>e9 ac 1 h rfl λf h=>au4 (au6 (λnn aa ww=>∃ k:Nat,Sl 88 aa [(0,.agg (cY vo vs vh vl X.M.last X.M.now)),(1,.pointer (some ⟨b1,0,none⟩)),(10,vs),(11,.int .i64 (X.S.length:Int)),(12,.int .i64 (k:Int))]/\St w [.blk b1 (.cells (cY vo vs vh vl X.M.last X.M.now) 31)] ww/\nn=X.S.length - k/\k<=X.S.length/\∀ j,j<k->BT (X.S.getD j dA).1=false) (X.S.length - (0)) ⟨0,h.only ⟨rfl,rfl,rfl,rfl,aw rfl (by omega),trivial⟩,s.as ⟨rfl,trivial⟩,rfl,as3 _,λj hj=>ax7 hj (av6 _)⟩ ?_)))
 rintro _ f w1 ⟨k,h,s,hnn,hp0,hp1⟩
 refine bD ac 1 h rfl λf h=>ag (cZ h rfl (λhc=>?_) (λhc=>?_))
 ·refine kt (ag (au4 (qr ?_)))
  have hkl:k<X.S.length:=by omega
  refine ak h (bj (hX.sv.keep s.ext) (k) aA2 zu (h.ev rfl) (h.ev rfl) (by omega) (by omega)) rfl λf h=>ax ((hX.sv.keep s.ext).el (k) (by omega) (by decide) (D:=gx (X.S.getD k dA).1.no (X.S.getD k dA).1.sec (X.S.getD k dA).2) (JB _ k hkl)) h oV rfl (dm _ _ _) rfl λf h=>aK (gx 0 ByteArray.empty aq) h s Cp rfl rfl λf w1 b4 h s=>am 0 h s oV rfl rfl rfl (dm _ _ _) (dm _ _ _) (nX _ _ (bJ ((hX.sw _ (fO hkl)).keep s.ext))) λw1 s=>nt (ag ?_)
  refine rs ac 1 h rfl λf h=>ai (V:=(X.S.getD k dA).2) (ah (aX.of_own s 0 rfl) 2 (VM _ _ _)) h iu rfl rfl λf h=>cb h ((hX.sw _ (fO hkl)).keep s.ext) aA5 rfl rfl λf h=>nq ac (BT (X.S.getD k dA).1) h rfl ((ar3.2 (by omega))) (λs0 f h=>?_) (λs0 f h=>?_)
  ·refine tS h rfl (wpIn_skip (aW (aG (aC (ak h (bB (h.ev rfl) (h.ev rfl) (by omega)) rfl λf h=>e9 ac 1 h rfl λf h=>?_)))))
   exact ⟨_,by omega,⟨k+1,h.only ⟨rfl,rfl,rfl,rfl,aw rfl (by omega),trivial⟩,St.as (s.pick _ (ar8 [_] _)) ⟨rfl,trivial⟩,rfl,by omega,gM hp1 (s0)⟩⟩
  ·refine iz h rfl (bD ac 1 h rfl λf h=>au3 (aY (aQ (aQ (aY (aQ (aA rfl h s rfl (by show _=_;rw [lS (Wi hkl s0)]))))))))
 ·refine au5 (aT (aT (bS (aG (ag (qr ?_))))))
  have hA:∀ j,j<X.S.length->BT (X.S.getD j dA).1=false:=λj hj=>hp1 j (by omega)
  refine ap ac 2 h rfl λf h=>ai (V:=vo) (ah (aX.of_own s 0 rfl) 0 (AJ _ _ _ _ _ _)) h iW rfl rfl λf h=>cb h (hX.ov.1.keep s.ext) aA1 rfl rfl λf h=>e9 ac 1 h rfl λf h=>au4 (au6 (λnn aa ww=>∃ k:Nat,Sl 88 aa [(0,.agg (cY vo vs vh vl X.M.last X.M.now)),(1,.pointer (some ⟨b1,0,none⟩)),(23,vo),(24,.int .i64 (X.L.length:Int)),(25,.int .i64 (k:Int))]/\St w [.blk b1 (.cells (cY vo vs vh vl X.M.last X.M.now) 31)] ww/\nn=X.L.length - k/\k<=X.L.length/\∀ j,j<k->yl (X.L.getD j z3).1=false) (X.L.length - (0)) ⟨0,h.only ⟨rfl,rfl,rfl,rfl,aw rfl (by omega),trivial⟩,s.as ⟨rfl,trivial⟩,rfl,as3 _,λj hj=>ax7 hj (av6 _)⟩ ?_)
  rintro _ f w1 ⟨k,h,s,hnn,hp0,hp1⟩
  refine bD ac 1 h rfl λf h=>ag (cZ h rfl (λhc=>?_) (λhc=>?_))
  ·refine kt (ag (au4 (qr ?_)))
   have hkl:k<X.L.length:=by omega
   refine ak h (bj (hX.ov.1.keep s.ext) (k) aA1 uO (h.ev rfl) (h.ev rfl) (by omega) (by omega)) rfl λf h=>ax ((hX.ov.1.keep s.ext).el (k) (by omega) (by decide) (D:=aR (X.L.getD k z3).1.me (X.L.getD k z3).1.pr (X.L.getD k z3).2.1 (X.L.getD k z3).2.2) (eZ _ k hkl)) h bI rfl (ao _ _ _ _) rfl λf h=>aK (aR aS aS aq aq) h s pK rfl rfl λf w1 b6 h s=>am 0 h s bI rfl rfl rfl (ao _ _ _ _) (ao _ _ _ _) (bL (bJ ((hX.ov.2 _ (bE hkl)).1.keep s.ext)) (bJ ((hX.ov.2 _ (bE hkl)).2.keep s.ext))) λw1 s=>nt (ag ?_)
   refine rs ac 1 h rfl λf h=>ai (V:=(X.L.getD k z3).2.1) (ah (aX.of_own s 0 rfl) 66 (iQ _ _ _ _)) h ci rfl rfl λf h=>cb h ((hX.ov.2 _ (bE hkl)).1.keep s.ext) aA6 rfl rfl λf h=>nq ac (decide (6<(X.L.getD k z3).1.sc.length)) h rfl ((ar3.2 (by omega))) (λq0 f h=>?_) (λq0 f h=>?_)
   ·skip
    refine ap ac 2 h rfl λf h=>cg h rfl (ai (V:=(X.L.getD k z3).2.2) (ah (aX.of_own s 0 rfl) 67 (jP _ _ _ _)) h ci rfl rfl λf h=>cg h rfl (cb h ((hX.ov.2 _ (bE hkl)).2.keep s.ext) aA6 rfl rfl λf h=>cg h rfl (nq ac (decide (18<(X.L.getD k z3).1.fg.length)) h rfl ((ar3.2 (by omega))) (λq1 f h=>?_) (λq1 f h=>?_))))
    ·refine e9 ac 1 h rfl λf h=>mx h rfl (wpIn_skip (aW (aG (aC (ak h (bB (h.ev rfl) (h.ev rfl) (by omega)) rfl λf h=>e9 ac 1 h rfl λf h=>?_)))))
     exact ⟨_,by omega,⟨k+1,h.only ⟨rfl,rfl,rfl,rfl,aw rfl (by omega),trivial⟩,St.as (s.pick _ (ar8 [_] _)) ⟨rfl,trivial⟩,rfl,by omega,gM hp1 (by unfold yl;rw [q0,q1];rfl)⟩⟩
    ·refine e9 ac 1 h rfl λf h=>dF h rfl (bD ac 1 h rfl λf h=>au3 (aY (aQ (aQ (aY (aQ (aA rfl h s rfl (by show _=_;rw [lS (RV hkl (by unfold yl;rw [q0,q1]<;>rfl))]))))))))
   ·refine e9 ac 6 h rfl λf h=>dF h rfl (bD ac 1 h rfl λf h=>au3 (aY (aQ (aQ (aY (aQ (aA rfl h s rfl (by show _=_;rw [lS (RV hkl (by unfold yl;rw [q0]<;>rfl))]))))))))
  ·refine au5 (aT (aT (bS (aG (ag (qr ?_))))))
   have hA2:∀ j,j<X.L.length->yl (X.L.getD j z3).1=false:=λj hj=>hp1 j (by omega)
   refine ap ac 1 h rfl λf h=>ai (V:=vh) (ah (aX.of_own s 0 rfl) 2 (F9 _ _ _ _ _ _)) h rV rfl rfl λf h=>cb h (hX.ho.keep s.ext) aA3 rfl rfl λf h=>e9 ac 1 h rfl λf h=>au4 (au6 (λnn aa ww=>∃ k:Nat,Sl 88 aa [(0,.agg (cY vo vs vh vl X.M.last X.M.now)),(1,.pointer (some ⟨b1,0,none⟩)),(41,vh),(42,.int .i64 (X.H.length:Int)),(43,.int .i64 (k:Int))]/\St w [.blk b1 (.cells (cY vo vs vh vl X.M.last X.M.now) 31)] ww/\nn=X.H.length - k/\k<=X.H.length/\∀ j,j<k->wm (X.H.getD j dy).1=false) (X.H.length - (0)) ⟨0,h.only ⟨rfl,rfl,rfl,rfl,aw rfl (by omega),trivial⟩,s.as ⟨rfl,trivial⟩,rfl,as3 _,λj hj=>ax7 hj (av6 _)⟩ ?_)
   rintro _ f w1 ⟨k,h,s,hnn,hp0,hp1⟩
   refine bD ac 1 h rfl λf h=>ag (cZ h rfl (λhc=>?_) (λhc=>?_))
   ·refine kt (ag (au4 (qr ?_)))
    have hkl:k<X.H.length:=by omega
    refine ak h (bj (hX.ho.keep s.ext) (k) aA3 DS (h.ev rfl) (h.ev rfl) (by omega) (by omega)) rfl λf h=>ax ((hX.ho.keep s.ext).el (k) (by omega) (by decide) (D:=cB (X.H.getD k dy).1.no (X.H.getD k dy).1.gt (X.H.getD k dy).2.1 (X.H.getD k dy).2.2.1 (X.H.getD k dy).2.2.2) (LA _ k hkl)) h tH rfl (ct _ _ _ _ _) rfl λf h=>aK (cB 0 0 aq aq aq) h s HA rfl rfl λf w1 b8 h s=>am 0 h s tH rfl rfl rfl (ct _ _ _ _ _) (ct _ _ _ _ _) (kB _ _ (bJ ((hX.hw _ (d8 hkl)).1.keep s.ext)) (bJ ((hX.hw _ (d8 hkl)).2.1.keep s.ext)) (bJ ((hX.hw _ (d8 hkl)).2.2.keep s.ext))) λw1 s=>nt (ag ?_)
    refine rs ac 1 h rfl λf h=>ai (V:=(X.H.getD k dy).2.1) (ah (aX.of_own s 0 rfl) 2 (N9 _ _ _ _ _)) h Eo rfl rfl λf h=>cb h ((hX.hw _ (d8 hkl)).1.keep s.ext) aA7 rfl rfl λf h=>nq ac (decide (10<(X.H.getD k dy).1.ws.length)) h rfl ((ar3.2 (by omega))) (λp0 f h=>?_) (λp0 f h=>?_)
    ·skip
     refine ap ac 2 h rfl λf h=>cg h rfl (ai (V:=(X.H.getD k dy).2.2.1) (ah (aX.of_own s 0 rfl) 3 (Od _ _ _ _ _)) h EL rfl rfl λf h=>cg h rfl (cb h ((hX.hw _ (d8 hkl)).2.1.keep s.ext) aA8 rfl rfl λf h=>cg h rfl (nq ac (decide (10<(X.H.getD k dy).1.hs.length)) h rfl ((ar3.2 (by omega))) (λp1 f h=>?_) (λp1 f h=>?_))))
     ·skip
      refine ap ac 3 h rfl λf h=>cg h rfl (ai (V:=(X.H.getD k dy).2.2.2) (ah (aX.of_own s 0 rfl) 4 (OB _ _ _ _ _)) h uQ rfl rfl λf h=>cg h rfl (cb h ((hX.hw _ (d8 hkl)).2.2.keep s.ext) aA9 rfl rfl λf h=>cg h rfl (nq ac (decide (34<(X.H.getD k dy).1.bx.length)) h rfl ((ar3.2 (by omega))) (λp2 f h=>?_) (λp2 f h=>?_))))
      ·refine e9 ac 1 h rfl λf h=>mx h rfl (wpIn_skip (aW (aG (aC (ak h (bB (h.ev rfl) (h.ev rfl) (by omega)) rfl λf h=>e9 ac 1 h rfl λf h=>?_)))))
       exact ⟨_,by omega,⟨k+1,h.only ⟨rfl,rfl,rfl,rfl,aw rfl (by omega),trivial⟩,St.as (s.pick _ (ar8 [_] _)) ⟨rfl,trivial⟩,rfl,by omega,gM hp1 (by unfold wm;rw [p0,p1,p2];rfl)⟩⟩
      ·refine e9 ac 1 h rfl λf h=>dF h rfl (bD ac 1 h rfl λf h=>au3 (aY (aQ (aQ (aY (aQ (aA rfl h s rfl (by show _=_;rw [lS (Ii hkl (by unfold wm;rw [p0,p1,p2]<;>rfl))]))))))))
     ·refine e9 ac 7 h rfl λf h=>dF h rfl (bD ac 1 h rfl λf h=>au3 (aY (aQ (aQ (aY (aQ (aA rfl h s rfl (by show _=_;rw [lS (Ii hkl (by unfold wm;rw [p0,p1]<;>rfl))]))))))))
    ·refine e9 ac 12 h rfl λf h=>dF h rfl (bD ac 1 h rfl λf h=>au3 (aY (aQ (aQ (aY (aQ (aA rfl h s rfl (by show _=_;rw [lS (Ii hkl (by unfold wm;rw [p0]<;>rfl))]))))))))
   ·refine au5 (aT (aT (bS (aG (ag ?_)))))
    refine rs ac 1 h rfl λf h=>ai (V:=vs) (ah (aX.of_own s 0 rfl) 1 (wK _ _ _ _ _ _)) h mV rfl rfl λf h=>cb h (hX.sv.keep s.ext) aA2 rfl rfl λf h=>nq ac (decide (8<X.S.length)) h rfl ((ar3.2 (by omega))) (λe0 f h=>?_) (λe0 f h=>?_)
    ·skip
     refine ap ac 3 h rfl λf h=>cg h rfl (ai (V:=vo) (ah (aX.of_own s 0 rfl) 0 (AJ _ _ _ _ _ _)) h iW rfl rfl λf h=>cg h rfl (cb h (hX.ov.1.keep s.ext) aA1 rfl rfl λf h=>cg h rfl (nq ac (decide (8<X.L.length)) h rfl ((ar3.2 (by omega))) (λe1 f h=>?_) (λe1 f h=>?_))))
     ·skip
      refine ap ac 3 h rfl λf h=>cg h rfl (ai (V:=vh) (ah (aX.of_own s 0 rfl) 2 (F9 _ _ _ _ _ _)) h rV rfl rfl λf h=>cg h rfl (cb h (hX.ho.keep s.ext) aA3 rfl rfl λf h=>cg h rfl (nq ac (decide (8<X.H.length)) h rfl ((ar3.2 (by omega))) (λe2 f h=>?_) (λe2 f h=>?_))))
      ·skip
       refine ap ac 4 h rfl λf h=>cg h rfl (ai (V:=vl) (ah (aX.of_own s 0 rfl) 3 (NS _ _ _ _ _ _)) h mO rfl rfl λf h=>cg h rfl (cb h (hX.ml.keep s.ext) aA4 rfl rfl λf h=>cg h rfl (nq ac (decide (66<X.M.l.length)) h rfl ((ar3.2 (by omega))) (λe3 f h=>?_) (λe3 f h=>?_))))
       ·refine e9 ac 2 h rfl λf h=>au3 (aA rfl h s rfl (by show _=_;rw [r6 hA hA2 (λj hj=>hp1 j (by omega)),e0,e1,e2,e3];rfl))
       ·refine e9 ac 2 h rfl λf h=>au3 (aA rfl h s rfl (by show _=_;rw [r6 hA hA2 (λj hj=>hp1 j (by omega)),e0,e1,e2,e3];rfl))
      ·refine e9 ac 9 h rfl λf h=>au3 (aA rfl h s rfl (by show _=_;rw [r6 hA hA2 (λj hj=>hp1 j (by omega)),e0,e1,e2];rfl))
     ·refine e9 ac 15 h rfl λf h=>au3 (aA rfl h s rfl (by show _=_;rw [r6 hA hA2 (λj hj=>hp1 j (by omega)),e0,e1];rfl))
    ·refine e9 ac 21 h rfl λf h=>au3 (aA rfl h s rfl (by show _=_;rw [r6 hA hA2 (λj hj=>hp1 j (by omega)),e0];rfl))
theorem Ea (X:Wx) (vo vs vh vl:Value) (wr:World) (hX:RdW wr vo vs vh vl X) (B9:List Own) (w0 w:World) (s:St w0 B9 w):Calls Tryz.prog 19 [.agg (cY vo vs vh vl X.M.last X.M.now)].toArray w (λe w9=>∃ r,e=.returned r/\∃ bn,r=.func (.func 36) #[] #[.pointer (some ⟨bn,0,none⟩)]/\St w0 (.blk bn (.cells (cY vo vs vh vl X.M.last X.M.now) 31)::B9) w9):=by
 refine da Tryz.func19 rfl Tryz.ntmps19 rfl [(0,.agg (cY vo vs vh vl X.M.last X.M.now))] (by simp) λf h=>?_
 refine qr (ba (cY vo vs vh vl X.M.last X.M.now) h s rfl rfl rfl λf w1 b1 h s=>e9 ac 1 h rfl λf h=>qr (ak h (de [.pointer (some ⟨b1,0,none⟩)] (lL h rfl)) rfl λf h=>e9 ac 1 h rfl λf h=>au3 (gB rfl h rfl (⟨_,rfl,b1,rfl,s⟩))))
set_option maxHeartbeats 1000000 in
theorem tv (X:Wx) (vo vs vh vl:Value) (lp bx:Nat) (q:Nat->Bool) (GG:Nat->Own->Prop) (g0:Own) (w0 w:World) (s:St w0 [.blk bx (.cells (cY vo vs vh vl X.M.last X.M.now) 31),g0] w) (hg0:GG 0 g0) (hX:RdW w0 vo vs vh vl X) (hb:BdW (aM X)) (hY:∀ (d:Nat) (B9:List Own) (w9:World) (i:Nat) (g:Own),d<(mz (aM X)).length->(∀ j,j<d->q j=false)->GG d g->St w0 B9 w9->B9[i]? = some g->i6 Tryz.prog lp [Value.int .i64 (jF (aM X) d).1,.agg (aV (jF (aM X) d).2)].toArray w9 (λv w2=>v=.bool (!q d)/\∃ g',GG (d+1) g'/\St w0 (B9.set i g') w2)):Calls Tryz.prog 36 [.func (.yield lp) #[] #[],.pointer (some ⟨bx,0,none⟩)].toArray w (λe w9=>(∃ v,e=.returned v)/\∃ d g,GG d g/\St w0 ([.blk bx (.cells (cY vo vs vh vl X.M.last X.M.now) 31)]++[g]) w9/\d<=(mz (aM X)).length/\(∀ j,j+1<d->q j=false)/\(lq q d=false->d=(mz (aM X)).length)):=by
 have hbS:=hb.sx
 refine da Tryz.func36 rfl Tryz.ntmps36 rfl [(0,.func (.yield lp) #[] #[]),(1,.pointer (some ⟨bx,0,none⟩))] (by simp) λf h=>?_
 refine cw ac 1 h rfl λf h=>ai (V:=vs) (ah (aX.of_own s 0 rfl) 1 (wK _ _ _ _ _ _)) h mV rfl rfl λf h=>cb h (hX.sv.keep s.ext) aA2 rfl rfl λf h=>e9 ac 1 h rfl λf h=>au4 (au6 (λnn aa ww=>∃ k:Nat,∃ gg:Own,Sl 37 aa [(0,.func (.yield lp) #[] #[]),(1,.pointer (some ⟨bx,0,none⟩)),(8,vs),(9,.int .i64 (X.S.length:Int)),(10,.int .i64 (k:Int))]/\St w0 [.blk bx (.cells (cY vo vs vh vl X.M.last X.M.now) 31),(gg)] ww/\nn=X.S.length - k/\k<=X.S.length/\GG (kQ (aM X) k 0) gg/\∀ j,j<kQ (aM X) k 0->q j=false) (X.S.length - (0)) ⟨0,g0,h.only ⟨rfl,rfl,rfl,rfl,aw rfl (by omega),trivial⟩,s.as ⟨rfl,rfl,trivial⟩,rfl,as3 _,by rw [Xl];exact hg0,λj hj=>ax7 hj (av6 _)⟩ ?_)
 rintro _ f w1 ⟨k,gg,h,s,hnn,hp0,hp1,hp2⟩
 refine bD ac 1 h rfl λf h=>ag (cZ h rfl (λhc=>?_) (λhc=>?_))
 ·refine kt (ag (au4 (qr ?_)))
  have hkl:k<X.S.length:=by omega
  have htb:=hb.se hkl
  refine ak h (bj (hX.sv.keep s.ext) (k) aA2 zu (h.ev rfl) (h.ev rfl) (by omega) (by omega)) rfl λf h=>ax ((hX.sv.keep s.ext).el (k) (by omega) (by decide) (D:=gx (X.S.getD k dA).1.no (X.S.getD k dA).1.sec (X.S.getD k dA).2) (JB _ k hkl)) h oV rfl (dm _ _ _) rfl λf h=>aK (gx 0 ByteArray.empty aq) h s Cp rfl rfl λf w1 b4 h s=>am 0 h s oV rfl rfl rfl (dm _ _ _) (dm _ _ _) (nX _ _ (bJ ((hX.sw _ (fO hkl)).keep s.ext))) λw1 s=>nt (cw ac 1 h rfl λf h=>ai (V:=(X.S.getD k dA).2) (ah (aX.of_own s 0 rfl) 2 (VM _ _ _)) h iu rfl rfl λf h=>cb h ((hX.sw _ (fO hkl)).keep s.ext) aA5 rfl rfl λf h=>e9 ac 1 h rfl λf h=>au4 (au6 (λnn aa ww=>∃ j:Nat,∃ ge:Own,Sl 37 aa [(0,.func (.yield lp) #[] #[]),(1,.pointer (some ⟨bx,0,none⟩)),(4,.pointer (some ⟨b4,0,none⟩)),(8,vs),(9,.int .i64 (X.S.length:Int)),(10,.int .i64 (k:Int)),(15,(X.S.getD k dA).2),(16,.int .i64 ((X.S.getD k dA).1.tb.length:Int)),(17,.int .i64 (j:Int))]/\St w0 [.blk b4 (.cells (gx (X.S.getD k dA).1.no (X.S.getD k dA).1.sec (X.S.getD k dA).2) 54),.blk bx (.cells (cY vo vs vh vl X.M.last X.M.now) 31),(ge)] ww/\nn=(X.S.getD k dA).1.tb.length - j/\j<=(X.S.getD k dA).1.tb.length/\GG (kQ (aM X) k j) ge/\∀ i,i<kQ (aM X) k j->q i=false) ((X.S.getD k dA).1.tb.length - (0)) ⟨0,gg,h.only ⟨rfl,rfl,rfl,rfl,rfl,rfl,rfl,rfl,aw rfl (by omega),trivial⟩,s.as ⟨rfl,rfl,rfl,trivial⟩,rfl,as3 _,hp1,hp2⟩ ?_))
  rintro _ f w1 ⟨j,ge,h,s,hnn,hp0,hp1,hp2⟩
  refine bD ac 1 h rfl λf h=>ag (cZ h rfl (λhc=>?_) (λhc=>?_))
  ·refine kt (ag (au4 (qr ?_)))
   have hjl:j<(X.S.getD k dA).1.tb.length:=by omega
   refine ak h (bj ((hX.sw _ (fO hkl)).keep s.ext) (j) aA5 ir (h.ev rfl) (h.ev rfl) (by omega) (by omega)) rfl λf h=>ax (((hX.sw _ (fO hkl)).keep s.ext).el (j) (by omega) (by decide) (D:=aV ((X.S.getD k dA).1.tb.getD j cr)) (iO _ j hjl)) h cO rfl (aN _) rfl λf h=>aK (aV cr) h s nz rfl rfl λf w1 b6 h s=>am 0 h s cO rfl rfl rfl (aN _) (aN _) (ft _) λw1 s=>nt (ag ?_)
   refine rs ac 1 h rfl λf h=>ai (ah (aX.of_own s 0 rfl) 66 (gd _)) h bQ rfl rfl λf h=>ap ac 2 h rfl λf h=>ai (V:=.int .i64 X.M.now) (ah (aX.of_own s 2 rfl) 5 (Yc _ _ _ _ _ _)) h bQ rfl rfl λf h=>kJ ac h rfl (λc0 f h=>?_) (λc0 f h=>?_)
   ·refine e9 ac 8 h rfl λf h=>mx h rfl (wpIn_skip (aW (aG (aC (ak h (bB (h.ev rfl) (h.ev rfl) (by omega)) rfl λf h=>e9 ac 1 h rfl λf h=>?_)))))
    exact ⟨_,by omega,⟨j+1,ge,h.only ⟨rfl,rfl,rfl,rfl,rfl,rfl,rfl,rfl,aw rfl (by omega),trivial⟩,St.as (s.pick _ (ar8 [_] _)) ⟨rfl,rfl,rfl,trivial⟩,rfl,by omega,by rw [YB hjl c0];exact hp1,by rw [YB hjl c0];exact hp2⟩⟩
   ·skip
    cases hq:(q (kQ (aM X) k j):Bool)
    ·refine ap ac 3 h rfl λf h=>cg h rfl (ai (V:=.int .i64 (X.S.getD k dA).1.no) (ah (aX.of_own s 1 rfl) 0 (F5 _ _ _)) h bQ rfl rfl λf h=>cg h rfl (al 0 h s cO rfl rfl (aN _) rfl λf h=>cg h rfl (eC (V:=.bool true) (G:=GG (kQ (aM X) k j+1)) [.int .i64 (X.S.getD k dA).1.no,.agg (aV ((X.S.getD k dA).1.tb.getD j cr))] 3 h rfl rfl (by have h9:=hY (kQ (aM X) k j) _ _ 3 ge (CH hkl hjl c0).1 hp2 hp1 s rfl;rw [hq,(CH hkl hjl c0).2.1] at h9;exact h9) rfl ?_)));intro f w1 g1 hg1 h s
     refine e9 ac 2 h rfl λf h=>mx h rfl (wpIn_skip (aW (aG (aC (ak h (bB (h.ev rfl) (h.ev rfl) (by omega)) rfl λf h=>e9 ac 1 h rfl λf h=>?_)))))
     exact ⟨_,by omega,⟨j+1,g1,h.only ⟨rfl,rfl,rfl,rfl,rfl,rfl,rfl,rfl,aw rfl (by omega),trivial⟩,St.as (s.pick _ (ar8 [_] _)) ⟨rfl,rfl,rfl,trivial⟩,rfl,by omega,by rw [(CH hkl hjl c0).2.2];exact hg1,by rw [(CH hkl hjl c0).2.2];exact eM hp2 hq⟩⟩
    ·refine ap ac 3 h rfl λf h=>cg h rfl (ai (V:=.int .i64 (X.S.getD k dA).1.no) (ah (aX.of_own s 1 rfl) 0 (F5 _ _ _)) h bQ rfl rfl λf h=>cg h rfl (al 0 h s cO rfl rfl (aN _) rfl λf h=>cg h rfl (eC (V:=.bool false) (G:=GG (kQ (aM X) k j+1)) [.int .i64 (X.S.getD k dA).1.no,.agg (aV ((X.S.getD k dA).1.tb.getD j cr))] 3 h rfl rfl (by have h9:=hY (kQ (aM X) k j) _ _ 3 ge (CH hkl hjl c0).1 hp2 hp1 s rfl;rw [hq,(CH hkl hjl c0).2.1] at h9;exact h9) rfl ?_)));intro f w1 g1 hg1 h s
     refine e9 ac 2 h rfl λf h=>dF h rfl (au3 (aY (aQ (aQ (aY (aY (aQ (aQ (aY ?_)))))))))
     exact jo rfl h (⟨⟨_,rfl⟩,kQ (aM X) k j+1,g1,hg1,(s.sel [2,3] rfl (by decide)),(CH hkl hjl c0).1,λj9 hj=>hp2 j9 (by omega),λh9=>ax7 (hq.symm.trans h9) (by decide)⟩)
  ·refine au5 (aT (aT (bS (aW (aG (aC ?_))))))
   have ejn:=af6 hkl hp0 (by omega)
   refine ak h (bB (h.ev rfl) (h.ev rfl) (by omega)) rfl λf h=>e9 ac 1 h rfl λf h=>?_
   exact ⟨_,by omega,⟨k+1,ge,h.only ⟨rfl,rfl,rfl,rfl,aw rfl (by omega),trivial⟩,St.as (s.pick _ (ar8 [_] _)) ⟨rfl,rfl,trivial⟩,rfl,by omega,by rw [← ejn];exact hp1,by rw [← ejn];exact hp2⟩⟩
 ·refine au5 (aT (aT (bS ?_)))
  exact dN rfl h (⟨⟨_,rfl⟩,kQ (aM X) k 0,gg,hp1,s,Nat.le_of_eq (Ih (by omega)),λj hj=>hp2 j (by omega),λ_=>Ih (by omega)⟩)
theorem NJ (B9:List Own) (w0 w:World) (s:St w0 B9 w):Calls Tryz.prog 40 [aq].toArray w (λe w9=>∃ r,e=.returned r/\∃ bn vr,r=.func (.func 90) #[] #[.pointer (some ⟨bn,0,none⟩)]/\St w0 (.sl vr 3 1 1 [.int .i64 0]::.blk bn (.cells #[vr] 106)::B9) w9):=by
 refine da Tryz.func40 rfl Tryz.ntmps40 rfl [(0,aq)] (by simp) λf h=>?_
 refine qr (ba (#[aq]) h s rfl rfl rfl λf w1 b1 h s=>e9 ac 1 h rfl λf h=>ag (qr (bT 0 h s nc rfl rfl (rfl) rfl λf h=>cb h (MS w0) aB1 rfl rfl λf h=>jy ac h rfl (aq2 (rfl)) λf h=>iz h rfl (aC (ef (vs:=[.int .i64 0]) [.const (.int .i64 (0))] h s aB1 Vu rfl rfl (by simp [Value.cells]) rfl rfl rfl λf w1 v6 h s=>aB 1 h s nc rfl rfl rfl (by simp) (aZ (s.getSl 0 rfl)) λw1 s=>nt (qr (ak h (de [.pointer (some ⟨b1,0,none⟩)] (lL h rfl)) rfl λf h=>e9 ac 1 h rfl λf h=>au3 (gB rfl h rfl (⟨_,rfl,b1,v6,rfl,s⟩)))))))))
theorem Ge (vr:Value) (lp bn:Nat) (q:Nat->Bool) (GG:Nat->Own->Prop) (g0:Own) (w0 w:World) (s:St w0 [.sl vr 3 1 1 [.int .i64 0],.blk bn (.cells #[vr] 106),g0] w) (hg0:GG 0 g0) (Y2:q 0=true) (hY:∀ (d:Nat) (B9:List Own) (w9:World) (i:Nat) (g:Own),d<1->(∀ j,j<d->q j=false)->GG d g->St w0 B9 w9->B9[i]? = some g->i6 Tryz.prog lp [Value.int .i64 0].toArray w9 (λv w2=>v=.bool (!q d)/\∃ g',GG (d+1) g'/\St w0 (B9.set i g') w2)):Calls Tryz.prog 90 [.func (.yield lp) #[] #[],.pointer (some ⟨bn,0,none⟩)].toArray w (λe w9=>(∃ v,e=.returned v)/\∃ d g,GG d g/\St w0 ([.sl vr 3 1 1 [.int .i64 0],.blk bn (.cells #[vr] 106)]++[g]) w9/\d<=1/\(∀ j,j+1<d->q j=false)/\(lq q d=false->d=1)):=by
 refine da Tryz.func90 rfl Tryz.ntmps90 rfl [(0,.func (.yield lp) #[] #[]),(1,.pointer (some ⟨bn,0,none⟩))] (by simp) λf h=>?_
 refine au4 (au6 (λnn aa ww=>∃ k:Nat,∃ gg:Own,Sl 16 aa [(0,.func (.yield lp) #[] #[]),(1,.pointer (some ⟨bn,0,none⟩))]/\St w0 [.sl vr 3 1 1 [.int .i64 0],.blk bn (.cells (#[vr]) 106),(gg)] ww/\nn=1 - k/\k=0/\GG 0 gg) (1 - (0)) ⟨0,g0,h.only ⟨rfl,rfl,trivial⟩,s.as ⟨rfl,rfl,rfl,trivial⟩,rfl,rfl,hg0⟩ ?_)
 rintro _ f w1 ⟨k,gg,h,s,hnn,hp0,hp1⟩
 refine au4 (qr (bT 1 h s nc rfl rfl (rfl) rfl λf h=>eF 0 h s aB1 rfl rfl rfl λf h=>e9 ac 1 h rfl λf h=>au4 (au6 (λnn aa ww=>∃ j:Nat,∃ ge:Own,Sl 16 aa [(0,.func (.yield lp) #[] #[]),(1,.pointer (some ⟨bn,0,none⟩)),(5,vr),(6,.int .i64 1),(7,.int .i64 (j:Int))]/\St w0 [.sl vr 3 1 1 [.int .i64 0],.blk bn (.cells (#[vr]) 106),(ge)] ww/\nn=1 - j/\j=0/\GG 0 ge) (1 - (0)) ⟨0,gg,h.only ⟨rfl,rfl,rfl,rfl,aw rfl (by omega),trivial⟩,s.as ⟨rfl,rfl,rfl,trivial⟩,rfl,rfl,hp1⟩ ?_)))
 rintro _ f w1 ⟨j,ge,h,s,hnn,hp0,hp1⟩
 refine bD ac 1 h rfl λf h=>ag (cT h rfl (λhc=>?_) (λhc=>?_))
 ·refine kt (ag (au4 (qr (ak h (bj (a7.of_own (s.getSl 0 rfl)) (j) aB1 W8 (h.ev rfl) (h.ev rfl) (by omega) (by omega)) rfl λf h=>ai ((a7.of_own (s.getSl 0 rfl)).el1 (j) (V:=.int .i64 0) (by rw [hp0];rfl)) h bQ rfl rfl λf h=>e9 ac 1 h rfl λf h=>cw ac 2 h rfl λf h=>eC (V:=.bool false) (G:=GG 1) [.int .i64 0] 2 h rfl rfl (by have h9:=hY 0 _ _ 2 ge (by decide) (λj9 hj=>ax7 hj (av6 _)) hp1 s rfl;rw [Y2] at h9;exact h9) rfl ?_))));intro f w1 g1 hg1 h s
  refine e9 ac 1 h rfl λf h=>dF h rfl (au3 (aY (aQ (aQ (aY (aY (aQ (aY ?_))))))))
  exact jo rfl h (⟨⟨_,rfl⟩,1,g1,hg1,(s.sel [0,1,2] rfl (by decide)),as1 _,λj9 hj=>ax7 hj (by omega),λh9=>ax7 (Y2.symm.trans h9) (by decide)⟩)
 ·replace hc:=aq0 hc
  omega
end Go.Proofs.YthmlflaiidhoiaaGreatDoor
