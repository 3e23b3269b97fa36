/- What ChordRounds answers: for all arguments. -/
import Derived.Test.YthggibfkgofncaaGreatVb
import Derived.Test.YthggibfkgofncaaGreatVk
import Derived.Test.YthggibfkgofncaaGreatWg
import Derived.Test.YthggibfkgofncaaGreatWh
set_option linter.unusedVariables false
set_option linter.unusedSimpArgs false
set_option linter.unusedSectionVars false
namespace Go.Proofs.YthggibfkgofncaaGreat
open Go.RowKit
set_option maxHeartbeats 4000000 in
theorem pm (L:List N3) (vo:Value) (w:World) (hO:cI w vo L):Calls Tryz.prog 6 [.agg #[vo]].toArray w (cO w (is (.bool true))):=by
 refine bh Tryz.func6 rfl Tryz.ntmps6 rfl [(0,.agg #[vo])] (by simp) fun f h=>?_
 have s:=St.start w
 refine ak fun K1 hK1=>?_
 refine ag ?_
 refine bR (#[vo]) h s rfl rfl rfl ?_;intro f w1 b1 h s
 refine ac h (aj (h.ev rfl)) rfl ?_;intro f h
 refine ai ?_
 refine hK1 _ _ ?_
 refine ak fun K2 hK2=>?_
 refine ag ?_
 refine ay 0 h s a7 rfl rfl (rfl) rfl ?_;intro f h
 refine aK h s DI (wE L vo _ (hO.keep s.ext)) rfl rfl ?_;rintro f w1 v18 ⟨vm,rfl,hOw⟩ hE h sq;replace s:=s.sl_new hE hOw;clear hOw
 obtain ⟨M,hM⟩:∃ x9,x9=(L.take (min L.length 18)).map gU:=⟨_,rfl⟩
 rw [← hM] at s
 have hMf:FewO M:=by rw [hM];exact w7 L
 have hM18:=hMf.len
 have hM40:M.length≤40:=by omega
 have hMb:=hMf.rb
 have hMr:∀ y∈M,mP w y:=by rw [hM];exact uJ (fun y hy=>hO.2 y (List.mem_of_mem_take hy))
 refine aA 1 h s a7 rfl rfl rfl (rfl) (rfl) (bY (bo (s.getSl 0 rfl))) ?_;intro w1 s
 refine ai ?_
 refine hK2 _ _ ?_
 refine ak fun K3 hK3=>?_
 refine ag ?_
 refine ay 1 h s a7 rfl rfl (rfl) rfl ?_;intro f h
 refine aK h s BB (qw M vm _ (⟨bO.of_own (s.getSl 0 rfl),fun y hy=>(hMr y hy).keep s.ext⟩:cI _ vm M) hM40 hMb) rfl rfl ?_;rintro f w1 v21 ⟨o9,rfl,va,La,ka,rfl,hnva,hG⟩ hE h sq;replace s:=s.add hG;clear hG
 have hlva:=(zB M).l hnva
 have hbva:=(zB M).r hnva
 refine ac h (ah (h.ev rfl)) rfl ?_;intro f h
 refine ac h (aW (h.ev rfl) rfl) rfl ?_;intro f h
 refine ac h (aW (h.ev rfl) rfl) rfl ?_;intro f h
 refine bi (#[aU]) h s d6 rfl rfl ?_;intro f w1 b3 h s
 refine aA 0 h s a7 rfl rfl rfl (rfl) (rfl) (bY (db (((s.getG 1 rfl) (⟨bO.of_own (s.getSl 2 rfl),fun y hy=>(hMr y hy).keep s.ext⟩:cI _ vm M)).1))) ?_;intro w1 s
 refine ac h (aj (h.ev rfl)) rfl ?_;intro f h
 refine ai ?_
 refine hK3 _ _ ?_
 refine ak fun K4 hK4=>?_
 refine ak fun K5 hK5=>?_
 cases r0:(fH M:Bool)
 ·skip
  refine ag ?_
  refine ac h (ah (h.ev rfl)) rfl ?_;intro f h
  refine ac h (aE (.bool true) (cJ (h.ev rfl) (h.ev rfl)) (by rw [(rj r0).1];rfl)) rfl ?_;intro f h
  refine ai ?_
  refine hK5 _ _ ?_
  refine wpIn_cond_true (h.ev rfl) ?_
  refine ak fun K6 hK6=>?_
  refine ag ?_
  refine aK h s zb (aT (.bool true) (lD _) (rfl)) rfl rfl ?_;intro f w1 v9 hT hE h s;obtain rfl:=hT
  refine ac h (ah (h.ev rfl)) rfl ?_;intro f h
  refine a2 h rfl rfl rfl ?_
  refine ay 3 h s a7 rfl rfl (rfl) rfl ?_;intro f h
  refine a2 h rfl rfl rfl ?_
  refine aK h s iE (aT (.bool false) (dn M vm _ (⟨bO.of_own (s.getSl 2 rfl),fun y hy=>(hMr y hy).keep s.ext⟩:cI _ vm M) hM40 hMb) (congrArg Value.bool r0)) rfl rfl ?_;intro f w1 v9 hT hE h s;obtain rfl:=hT
  refine a2 h rfl rfl rfl ?_
  refine ac h (aE (.bool true) (bI (h.ev rfl)) rfl) rfl ?_;intro f h
  refine ac h (aO (h.ev rfl) (h.ev rfl)) rfl ?_;intro f h
  refine ac h (aj (h.ev rfl)) rfl ?_;intro f h
  refine ai ?_
  refine hK6 _ _ ?_
  refine wpIn_ret ?_
  refine a8 ?_
  exact bu rfl h s rfl (rfl)
 ·skip
  refine ag ?_
  refine ac h (ah (h.ev rfl)) rfl ?_;intro f h
  refine ac h (aE (.bool false) (cJ (h.ev rfl) (h.ev rfl)) (by rw [(o5 r0).1];rfl)) rfl ?_;intro f h
  refine ai ?_
  refine hK5 _ _ ?_
  refine wpIn_cond_false (h.ev rfl) ?_
  refine wpIn_skip ?_
  refine hK4 _ _ ?_
  refine ak fun K7 hK7=>?_
  refine ag ?_
  have hrk:=CE r0
  have hrs:=hrk.rs
  have hml:(ae M).length=M.length:=List.length_map _
  refine ay 3 h s a7 rfl rfl (rfl) rfl ?_;intro f h
  refine bi (#[aU]) h s d6 rfl rfl ?_;intro f w1 b5 h s
  refine aA 0 h s a7 rfl rfl rfl (rfl) (rfl) (bY (bo (s.getSl 3 rfl))) ?_;intro w1 s
  refine ai ?_
  refine hK7 _ _ ?_
  refine ak fun K8 hK8=>?_
  refine ak fun K9 hK9=>?_
  refine ag ?_
  refine ay 4 h s a7 rfl rfl (rfl) rfl ?_;intro f h
  refine aK h s pb (eA M vm _ (⟨bO.of_own (s.getSl 3 rfl),fun y hy=>(hMr y hy).keep s.ext⟩:cI _ vm M) hM40) rfl rfl ?_;intro f w1 v34 hT hE h sq;replace s:=s.sl_new hE hT
  replace s:=s.grp0 (S:=fun w9=>cI w9 vm M→cI w9 vm M) (fun _ h=>h)
  refine da 1 h s Tryz.underlying36 rfl rfl rfl ?_;intro f h
  refine ac h (ah (h.ev rfl)) rfl ?_;intro f h
  refine ai ?_
  refine hK9 _ _ ?_
  refine wpIn_block ?_
  refine wpIn_loop_ghost (fun nn aa ww=>∃ k:Nat,∃ vc:Value,∃ Lc:List N3,∃ kc:List Nat,Sl 106 aa [(0,.agg #[vo]),(1,.pointer (some ⟨b1,0,none⟩)),(3,.pointer (some ⟨b3,0,none⟩)),(5,.pointer (some ⟨b5,0,none⟩)),(34,v34),(35,.int .i64 ((ae M).length:Int)),(36,.int .i64 (k:Int))]∧St w [(.grp kc (fun w9=>cI w9 vm M→cI w9 vc Lc)),.sl v34 28 33 (ae M).length (am (ae M)),.blk b5 (.cells (#[vc]) 24),.blk b3 (.cells (#[va]) 24),(.grp ka (fun w9=>fU vm M w9→cI w9 va La)),.sl vm 42 68 M.length (aD M),.blk b1 (.cells (#[vm]) 24)] ww∧nn=(ae M).length - k∧k≤(ae M).length∧RK Lc∧ae Lc=ae M∧nds Lc=kM (nds M) k) ((ae M).length - (0)) ⟨0,vm,M,[],h.only ⟨rfl,rfl,rfl,rfl,rfl,rfl,aQ rfl (by omega),trivial⟩,s.as ⟨rfl,rfl,rfl,rfl,rfl,rfl,rfl,trivial⟩,rfl,Nat.zero_le _,hrk,rfl,rfl⟩ ?_
  rintro _ f w1 ⟨k,vc,Lc,kc,h,s,hnn,hp0,hp1,hp2,hp3⟩
  refine ak fun K10 hK10=>?_
  refine ag ?_
  refine ac h (cc (h.ev rfl) (h.ev rfl)) rfl ?_;intro f h
  refine ai ?_
  refine hK10 _ _ ?_
  refine ak fun K11 hK11=>?_
  refine bL h rfl (fun hc=>?_) (fun hc=>?_)
  ·replace hc:=of_decide_eq_true hc
   refine wpIn_skip ?_
   refine hK11 _ _ ?_
   refine ak fun K12 hK12=>?_
   refine wpIn_block ?_
   refine ak fun K13 hK13=>?_
   refine ag ?_
   have hkl:k<(ae M).length:=by omega
   have hcl16:=hp1.rs.len
   refine ac h (bU (bO.of_own (s.getSl 1 rfl)) (k) Tryz.underlying36 cA (h.ev rfl) (h.ev rfl) (by omega) (by omega)) rfl ?_;intro f h
   refine aI ((bO.of_own (s.getSl 1 rfl)).el (k) (by omega) (by decide) (D:=av ((ae M).getD k ap)) (cX (ae M) k hkl)) h aJ rfl (al _) rfl ?_;intro f h
   refine bi (av ap) h s cF rfl rfl ?_;intro f w1 b7 h s
   refine aA 0 h s aJ rfl rfl rfl (al _) (al _) (aX _) ?_;intro w1 s
   refine ai ?_
   refine hK13 _ _ ?_
   refine ak fun K14 hK14=>?_
   refine ag ?_
   refine ay 3 h s a7 rfl rfl (rfl) rfl ?_;intro f h
   refine ac h (aq aP (h.ev rfl)) rfl ?_;intro f h
   refine aC (ax (bq.of_own s 0 rfl) 0 (aV _)) h bV rfl rfl ?_;intro f h
   refine aK h s CG (tj Lc vc ((ae M).getD k ap).1 _ ((s.getG 1 rfl) (⟨bO.of_own (s.getSl 6 rfl),fun y hy=>(hMr y hy).keep s.ext⟩:cI _ vm M)) (by omega) hp1.rs.rb) rfl rfl ?_;rintro f w1 v44 ⟨o9,rfl,vn,Ln,kn,rfl,hnd,hG⟩ hE h sq;replace s:=s.add hG;clear hG
   replace s:=s.sel [0,2,1,3,4,5,6,7,8] rfl (by decide)
   replace s:=s.merge (S:=fun w9=>cI w9 vm M→cI w9 vn Ln) (fun w9 h1 h2 hR=>h1 (h2 hR))
   have hcl:bP (ae Lc) ((ae M).getD k ap).1=true:=by rw [hp2];exact(en hrs.nos).2 ⟨_,dx hkl,rfl⟩
   have hce:=kA hp1.ov hcl
   have hnt:=hnd.trans (zk hce)
   have hq1:=xC hp1 hcl hnt
   have hq2:=(nW hp1.rs hcl hnt).2
   refine ac h (ah (h.ev rfl)) rfl ?_;intro f h
   refine ac h (aW (h.ev rfl) rfl) rfl ?_;intro f h
   refine ac h (aW (h.ev rfl) rfl) rfl ?_;intro f h
   refine bi (#[aU]) h s d6 rfl rfl ?_;intro f w1 b8 h s
   refine aA 0 h s a7 rfl rfl rfl (rfl) (rfl) (bY (db (((s.getG 1 rfl) (⟨bO.of_own (s.getSl 7 rfl),fun y hy=>(hMr y hy).keep s.ext⟩:cI _ vm M)).1))) ?_;intro w1 s
   refine ac h (aj (h.ev rfl)) rfl ?_;intro f h
   refine ai ?_
   refine hK14 _ _ ?_
   refine ak fun K15 hK15=>?_
   refine ak fun K16 hK16=>?_
   refine ag ?_
   refine ac h (ah (h.ev rfl)) rfl ?_;intro f h
   refine ac h (aE (.bool false) (cJ (h.ev rfl) (h.ev rfl)) (by rw [hce];rfl)) rfl ?_;intro f h
   refine ai ?_
   refine hK16 _ _ ?_
   refine wpIn_cond_false (h.ev rfl) ?_
   refine wpIn_skip ?_
   refine hK15 _ _ ?_
   refine ag ?_
   refine ay 0 h s a7 rfl rfl (rfl) rfl ?_;intro f h
   refine aA 4 h s a7 rfl rfl rfl (rfl) (rfl) (bY (db (((s.getG 1 rfl) (⟨bO.of_own (s.getSl 7 rfl),fun y hy=>(hMr y hy).keep s.ext⟩:cI _ vm M)).1))) ?_;intro w1 s
   refine ai ?_
   refine bH ?_
   refine hK12 _ _ ?_
   refine ag ?_
   refine ac h (cp (h.ev rfl) (h.ev rfl) (by omega)) rfl ?_;intro f h
   refine ac h (ah (h.ev rfl)) rfl ?_;intro f h
   refine ai ?_
   refine ca ?_
   exact ⟨_,by omega,⟨k+1,vn,Ln,kn++kc,h.only ⟨rfl,rfl,rfl,rfl,rfl,rfl,aQ rfl (by omega),trivial⟩,St.as (s.pick _ (List.Sublist.cons _ (List.Sublist.cons_cons _ (List.Sublist.cons _ (List.Sublist.cons_cons _ (List.Sublist.cons_cons _ (List.Sublist.cons_cons _ (List.Sublist.cons_cons _ (List.Sublist.cons_cons _ (List.Sublist.cons_cons _ (List.nil_sublist _))))))))))) ⟨rfl,rfl,rfl,rfl,rfl,rfl,rfl,trivial⟩,rfl,by omega,hq1,hq2.trans hp2,by rw [hnt,hp3,jL hkl]⟩⟩
  ·replace hc:=of_decide_eq_false hc
   refine wpIn_exit ?_
   refine bN ?_
   refine bN ?_
   refine cG ?_
   refine hK8 _ _ ?_
   refine ak fun K17 hK17=>?_
   refine ak fun K18 hK18=>?_
   refine ag ?_
   have hcl16:=hp1.rs.len
   refine ay 3 h s a7 rfl rfl (rfl) rfl ?_;intro f h
   refine ay 2 h s a7 rfl rfl (rfl) rfl ?_;intro f h
   refine aK h s vH (aT (.bool true) (jZ La Lc va vc _ ((s.getG 4 rfl) (⟨bO.of_own (s.getSl 5 rfl),fun y hy=>(hMr y hy).keep s.ext⟩:cI _ vm M)) hlva ((s.getG 0 rfl) (⟨bO.of_own (s.getSl 5 rfl),fun y hy=>(hMr y hy).keep s.ext⟩:cI _ vm M)) (by omega) hbva hp1.rs.rb) (congrArg Value.bool (decide_eq_true (hnva.trans ((o5 r0).2.trans (hp3.trans (lr (by omega))).symm))))) rfl rfl ?_;intro f w1 v9 hT hE h s;obtain rfl:=hT
   refine ac h (aE (.bool false) (bI (h.ev rfl)) rfl) rfl ?_;intro f h
   refine ac h (ah (h.ev rfl)) rfl ?_;intro f h
   refine a2 h rfl rfl rfl ?_
   refine aK h s zb (aT (.bool true) (lD _) (rfl)) rfl rfl ?_;intro f w1 v9 hT hE h s;obtain rfl:=hT
   refine a2 h rfl rfl rfl ?_
   refine ac h (aE (.bool false) (bI (h.ev rfl)) rfl) rfl ?_;intro f h
   refine ac h (aL (h.ev rfl) (h.ev rfl)) rfl ?_;intro f h
   refine ai ?_
   refine hK18 _ _ ?_
   refine wpIn_cond_false (h.ev rfl) ?_
   refine wpIn_skip ?_
   refine hK17 _ _ ?_
   refine ak fun K19 hK19=>?_
   refine ak fun K20 hK20=>?_
   refine ag ?_
   refine ay 6 h s a7 rfl rfl (rfl) rfl ?_;intro f h
   refine aK h s pb (eA M vm _ (⟨bO.of_own (s.getSl 5 rfl),fun y hy=>(hMr y hy).keep s.ext⟩:cI _ vm M) hM40) rfl rfl ?_;intro f w1 v60 hT hE h sq;replace s:=s.sl_new hE hT
   refine da 0 h s Tryz.underlying36 rfl rfl rfl ?_;intro f h
   refine ac h (ah (h.ev rfl)) rfl ?_;intro f h
   refine ai ?_
   refine hK20 _ _ ?_
   refine wpIn_block ?_
   refine wpIn_loop_ghost (fun nn aa ww=>∃ j:Nat,Sl 106 aa [(0,.agg #[vo]),(1,.pointer (some ⟨b1,0,none⟩)),(3,.pointer (some ⟨b3,0,none⟩)),(5,.pointer (some ⟨b5,0,none⟩)),(34,v34),(60,v60),(61,.int .i64 ((ae M).length:Int)),(62,.int .i64 (j:Int))]∧St w [.sl v60 28 33 (ae M).length (am (ae M)),(.grp kc (fun w9=>cI w9 vm M→cI w9 vc Lc)),.sl v34 28 33 (ae M).length (am (ae M)),.blk b5 (.cells (#[vc]) 24),.blk b3 (.cells (#[va]) 24),(.grp ka (fun w9=>fU vm M w9→cI w9 va La)),.sl vm 42 68 M.length (aD M),.blk b1 (.cells (#[vm]) 24)] ww∧nn=(ae M).length - j∧j≤(ae M).length) ((ae M).length - (0)) ⟨0,h.only ⟨rfl,rfl,rfl,rfl,rfl,rfl,rfl,aQ rfl (by omega),trivial⟩,s.as ⟨rfl,rfl,rfl,rfl,rfl,rfl,rfl,rfl,trivial⟩,rfl,Nat.zero_le _⟩ ?_
   rintro _ f w1 ⟨j,h,s,hnn,hp0⟩
   refine ak fun K21 hK21=>?_
   refine ag ?_
   refine ac h (cc (h.ev rfl) (h.ev rfl)) rfl ?_;intro f h
   refine ai ?_
   refine hK21 _ _ ?_
   refine ak fun K22 hK22=>?_
   refine bL h rfl (fun hc=>?_) (fun hc=>?_)
   ·replace hc:=of_decide_eq_true hc
    refine wpIn_skip ?_
    refine hK22 _ _ ?_
    refine ak fun K23 hK23=>?_
    refine wpIn_block ?_
    refine ak fun K24 hK24=>?_
    refine ag ?_
    have hjl:j<(ae M).length:=by omega
    refine ac h (bU (bO.of_own (s.getSl 0 rfl)) (j) Tryz.underlying36 cA (h.ev rfl) (h.ev rfl) (by omega) (by omega)) rfl ?_;intro f h
    refine aI ((bO.of_own (s.getSl 0 rfl)).el (j) (by omega) (by decide) (D:=av ((ae M).getD j ap)) (cX (ae M) j hjl)) h aJ rfl (al _) rfl ?_;intro f h
    refine bi (av ap) h s cF rfl rfl ?_;intro f w1 b11 h s
    refine aA 0 h s aJ rfl rfl rfl (al _) (al _) (aX _) ?_;intro w1 s
    refine ai ?_
    refine hK24 _ _ ?_
    refine ak fun K25 hK25=>?_
    refine ag ?_
    refine ay 8 h s a7 rfl rfl (rfl) rfl ?_;intro f h
    refine ac h (aq aP (h.ev rfl)) rfl ?_;intro f h
    refine aC (ax (bq.of_own s 0 rfl) 0 (aV _)) h bV rfl rfl ?_;intro f h
    refine aK h s BI (sI M vm ((ae M).getD j ap).1 _ (⟨bO.of_own (s.getSl 7 rfl),fun y hy=>(hMr y hy).keep s.ext⟩:cI _ vm M) hM40 hMb) rfl rfl ?_;rintro f w1 v70 ⟨o9,rfl,vz,Lz,kz,rfl,hnvz,hG⟩ hE h sq;replace s:=s.add hG;clear hG
    have hlvz:=(yU M ((ae M).getD j ap).1).l hnvz
    have hbvz:=(yU M ((ae M).getD j ap).1).r hnvz
    refine ac h (ah (h.ev rfl)) rfl ?_;intro f h
    refine ac h (aW (h.ev rfl) rfl) rfl ?_;intro f h
    refine ac h (aW (h.ev rfl) rfl) rfl ?_;intro f h
    refine bi (#[aU]) h s d6 rfl rfl ?_;intro f w1 b12 h s
    refine aA 0 h s a7 rfl rfl rfl (rfl) (rfl) (bY (db (((s.getG 1 rfl) (⟨bO.of_own (s.getSl 9 rfl),fun y hy=>(hMr y hy).keep s.ext⟩:cI _ vm M)).1))) ?_;intro w1 s
    refine ac h (aj (h.ev rfl)) rfl ?_;intro f h
    refine ai ?_
    refine hK25 _ _ ?_
    refine ak fun K26 hK26=>?_
    refine ag ?_
    have hlj:bP (ae M) ((ae M).getD j ap).1=true:=(en hrs.nos).2 ⟨_,dx hjl,rfl⟩
    have hcej:=kA r0 hlj
    have hz9:=hnvz.trans (vV hcej)
    have hkz:RK Lz:=r4 ((qT M ((ae M).getD j ap).1).trans hz9.symm) (t6 hrk ((ae M).getD j ap).1)
    refine ay 0 h s a7 rfl rfl (rfl) rfl ?_;intro f h
    refine aK h s pb (eA Lz vz _ ((s.getG 1 rfl) (⟨bO.of_own (s.getSl 9 rfl),fun y hy=>(hMr y hy).keep s.ext⟩:cI _ vm M)) hlvz) rfl rfl ?_;intro f w1 v74 hT hE h sq;replace s:=s.sl_new hE hT
    refine ac h (aj (h.ev rfl)) rfl ?_;intro f h
    refine ai ?_
    refine hK26 _ _ ?_
    refine ak fun K27 hK27=>?_
    refine ak fun K28 hK28=>?_
    cases z0:(decide ((ae Lz).length=0):Bool)
    ·skip
     refine ag ?_
     refine ac h (ah (h.ev rfl)) rfl ?_;intro f h
     refine ac h (aE (.bool false) (cJ (h.ev rfl) (h.ev rfl)) (by rw [hcej];rfl)) rfl ?_;intro f h
     refine ac h (ah (h.ev rfl)) rfl ?_;intro f h
     refine a2 h rfl rfl rfl ?_
     refine ac h (ah (h.ev rfl)) rfl ?_;intro f h
     refine a2 h rfl rfl rfl ?_
     refine da 0 h s Tryz.underlying36 rfl rfl rfl ?_;intro f h
     refine a2 h rfl rfl rfl ?_
     refine ac h (aE (.bool false) (cb (h.ev rfl) (h.ev rfl)) (congrArg Value.bool (decide_eq_false (by have:=of_decide_eq_false z0;omega)))) rfl ?_;intro f h
     refine ac h (aL (h.ev rfl) (h.ev rfl)) rfl ?_;intro f h
     refine ai ?_
     refine hK28 _ _ ?_
     refine wpIn_cond_false (h.ev rfl) ?_
     refine wpIn_skip ?_
     refine hK27 _ _ ?_
     refine ak fun K29 hK29=>?_
     have hz1:0<(ae Lz).length:=by have h9:=of_decide_eq_false z0;omega
     have hlz:bP (ae Lz) ((ae Lz).getD 0 ap).1=true:=(en hkz.rs.nos).2 ⟨_,dx (by omega),rfl⟩
     have hbk:=Dy hrk (dx hjl) hz9 hlz
     refine jP 0 [[],[],[],[2],[2,3],[2,3,4],[0,1,2,3,4,5],[0,1,2,3,4,5,6],[0,1,2,3,4,5,6,7],[0,1,2,3,4,5,6,7],[],[0,1,2,3,4,5,6,7,8,10],[0,1,2,3,4,5,6,7,8,9,10,11]] [[],[],[],[],[],[],[],[],[],[],[],[10],[]] [fun _=>[],fun _=>[],fun _=>[],fun _=>[],fun _=>[],fun _=>[],fun _=>[],fun _=>[],fun _=>[],fun _=>[],fun v=>[.blk (wH (v 10)) (.cells (#[aU]) 24)],fun v=>[.blk (wH (v 10)) (.cells (#[.slice (mq (v 6)) M.length (mr (v 6))]) 24)],fun _=>[]] [] [fun v=>v 0=.agg (#[vz]),fun v=>v 1=.agg ((av ((ae M).getD j ap))),fun v=>v 2=v74,fun v=>v 3=.pointer (some (aF v74 (0*33))),fun v=>v 4=.pointer (some (aF v74 (0*33+0))),fun v=>v 5=.int .i64 ((ae Lz).getD 0 ap).1,fun v=>v 6=.tuple #[.agg #[.slice (mq (v 6)) M.length (mr (v 6))],.int .i64 (kN Lz ((ae M).getD j ap) ((ae Lz).getD 0 ap).1)],fun v=>v 7=.tuple #[.agg #[.slice (mq (v 6)) M.length (mr (v 6))],.int .i64 (kN Lz ((ae M).getD j ap) ((ae Lz).getD 0 ap).1)],fun v=>v 8=.agg #[.slice (mq (v 6)) M.length (mr (v 6))],fun v=>v 9=.int .i64 (kN Lz ((ae M).getD j ap) ((ae Lz).getD 0 ap).1),fun v=>∃ b,v 10=.pointer (some ⟨b,0,none⟩),fun _=>True,fun v=>v 12=.int .i64 (kN Lz ((ae M).getD j ap) ((ae Lz).getD 0 ap).1)] [.sl v74 28 33 (ae Lz).length (am (ae Lz)),.blk b12 (.cells (#[vz]) 24),(.grp kz (fun w9=>fU vm M w9→cI w9 vz Lz)),.blk b11 (.cells ((av ((ae M).getD j ap))) 28),.sl v60 28 33 (ae M).length (am (ae M)),(.grp kc (fun w9=>cI w9 vm M→cI w9 vc Lc)),.sl v34 28 33 (ae M).length (am (ae M)),.blk b5 (.cells (#[vc]) 24),.blk b3 (.cells (#[va]) 24),(.grp ka (fun w9=>fU vm M w9→cI w9 va La)),.sl vm 42 68 M.length (aD M),.blk b1 (.cells (#[vm]) 24)] h s rfl (by kernel_rfl) (by kernel_rfl) (by kernel_rfl) (And.intro ?_ (And.intro ?_ (And.intro ?_ (And.intro ?_ (And.intro ?_ (And.intro ?_ (And.intro ?_ (And.intro ?_ (And.intro ?_ (And.intro ?_ (And.intro ?_ (And.intro ?_ (And.intro ?_ (trivial)))))))))))))) [0,1,2,3,4,5,6,7,8,9,11,12] (by kernel_rfl) ?_
     ·intro f9 w2 vl23 E9 hs9 hd9 hl hF s
      have e12:f9.tmps.getD 12 undef=_:=cK hl 12 (by kernel_rfl) (by kernel_rfl) (h.holds 12 _ rfl)
      have h:=aB [(12,_)] (hs9.trans h.size) (hd9.trans h.defers) (holds_lk ⟨e12,trivial⟩)
      replace s:St w (.sl v74 28 33 (ae Lz).length (am (ae Lz))::.blk b12 (.cells (#[vz]) 24)::(.grp kz (fun w9=>fU vm M w9→cI w9 vz Lz))::.blk b11 (.cells ((av ((ae M).getD j ap))) 28)::.sl v60 28 33 (ae M).length (am (ae M))::(.grp kc (fun w9=>cI w9 vm M→cI w9 vc Lc))::.sl v34 28 33 (ae M).length (am (ae M))::.blk b5 (.cells (#[vc]) 24)::.blk b3 (.cells (#[va]) 24)::(.grp ka (fun w9=>fU vm M w9→cI w9 va La))::.sl vm 42 68 M.length (aD M)::.blk b1 (.cells (#[vm]) 24)::E9) _:=s
      refine ay 1 h s a7 rfl rfl (rfl) rfl ?_;intro f h
      exact ai ⟨_,a6 85 rfl (h.holds 85 _ rfl),rfl,s⟩
     ·intro f9 w2 vl23 E9 hs9 hd9 hl hF s
      have e11:f9.tmps.getD 11 undef=_:=cK hl 11 (by kernel_rfl) (by kernel_rfl) (h.holds 11 _ rfl)
      have h:=aB [(11,_)] (hs9.trans h.size) (hd9.trans h.defers) (holds_lk ⟨e11,trivial⟩)
      replace s:St w (.sl v74 28 33 (ae Lz).length (am (ae Lz))::.blk b12 (.cells (#[vz]) 24)::(.grp kz (fun w9=>fU vm M w9→cI w9 vz Lz))::.blk b11 (.cells ((av ((ae M).getD j ap))) 28)::.sl v60 28 33 (ae M).length (am (ae M))::(.grp kc (fun w9=>cI w9 vm M→cI w9 vc Lc))::.sl v34 28 33 (ae M).length (am (ae M))::.blk b5 (.cells (#[vc]) 24)::.blk b3 (.cells (#[va]) 24)::(.grp ka (fun w9=>fU vm M w9→cI w9 va La))::.sl vm 42 68 M.length (aD M)::.blk b1 (.cells (#[vm]) 24)::E9) _:=s
      refine ay 3 h s aJ rfl rfl (al _) rfl ?_;intro f h
      exact ai ⟨_,a6 86 rfl (h.holds 86 _ rfl),rfl,s⟩
     ·intro f9 w2 vl23 E9 hs9 hd9 hl hF s
      have e14:f9.tmps.getD 14 undef=_:=cK hl 14 (by kernel_rfl) (by kernel_rfl) (h.holds 14 _ rfl)
      have h:=aB [(14,_)] (hs9.trans h.size) (hd9.trans h.defers) (holds_lk ⟨e14,trivial⟩)
      replace s:St w (.sl v74 28 33 (ae Lz).length (am (ae Lz))::.blk b12 (.cells (#[vz]) 24)::(.grp kz (fun w9=>fU vm M w9→cI w9 vz Lz))::.blk b11 (.cells ((av ((ae M).getD j ap))) 28)::.sl v60 28 33 (ae M).length (am (ae M))::(.grp kc (fun w9=>cI w9 vm M→cI w9 vc Lc))::.sl v34 28 33 (ae M).length (am (ae M))::.blk b5 (.cells (#[vc]) 24)::.blk b3 (.cells (#[va]) 24)::(.grp ka (fun w9=>fU vm M w9→cI w9 va La))::.sl vm 42 68 M.length (aD M)::.blk b1 (.cells (#[vm]) 24)::E9) _:=s
      refine ac h (ah (h.ev rfl)) rfl ?_;intro f h
      exact ai ⟨_,a6 87 rfl (h.holds 87 _ rfl),rfl,s⟩
     ·intro f9 w2 vl23 E9 hs9 hd9 hl hF s
      have e87:f9.tmps.getD 87 undef=v74:=(bc hl 87 2 (by kernel_rfl) (by kernel_rfl)).trans (hF 2 (by decide))
      have h:=aB [(87,v74)] (hs9.trans h.size) (hd9.trans h.defers) (holds_lk ⟨e87,trivial⟩)
      replace s:St w (.sl v74 28 33 (ae Lz).length (am (ae Lz))::.blk b12 (.cells (#[vz]) 24)::(.grp kz (fun w9=>fU vm M w9→cI w9 vz Lz))::.blk b11 (.cells ((av ((ae M).getD j ap))) 28)::.sl v60 28 33 (ae M).length (am (ae M))::(.grp kc (fun w9=>cI w9 vm M→cI w9 vc Lc))::.sl v34 28 33 (ae M).length (am (ae M))::.blk b5 (.cells (#[vc]) 24)::.blk b3 (.cells (#[va]) 24)::(.grp ka (fun w9=>fU vm M w9→cI w9 va La))::.sl vm 42 68 M.length (aD M)::.blk b1 (.cells (#[vm]) 24)::E9) _:=s
      refine ac h (bU (bO.of_own (s.getSl 0 rfl)) (0) Tryz.underlying36 cA (h.ev rfl) (h.ev rfl) (by have h9:=of_decide_eq_false z0;omega) (by omega)) rfl ?_;intro f h
      exact ai ⟨_,a6 88 rfl (h.holds 88 _ rfl),rfl,s⟩
     ·intro f9 w2 vl23 E9 hs9 hd9 hl hF s
      have e88:f9.tmps.getD 88 undef=.pointer (some (aF v74 (0*33))):=(bc hl 88 3 (by kernel_rfl) (by kernel_rfl)).trans (hF 3 (by decide))
      have h:=aB [(88,.pointer (some (aF v74 (0*33))))] (hs9.trans h.size) (hd9.trans h.defers) (holds_lk ⟨e88,trivial⟩)
      replace s:St w (.sl v74 28 33 (ae Lz).length (am (ae Lz))::.blk b12 (.cells (#[vz]) 24)::(.grp kz (fun w9=>fU vm M w9→cI w9 vz Lz))::.blk b11 (.cells ((av ((ae M).getD j ap))) 28)::.sl v60 28 33 (ae M).length (am (ae M))::(.grp kc (fun w9=>cI w9 vm M→cI w9 vc Lc))::.sl v34 28 33 (ae M).length (am (ae M))::.blk b5 (.cells (#[vc]) 24)::.blk b3 (.cells (#[va]) 24)::(.grp ka (fun w9=>fU vm M w9→cI w9 va La))::.sl vm 42 68 M.length (aD M)::.blk b1 (.cells (#[vm]) 24)::E9) _:=s
      refine ac h (bB aP (h.ev rfl) ((bO.of_own (s.getSl 0 rfl)).some (by omega))) rfl ?_;intro f h
      exact ai ⟨_,a6 89 rfl (h.holds 89 _ rfl),rfl,s⟩
     ·intro f9 w2 vl23 E9 hs9 hd9 hl hF s
      have e89:f9.tmps.getD 89 undef=.pointer (some (aF v74 (0*33+0))):=(bc hl 89 4 (by kernel_rfl) (by kernel_rfl)).trans (hF 4 (by decide))
      have h:=aB [(89,.pointer (some (aF v74 (0*33+0))))] (hs9.trans h.size) (hd9.trans h.defers) (holds_lk ⟨e89,trivial⟩)
      replace s:St w (.sl v74 28 33 (ae Lz).length (am (ae Lz))::.blk b12 (.cells (#[vz]) 24)::(.grp kz (fun w9=>fU vm M w9→cI w9 vz Lz))::.blk b11 (.cells ((av ((ae M).getD j ap))) 28)::.sl v60 28 33 (ae M).length (am (ae M))::(.grp kc (fun w9=>cI w9 vm M→cI w9 vc Lc))::.sl v34 28 33 (ae M).length (am (ae M))::.blk b5 (.cells (#[vc]) 24)::.blk b3 (.cells (#[va]) 24)::(.grp ka (fun w9=>fU vm M w9→cI w9 va La))::.sl vm 42 68 M.length (aD M)::.blk b1 (.cells (#[vm]) 24)::E9) _:=s
      refine aC (V:=.int .i64 ((ae Lz).getD 0 ap).1) (dq (bO.of_own (s.getSl 0 rfl)) (0*33+0) (ni (ae Lz) 0 (by have h9:=of_decide_eq_false z0;omega))) h bV rfl rfl ?_;intro f h
      exact ai ⟨_,a6 90 rfl (h.holds 90 _ rfl),rfl,s⟩
     ·intro f9 w2 vl23 E9 hs9 hd9 hl hF s
      have e85:f9.tmps.getD 85 undef=.agg (#[vz]):=(bc hl 85 0 (by kernel_rfl) (by kernel_rfl)).trans (hF 0 (by decide))
      have e86:f9.tmps.getD 86 undef=.agg ((av ((ae M).getD j ap))):=(bc hl 86 1 (by kernel_rfl) (by kernel_rfl)).trans (hF 1 (by decide))
      have e90:f9.tmps.getD 90 undef=.int .i64 ((ae Lz).getD 0 ap).1:=(bc hl 90 5 (by kernel_rfl) (by kernel_rfl)).trans (hF 5 (by decide))
      have h:=aB [(85,.agg (#[vz])),(86,.agg ((av ((ae M).getD j ap)))),(90,.int .i64 ((ae Lz).getD 0 ap).1)] (hs9.trans h.size) (hd9.trans h.defers) (holds_lk ⟨e85,e86,e90,trivial⟩)
      replace s:St w (.sl v74 28 33 (ae Lz).length (am (ae Lz))::.blk b12 (.cells (#[vz]) 24)::(.grp kz (fun w9=>fU vm M w9→cI w9 vz Lz))::.blk b11 (.cells ((av ((ae M).getD j ap))) 28)::.sl v60 28 33 (ae M).length (am (ae M))::(.grp kc (fun w9=>cI w9 vm M→cI w9 vc Lc))::.sl v34 28 33 (ae M).length (am (ae M))::.blk b5 (.cells (#[vc]) 24)::.blk b3 (.cells (#[va]) 24)::(.grp ka (fun w9=>fU vm M w9→cI w9 va La))::.sl vm 42 68 M.length (aD M)::.blk b1 (.cells (#[vm]) 24)::E9) _:=s
      refine aK h s BU (mS Lz vz ((ae M).getD j ap) ((ae Lz).getD 0 ap).1 _ ((s.getG 2 rfl) (⟨bO.of_own (s.getSl 10 rfl),fun y hy=>(hMr y hy).keep s.ext⟩:cI _ vm M)) hlvz hbvz) rfl rfl ?_;rintro f w1 v91 ⟨o9,hv9,vw,Lw,kw,ho9,hnw,hG⟩ hE h sq;replace s:=s.add hG
      have hvx:v91=.tuple #[.agg #[.slice (mq v91) M.length (mr v91)],.int .i64 (kN Lz ((ae M).getD j ap) ((ae Lz).getD 0 ap).1)]:=by subst ho9;have h9:=(xj hnw).trans hbk.2;have h8:=(hG.getG 0 rfl ((s.getG 3 rfl) (⟨bO.of_own (s.getSl 11 rfl),fun y hy=>(hMr y hy).keep s.ext⟩:cI _ vm M))).1;rw [h9] at h8;exact AZ hv9 h8
      exact ai ⟨_,a6 91 rfl (h.holds 91 _ rfl),hvx,(s.pick _ (List.Sublist.cons _ (List.Sublist.cons_cons _ (List.Sublist.cons_cons _ (List.Sublist.cons_cons _ (List.Sublist.cons_cons _ (List.Sublist.cons_cons _ (List.Sublist.cons_cons _ (List.Sublist.cons_cons _ (List.Sublist.cons_cons _ (List.Sublist.cons_cons _ (List.Sublist.cons_cons _ (List.Sublist.cons_cons _ (List.Sublist.cons_cons _ (List.Sublist.refl _)))))))))))))))⟩
     ·intro f9 w2 vl23 E9 hs9 hd9 hl hF s
      have e91:f9.tmps.getD 91 undef=.tuple #[.agg #[.slice (mq (vl23 6)) M.length (mr (vl23 6))],.int .i64 (kN Lz ((ae M).getD j ap) ((ae Lz).getD 0 ap).1)]:=(bc hl 91 6 (by kernel_rfl) (by kernel_rfl)).trans (hF 6 (by decide))
      have h:=aB [(91,.tuple #[.agg #[.slice (mq (vl23 6)) M.length (mr (vl23 6))],.int .i64 (kN Lz ((ae M).getD j ap) ((ae Lz).getD 0 ap).1)])] (hs9.trans h.size) (hd9.trans h.defers) (holds_lk ⟨e91,trivial⟩)
      replace s:St w (.sl v74 28 33 (ae Lz).length (am (ae Lz))::.blk b12 (.cells (#[vz]) 24)::(.grp kz (fun w9=>fU vm M w9→cI w9 vz Lz))::.blk b11 (.cells ((av ((ae M).getD j ap))) 28)::.sl v60 28 33 (ae M).length (am (ae M))::(.grp kc (fun w9=>cI w9 vm M→cI w9 vc Lc))::.sl v34 28 33 (ae M).length (am (ae M))::.blk b5 (.cells (#[vc]) 24)::.blk b3 (.cells (#[va]) 24)::(.grp ka (fun w9=>fU vm M w9→cI w9 va La))::.sl vm 42 68 M.length (aD M)::.blk b1 (.cells (#[vm]) 24)::E9) _:=s
      refine ac h (ah (h.ev rfl)) rfl ?_;intro f h
      exact ai ⟨_,a6 84 rfl (h.holds 84 _ rfl),rfl,s⟩
     ·intro f9 w2 vl23 E9 hs9 hd9 hl hF s
      have e84:f9.tmps.getD 84 undef=.tuple #[.agg #[.slice (mq (vl23 6)) M.length (mr (vl23 6))],.int .i64 (kN Lz ((ae M).getD j ap) ((ae Lz).getD 0 ap).1)]:=(bc hl 84 7 (by kernel_rfl) (by kernel_rfl)).trans (hF 7 (by decide))
      have h:=aB [(84,.tuple #[.agg #[.slice (mq (vl23 6)) M.length (mr (vl23 6))],.int .i64 (kN Lz ((ae M).getD j ap) ((ae Lz).getD 0 ap).1)])] (hs9.trans h.size) (hd9.trans h.defers) (holds_lk ⟨e84,trivial⟩)
      replace s:St w (.sl v74 28 33 (ae Lz).length (am (ae Lz))::.blk b12 (.cells (#[vz]) 24)::(.grp kz (fun w9=>fU vm M w9→cI w9 vz Lz))::.blk b11 (.cells ((av ((ae M).getD j ap))) 28)::.sl v60 28 33 (ae M).length (am (ae M))::(.grp kc (fun w9=>cI w9 vm M→cI w9 vc Lc))::.sl v34 28 33 (ae M).length (am (ae M))::.blk b5 (.cells (#[vc]) 24)::.blk b3 (.cells (#[va]) 24)::(.grp ka (fun w9=>fU vm M w9→cI w9 va La))::.sl vm 42 68 M.length (aD M)::.blk b1 (.cells (#[vm]) 24)::E9) _:=s
      refine ac h (aW (h.ev rfl) rfl) rfl ?_;intro f h
      exact ai ⟨_,a6 92 rfl (h.holds 92 _ rfl),rfl,s⟩
     ·intro f9 w2 vl23 E9 hs9 hd9 hl hF s
      have e84:f9.tmps.getD 84 undef=.tuple #[.agg #[.slice (mq (vl23 6)) M.length (mr (vl23 6))],.int .i64 (kN Lz ((ae M).getD j ap) ((ae Lz).getD 0 ap).1)]:=(bc hl 84 7 (by kernel_rfl) (by kernel_rfl)).trans (hF 7 (by decide))
      have h:=aB [(84,.tuple #[.agg #[.slice (mq (vl23 6)) M.length (mr (vl23 6))],.int .i64 (kN Lz ((ae M).getD j ap) ((ae Lz).getD 0 ap).1)])] (hs9.trans h.size) (hd9.trans h.defers) (holds_lk ⟨e84,trivial⟩)
      replace s:St w (.sl v74 28 33 (ae Lz).length (am (ae Lz))::.blk b12 (.cells (#[vz]) 24)::(.grp kz (fun w9=>fU vm M w9→cI w9 vz Lz))::.blk b11 (.cells ((av ((ae M).getD j ap))) 28)::.sl v60 28 33 (ae M).length (am (ae M))::(.grp kc (fun w9=>cI w9 vm M→cI w9 vc Lc))::.sl v34 28 33 (ae M).length (am (ae M))::.blk b5 (.cells (#[vc]) 24)::.blk b3 (.cells (#[va]) 24)::(.grp ka (fun w9=>fU vm M w9→cI w9 va La))::.sl vm 42 68 M.length (aD M)::.blk b1 (.cells (#[vm]) 24)::E9) _:=s
      refine ac h (aW (h.ev rfl) rfl) rfl ?_;intro f h
      exact ai ⟨_,a6 93 rfl (h.holds 93 _ rfl),rfl,s⟩
     ·intro f9 w2 vl23 E9 hs9 hd9 hl hF s
      have h:=aB [] (hs9.trans h.size) (hd9.trans h.defers) (holds_lk trivial)
      replace s:St w (.sl v74 28 33 (ae Lz).length (am (ae Lz))::.blk b12 (.cells (#[vz]) 24)::(.grp kz (fun w9=>fU vm M w9→cI w9 vz Lz))::.blk b11 (.cells ((av ((ae M).getD j ap))) 28)::.sl v60 28 33 (ae M).length (am (ae M))::(.grp kc (fun w9=>cI w9 vm M→cI w9 vc Lc))::.sl v34 28 33 (ae M).length (am (ae M))::.blk b5 (.cells (#[vc]) 24)::.blk b3 (.cells (#[va]) 24)::(.grp ka (fun w9=>fU vm M w9→cI w9 va La))::.sl vm 42 68 M.length (aD M)::.blk b1 (.cells (#[vm]) 24)::E9) _:=s
      refine bi (#[aU]) h s d6 rfl rfl ?_;intro f w1 b15 h s
      exact ai ⟨_,a6 15 rfl (h.holds 15 _ rfl),⟨_,rfl⟩,s⟩
     ·intro f9 w2 vl23 E9 hs9 hd9 hl hF s
      obtain ⟨b15,hb15⟩:∃ b,vl23 10=.pointer (some ⟨b,0,none⟩):=hF 10 (by decide)
      have e15:f9.tmps.getD 15 undef=.pointer (some ⟨b15,0,none⟩):=(bc hl 15 10 (by kernel_rfl) (by kernel_rfl)).trans hb15
      have e92:f9.tmps.getD 92 undef=.agg #[.slice (mq (vl23 6)) M.length (mr (vl23 6))]:=(bc hl 92 8 (by kernel_rfl) (by kernel_rfl)).trans (hF 8 (by decide))
      have h:=aB [(15,.pointer (some ⟨b15,0,none⟩)),(92,.agg #[.slice (mq (vl23 6)) M.length (mr (vl23 6))])] (hs9.trans h.size) (hd9.trans h.defers) (holds_lk ⟨e15,e92,trivial⟩)
      replace s:St w (.blk (wH (vl23 10)) (.cells (#[aU]) 24)::.sl v74 28 33 (ae Lz).length (am (ae Lz))::.blk b12 (.cells (#[vz]) 24)::(.grp kz (fun w9=>fU vm M w9→cI w9 vz Lz))::.blk b11 (.cells ((av ((ae M).getD j ap))) 28)::.sl v60 28 33 (ae M).length (am (ae M))::(.grp kc (fun w9=>cI w9 vm M→cI w9 vc Lc))::.sl v34 28 33 (ae M).length (am (ae M))::.blk b5 (.cells (#[vc]) 24)::.blk b3 (.cells (#[va]) 24)::(.grp ka (fun w9=>fU vm M w9→cI w9 va La))::.sl vm 42 68 M.length (aD M)::.blk b1 (.cells (#[vm]) 24)::E9) _:=s
      rw [hb15] at s
      replace s:St w (.blk b15 (.cells (#[aU]) 24)::.sl v74 28 33 (ae Lz).length (am (ae Lz))::.blk b12 (.cells (#[vz]) 24)::(.grp kz (fun w9=>fU vm M w9→cI w9 vz Lz))::.blk b11 (.cells ((av ((ae M).getD j ap))) 28)::.sl v60 28 33 (ae M).length (am (ae M))::(.grp kc (fun w9=>cI w9 vm M→cI w9 vc Lc))::.sl v34 28 33 (ae M).length (am (ae M))::.blk b5 (.cells (#[vc]) 24)::.blk b3 (.cells (#[va]) 24)::(.grp ka (fun w9=>fU vm M w9→cI w9 va La))::.sl vm 42 68 M.length (aD M)::.blk b1 (.cells (#[vm]) 24)::E9) _:=s
      refine aA 0 h s a7 rfl rfl rfl (rfl) (rfl) (bY rfl) ?_;intro w1 s
      refine ai ⟨undef,fM rfl,trivial,?_⟩
      have z:=s
      rw [← show wH (vl23 10)=b15 from by rw [hb15];rfl] at z
      exact z
     ·intro f9 w2 vl23 E9 hs9 hd9 hl hF s
      have e93:f9.tmps.getD 93 undef=.int .i64 (kN Lz ((ae M).getD j ap) ((ae Lz).getD 0 ap).1):=(bc hl 93 9 (by kernel_rfl) (by kernel_rfl)).trans (hF 9 (by decide))
      have h:=aB [(93,.int .i64 (kN Lz ((ae M).getD j ap) ((ae Lz).getD 0 ap).1))] (hs9.trans h.size) (hd9.trans h.defers) (holds_lk ⟨e93,trivial⟩)
      replace s:St w (.sl v74 28 33 (ae Lz).length (am (ae Lz))::.blk b12 (.cells (#[vz]) 24)::(.grp kz (fun w9=>fU vm M w9→cI w9 vz Lz))::.blk b11 (.cells ((av ((ae M).getD j ap))) 28)::.sl v60 28 33 (ae M).length (am (ae M))::(.grp kc (fun w9=>cI w9 vm M→cI w9 vc Lc))::.sl v34 28 33 (ae M).length (am (ae M))::.blk b5 (.cells (#[vc]) 24)::.blk b3 (.cells (#[va]) 24)::(.grp ka (fun w9=>fU vm M w9→cI w9 va La))::.sl vm 42 68 M.length (aD M)::.blk b1 (.cells (#[vm]) 24)::E9) _:=s
      refine ac h (aj (h.ev rfl)) rfl ?_;intro f h
      exact ai ⟨_,a6 16 rfl (h.holds 16 _ rfl),rfl,s⟩
     intro f w1 vl23 hs9 hd9 hv hr hF s
     obtain ⟨b15,hb15⟩:∃ b,vl23 10=.pointer (some ⟨b,0,none⟩):=hF 10 (by kernel_rfl)
     replace h:=j5 (ops:=_) [(85,.agg (#[vz])),(86,.agg ((av ((ae M).getD j ap)))),(87,v74),(88,.pointer (some (aF v74 (0*33)))),(89,.pointer (some (aF v74 (0*33+0)))),(90,.int .i64 ((ae Lz).getD 0 ap).1),(91,.tuple #[.agg #[.slice (mq (vl23 6)) M.length (mr (vl23 6))],.int .i64 (kN Lz ((ae M).getD j ap) ((ae Lz).getD 0 ap).1)]),(84,.tuple #[.agg #[.slice (mq (vl23 6)) M.length (mr (vl23 6))],.int .i64 (kN Lz ((ae M).getD j ap) ((ae Lz).getD 0 ap).1)]),(92,.agg #[.slice (mq (vl23 6)) M.length (mr (vl23 6))]),(93,.int .i64 (kN Lz ((ae M).getD j ap) ((ae Lz).getD 0 ap).1)),(15,.pointer (some ⟨b15,0,none⟩)),(16,.int .i64 (kN Lz ((ae M).getD j ap) ((ae Lz).getD 0 ap).1))] h hs9 hd9 hr ⟨(hv 0 85 rfl).trans (hF 0 (by kernel_rfl)),(hv 1 86 rfl).trans (hF 1 (by kernel_rfl)),(hv 2 87 rfl).trans (hF 2 (by kernel_rfl)),(hv 3 88 rfl).trans (hF 3 (by kernel_rfl)),(hv 4 89 rfl).trans (hF 4 (by kernel_rfl)),(hv 5 90 rfl).trans (hF 5 (by kernel_rfl)),(hv 6 91 rfl).trans (hF 6 (by kernel_rfl)),(hv 7 84 rfl).trans (hF 7 (by kernel_rfl)),(hv 8 92 rfl).trans (hF 8 (by kernel_rfl)),(hv 9 93 rfl).trans (hF 9 (by kernel_rfl)),(hv 10 15 rfl).trans hb15,(hv 12 16 rfl).trans (hF 12 (by kernel_rfl)),trivial⟩ (by kernel_rfl)
     replace s:St w [.blk (wH (vl23 10)) (.cells (#[.slice (mq (vl23 6)) M.length (mr (vl23 6))]) 24),.sl v74 28 33 (ae Lz).length (am (ae Lz)),.blk b12 (.cells (#[vz]) 24),(.grp kz (fun w9=>fU vm M w9→cI w9 vz Lz)),.blk b11 (.cells ((av ((ae M).getD j ap))) 28),.sl v60 28 33 (ae M).length (am (ae M)),(.grp kc (fun w9=>cI w9 vm M→cI w9 vc Lc)),.sl v34 28 33 (ae M).length (am (ae M)),.blk b5 (.cells (#[vc]) 24),.blk b3 (.cells (#[va]) 24),(.grp ka (fun w9=>fU vm M w9→cI w9 va La)),.sl vm 42 68 M.length (aD M),.blk b1 (.cells (#[vm]) 24)] _:=s
     rw [hb15] at s
     replace s:St w [.blk b15 (.cells (#[.slice (mq (vl23 6)) M.length (mr (vl23 6))]) 24),.sl v74 28 33 (ae Lz).length (am (ae Lz)),.blk b12 (.cells (#[vz]) 24),(.grp kz (fun w9=>fU vm M w9→cI w9 vz Lz)),.blk b11 (.cells ((av ((ae M).getD j ap))) 28),.sl v60 28 33 (ae M).length (am (ae M)),(.grp kc (fun w9=>cI w9 vm M→cI w9 vc Lc)),.sl v34 28 33 (ae M).length (am (ae M)),.blk b5 (.cells (#[vc]) 24),.blk b3 (.cells (#[va]) 24),(.grp ka (fun w9=>fU vm M w9→cI w9 va La)),.sl vm 42 68 M.length (aD M),.blk b1 (.cells (#[vm]) 24)] _:=s
     refine hK29 _ _ ?_
     refine ak fun K30 hK30=>?_
     refine ag ?_
     refine ac h (ah (h.ev rfl)) rfl ?_;intro f h
     refine ac h (aE (.bool false) (cJ (h.ev rfl) (h.ev rfl)) (by rw [hbk.1];rfl)) rfl ?_;intro f h
     refine ac h (ah (h.ev rfl)) rfl ?_;intro f h
     refine a2 h rfl rfl rfl ?_
     refine ac h (aq ck (h.ev rfl)) rfl ?_;intro f h
     refine a2 h rfl rfl rfl ?_
     refine aC (V:=.slice (mq (vl23 6)) M.length (mr (vl23 6))) (ax (bq.of_own s 0 rfl) 0 rfl) h c3 rfl rfl ?_;intro f h
     refine a2 h rfl rfl rfl ?_
     refine ac h (i4 Tryz.underlying22 (h.ev rfl)) rfl ?_;intro f h
     refine a2 h rfl rfl rfl ?_
     refine ac h (aq ck (h.ev rfl)) rfl ?_;intro f h
     refine a2 h rfl rfl rfl ?_
     refine aC (V:=vm) (ax (bq.of_own s 12 rfl) 0 rfl) h c3 rfl rfl ?_;intro f h
     refine a2 h rfl rfl rfl ?_
     refine da 11 h s Tryz.underlying22 rfl rfl rfl ?_;intro f h
     refine a2 h rfl rfl rfl ?_
     refine ac h (aE (.bool false) (cJ (h.ev rfl) (h.ev rfl)) (by simp)) rfl ?_;intro f h
     refine ac h (aL (h.ev rfl) (h.ev rfl)) rfl ?_;intro f h
     refine ai ?_
     refine hK30 _ _ ?_
     refine wpIn_cond_false (h.ev rfl) ?_
     refine wpIn_skip ?_
     refine bH ?_
     refine hK23 _ _ ?_
     refine ag ?_
     refine ac h (cp (h.ev rfl) (h.ev rfl) (by omega)) rfl ?_;intro f h
     refine ac h (ah (h.ev rfl)) rfl ?_;intro f h
     refine ai ?_
     refine ca ?_
     exact ⟨_,by omega,⟨j+1,h.only ⟨rfl,rfl,rfl,rfl,rfl,rfl,rfl,aQ rfl (by omega),trivial⟩,St.as (s.pick _ (List.sublist_append_right [_,_,_,_,_] _)) ⟨rfl,rfl,rfl,rfl,rfl,rfl,rfl,rfl,trivial⟩,rfl,by omega⟩⟩
    ·skip
     refine ag ?_
     refine ac h (ah (h.ev rfl)) rfl ?_;intro f h
     refine ac h (aE (.bool false) (cJ (h.ev rfl) (h.ev rfl)) (by rw [hcej];rfl)) rfl ?_;intro f h
     refine ac h (ah (h.ev rfl)) rfl ?_;intro f h
     refine a2 h rfl rfl rfl ?_
     refine ac h (ah (h.ev rfl)) rfl ?_;intro f h
     refine a2 h rfl rfl rfl ?_
     refine da 0 h s Tryz.underlying36 rfl rfl rfl ?_;intro f h
     refine a2 h rfl rfl rfl ?_
     refine ac h (aE (.bool true) (cb (h.ev rfl) (h.ev rfl)) (congrArg Value.bool (decide_eq_true (by have:=of_decide_eq_true z0;omega)))) rfl ?_;intro f h
     refine ac h (aL (h.ev rfl) (h.ev rfl)) rfl ?_;intro f h
     refine ai ?_
     refine hK28 _ _ ?_
     refine wpIn_cond_true (h.ev rfl) ?_
     refine ak fun K31 hK31=>?_
     refine ag ?_
     refine ac h (ah (h.ev rfl)) rfl ?_;intro f h
     refine ac h (aE (.bool true) (cb (h.ev rfl) (h.ev rfl)) (by rw [hcej];rfl)) rfl ?_;intro f h
     refine ac h (aj (h.ev rfl)) rfl ?_;intro f h
     refine ai ?_
     refine hK31 _ _ ?_
     refine wpIn_ret ?_
     refine a8 ?_
     refine bT ?_
     refine a8 ?_
     refine a8 ?_
     refine bT ?_
     refine a8 ?_
     exact bu rfl h s rfl (rfl)
   ·replace hc:=of_decide_eq_false hc
    refine wpIn_exit ?_
    refine bN ?_
    refine bN ?_
    refine cG ?_
    refine hK19 _ _ ?_
    refine ak fun K32 hK32=>?_
    refine ag ?_
    refine ac h (aj (h.ev rfl)) rfl ?_;intro f h
    refine ai ?_
    refine hK32 _ _ ?_
    refine wpIn_ret ?_
    exact bu rfl h s rfl (rfl)
end Go.Proofs.YthggibfkgofncaaGreat
