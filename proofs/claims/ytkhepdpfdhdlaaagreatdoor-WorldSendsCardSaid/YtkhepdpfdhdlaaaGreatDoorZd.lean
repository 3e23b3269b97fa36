/- Package node and what it stands on, so far as it is wanted: what each function answers. -/
import Derived.Test.YtkhepdpfdhdlaaaGreatDoorCon
set_option linter.unusedVariables false
set_option linter.unusedSimpArgs false
set_option linter.unusedSectionVars false
namespace Go.Proofs.YtkhepdpfdhdlaaaGreatDoor
open Go.RowKit
theorem ij (m:Mb) (w:World):Calls Tryz.prog 109 [.agg (az m)].toArray w (bW w (is (.bool (fy m)))):=by
 refine bG Tryz.func109 rfl Tryz.ntmps109 rfl λf h s=>qr (bh ((az m)) h s rfl rfl rfl λf w1 b1 h s=>e9 ac 1 h rfl λf h=>ah ?_)
 refine rs ac 1 h rfl λf h=>ag (ae (aJ.of_own s 0 rfl) 0 (cg _)) h bs rfl rfl λf h=>kB ac h rfl (λh0 f h=>?_) (λh0 f h=>?_)
 ·refine e9 ac 6 h rfl λf h=>Y8 (au rfl h s rfl (by show _=_;rw [SD h0]<;>rfl))
 ·refine ap ac 2 h rfl λf h=>bX h rfl (ag (ae (aJ.of_own s 0 rfl) 0 (cg _)) h bs rfl rfl λf h=>e9 ac 3 h rfl λf h=>Y8 (au rfl h s rfl (by show _=_;rw [Sp h0]<;>rfl)))
theorem lK  (w:World):Calls Tryz.prog 184 [].toArray w (bW w (is (.agg (az fc)))):=by
 refine bG Tryz.func184 rfl Tryz.ntmps184 rfl λf h s=>qr (aS (az bE) h s gI rfl rfl λf w1 b0 h s=>nt (qr (ai h (tk AU rfl) rfl λf h=>ak 0 h s bH rfl rfl rfl (am _) (am _) (cz _) λw1 s=>nt (Y8 (nq 0 rfl h s bH rfl rfl (am _) (rfl))))))
theorem IS (m:Mb) (no:Int) (w:World):Calls Tryz.prog 110 [.agg (az m),.int .i64 no].toArray w (bW w (is (.bool (oS m no)))):=by
 refine bG Tryz.func110 rfl Tryz.ntmps110 rfl λf h s=>qr (bh ((az m)) h s rfl rfl rfl λf w1 b2 h s=>e9 ac 1 h rfl λf h=>ah ?_)
 cases q0:(decide (m=fc):Bool)
 ·skip
  cases q1:(fy m:Bool)
  ·refine dF 14 h (by kernel_rfl) (ba 0 h s bH rfl rfl (am _) rfl λf h=>bj h sU (λw9 hE9=>lK w9) rfl rfl λf h=>ar h (bq (.bool false) (fj (LU _ _) (by kernel_rfl) (by decide) (h.ev rfl) (h.ev rfl) (decide (m=fc)) (tI _ _)) (Yu Value.bool q0)) rfl λf h=>aq ac 1 h rfl λf h=>a6 h rfl (ba 0 h s bH rfl rfl (am _) rfl λf h=>a6 h rfl (bj h mW (λw9 hE9=>aX (.bool false) (ij m w9) (Yu Value.bool q1)) rfl rfl λf h=>aq ac 8 h rfl λf h=>bQ s λw1 s=>nt (Y8 (au rfl h s rfl (by show _=_;rw [TG q0 q1]))))))
  ·skip
   refine dF 14 h (by kernel_rfl) (ba 0 h s bH rfl rfl (am _) rfl λf h=>bj h sU (λw9 hE9=>lK w9) rfl rfl λf h=>ar h (bq (.bool false) (fj (LU _ _) (by kernel_rfl) (by decide) (h.ev rfl) (h.ev rfl) (decide (m=fc)) (tI _ _)) (Yu Value.bool q0)) rfl λf h=>aq ac 1 h rfl λf h=>a6 h rfl (ba 0 h s bH rfl rfl (am _) rfl λf h=>a6 h rfl (bj h mW (λw9 hE9=>aX (.bool true) (ij m w9) (Yu Value.bool q1)) rfl rfl λf h=>aq ac 2 h rfl λf h=>a6 h rfl (ao (ae (aJ.of_own s 0 rfl) 0 (cg _)) h bs rfl rfl λf h=>aq ac 1 h rfl λf h=>a6 h rfl (IV ac h rfl (λq2 f h=>?_) (λq2 f h=>?_))))))
   ·refine aq ac 3 h rfl λf h=>bQ s λw1 s=>nt (Y8 (au rfl h s rfl (by show _=_;rw [Mc q0 q1,q2])))
   ·refine aq ac 3 h rfl λf h=>bQ s λw1 s=>nt (Y8 (au rfl h s rfl (by show _=_;rw [Mc q0 q1,q2])))
 ·refine dF 14 h (by kernel_rfl) (ba 0 h s bH rfl rfl (am _) rfl λf h=>bj h sU (λw9 hE9=>lK w9) rfl rfl λf h=>ar h (bq (.bool true) (fj (LU _ _) (by kernel_rfl) (by decide) (h.ev rfl) (h.ev rfl) (decide (m=fc)) (tI _ _)) (Yu Value.bool q0)) rfl λf h=>aq ac 11 h rfl λf h=>bQ s λw1 s=>nt (Y8 (au rfl h s rfl (by show _=_;rw [Ru q0]))))
theorem yb (x:Mb) (no:Int) (bx:Nat) (w:World) (hb:iF w bx #[.int .i64 no]):Calls Tryz.prog 293 [.agg (az x),.pointer (some ⟨bx,0,none⟩)].toArray w (bW w (is (.bool (decide (x.1=no))))):=by
 refine bG Tryz.func293 rfl Tryz.ntmps293 rfl λf h s=>qr (bh ((az x)) h s rfl rfl rfl λf w1 b2 h s=>e9 ac 1 h rfl λf h=>cu ac 1 h rfl λf h=>ag (ae (aJ.of_own s 0 rfl) 0 (cg _)) h bs rfl rfl λf h=>ag (V:=.int .i64 no) (ae (aJ.of_tab (hb.keep s.ext)) 0 (rfl)) h bs rfl rfl λf h=>e9 ac 2 h rfl λf h=>Y8 (au rfl h s rfl (rfl)))
theorem qW (m:Mb) (w:World):Calls Tryz.prog 125 [.agg (az m)].toArray w (bW w (JF w 69 (SV m) (Rv m))):=by
 refine bG Tryz.func125 rfl Tryz.ntmps125 rfl λf h s=>qr (bh ((az m)) h s rfl rfl rfl λf w1 b1 h s=>aS (bJ bE bE aj aj) h s uG rfl rfl λf w1 b2 h s=>e9 ac 1 h rfl λf h=>ah (ah ?_))
 refine aG (al 1 h s bH rfl rfl (am _) rfl λf h=>eK h s mW (ij m _) rfl rfl (λh0 f w1 h s=>?_) (λh0 f w1 h s=>?_))
 ·refine e9 ac 1 h rfl λf h=>dQ h rfl (qr (ai h (ua SJ) rfl λf h=>ak 0 h s fU rfl rfl rfl (bN _ _ _ _) (bN _ _ _ _) (ed (rfl) (rfl)) λw1 s=>e9 ac 1 h rfl λf h=>rt (ct 0 rfl h s fU rfl rfl (bN _ _ _ _) rfl (Qm s (xH h0).1 (xH h0).2))))
 ·refine e9 ac 1 h rfl λf h=>qC h rfl (ah (eu 0 5 [[],[],[],[2],[0,1,2,3],[0,1,2,3,4],[0,1,2,3,4,5]] [[],[],[],[],[],[],[]] [] [.v (.agg ((az m))),.v (.agg (az fc)),.v (.agg ((az m))),.r (λv=>[.sl (v 3) 69 33 [m].length (aw [m])]) (λv=>∃ a c,v 3=.slice a [m].length c),.f (λv=>v 4=.agg (bJ m fc (v 3) aj)),.n,.n] _ h s rfl (by kernel_rfl) (by kernel_rfl) (by kernel_rfl) (cp ?_ (cp ?_ (cp ?_ (cp ?_ (cp ?_ (trivial)))))) [0,1,2,3,4] (by kernel_rfl) ?_))
  ·intro f9 w2 vl3 E9 hs9 hd9 hl hF s
   have h:=cG [(1,_)] h hs9 hd9 ⟨fh hl 1 (by kernel_rfl) (h.holds 1 _ rfl),trivial⟩
   refine al 1 h s bH rfl rfl (am _) rfl λf h=>ay ⟨_,bk 8 h rfl rfl,rfl,s⟩
  ·intro f9 w2 vl3 E9 hs9 hd9 hl hF s
   have h:=cU [] (hs9.trans h.size) (hd9.trans h.defers) (holds_lk trivial)
   refine da h s sU (lK _) rfl rfl λf w1 h s=>ay ⟨_,bk 9 h rfl rfl,rfl,s⟩
  ·intro f9 w2 vl3 E9 hs9 hd9 hl hF s
   have h:=cG [(1,_)] h hs9 hd9 ⟨fh hl 1 (by kernel_rfl) (h.holds 1 _ rfl),trivial⟩
   refine al 1 h s bH rfl rfl (am _) rfl λf h=>ay ⟨_,bk 10 h rfl rfl,rfl,s⟩
  ·intro f9 w2 vl3 E9 hs9 hd9 hl hF s
   have h:=cG [(10,_)] h hs9 hd9 ⟨bg hl 10 2 (by kernel_rfl) (hF 2 (by decide)),trivial⟩
   refine cT (vs:=[.agg (az m)]) [.tmp 10] h s aa8 ny rfl rfl (Fu _) rfl rfl rfl λf w1 v11 h s=>?_
   replace s:=s.resl (m:=[m].length) (ys:=aw [m]) 0 rfl rfl (by rw [zV,gU])
   exact ay ⟨_,bk 11 h rfl rfl,dA (s.getSl 0 rfl),s⟩
  ·intro f9 w2 vl3 E9 hs9 hd9 hl hF s
   have e8:f9.tmps.getD 8 undef=.agg ((az m)):=(du hl 8 0 (by kernel_rfl) (by kernel_rfl)).trans (hF 0 (by decide))
   have e9:f9.tmps.getD 9 undef=.agg (az fc):=(du hl 9 1 (by kernel_rfl) (by kernel_rfl)).trans (hF 1 (by decide))
   have e11:f9.tmps.getD 11 undef=(vl3 3):=du hl 11 3 (by kernel_rfl) (by kernel_rfl)
   have h:=cU [(8,.agg ((az m))),(9,.agg (az fc)),(11,(vl3 3))] (hs9.trans h.size) (hd9.trans h.defers) (holds_lk ⟨e8,e9,e11,trivial⟩)
   obtain ⟨a9,c9,hv9⟩:=hF 3 (by decide)
   refine ai h (t6 SJ (by rw [show vl3 3=_ from hv9];rfl) (by rw [show vl3 3=_ from hv9];rfl) (h.ev rfl) (h.ev rfl) (h.ev rfl)) rfl λf h=>ay ⟨_,bk 12 h rfl rfl,rfl,s⟩
  intro f w1 vl3 hs9 hd9 hv hr hF s
  replace hv:=λi d h9=>hv i d (show Nat.blt i 5=true from h9)
  replace h:=dN 5 (ops:=_) [(8,_),(9,_),(10,_),(11,(vl3 3)),(12,.agg (bJ m fc (vl3 3) aj))] h hs9 hd9 hr ⟨(hv 0 8 rfl rfl).trans (hF 0 rfl),(hv 1 9 rfl rfl).trans (hF 1 rfl),(hv 2 10 rfl rfl).trans (hF 2 rfl),hv 3 11 rfl rfl,(hv 4 12 rfl rfl).trans (hF 4 rfl),trivial⟩ (by kernel_rfl)
  replace s:St w [.sl (vl3 3) 69 33 [m].length (aw [m]),.blk b2 (.cells (bJ bE bE aj aj) 72),.blk b1 (.cells ((az m)) 69)] _:=s
  refine ak 1 h s fU rfl rfl rfl (bN _ _ _ _) (bN _ _ _ _) (ed (bA (s.getSl 0 rfl)) (rfl)) λw1 s=>e9 ac 1 h rfl λf h=>Y8 (ct 1 rfl h s fU rfl rfl (bN _ _ _ _) rfl (KT (wT h0).1 (wT h0).2 (s.pick _ (Yo _ (Yp _ (Yp _ (YL _)))))))
end Go.Proofs.YtkhepdpfdhdlaaaGreatDoor
