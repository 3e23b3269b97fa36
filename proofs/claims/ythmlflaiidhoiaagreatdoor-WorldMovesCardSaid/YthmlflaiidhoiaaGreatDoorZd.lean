/- Package node: what its functions answer. -/
import Derived.Test.YthmlflaiidhoiaaGreatDoorCon
set_option linter.unusedVariables false
namespace Go.Proofs.YthmlflaiidhoiaaGreatDoor
open Go.RowKit
theorem kI (m:Mb) (w:World):Calls Tryz.prog 130 [.agg (ar m)].toArray w (cb w (is (.bool (im m)))):=by
 refine bK Tryz.func130 rfl Tryz.ntmps130 rfl λf h s=>qr (aV ((ar m)) h s rfl rfl rfl λf w1 b1 h s=>e9 ac 1 h rfl λf h=>ah ?_)
 refine rs ac 1 h rfl λf h=>ag (ae (aJ.of_own s 0 rfl) 0 (cp _)) h bJ rfl rfl λf h=>lL ac h rfl (λh0 f h=>?_) (λh0 f h=>?_)
 ·refine e9 ac 6 h rfl λf h=>aL3 (av rfl h s rfl (by show _=_;rw [aa0 h0]<;>rfl))
 ·refine am ac 2 h rfl λf h=>cy h rfl (ag (ae (aJ.of_own s 0 rfl) 0 (cp _)) h bJ rfl rfl λf h=>e9 ac 3 h rfl λf h=>aL3 (av rfl h s rfl (by show _=_;rw [ag2 h0]<;>rfl)))
theorem lX  (w:World):Calls Tryz.prog 204 [].toArray w (cb w (is (.agg (ar i1)))):=by
 refine bK Tryz.func204 rfl Tryz.ntmps204 rfl λf h s=>qr (aK (ar bH) h s em rfl rfl λf w1 b0 h s=>nt (qr (ai h (yl tT rfl) rfl λf h=>al 0 h s aQ rfl rfl rfl (aj _) (aj _) (bD _) λw1 s=>nt (aL3 (lH 0 rfl h s aQ rfl rfl (aj _) (rfl))))))
theorem Ps (m:Mb) (no:Int) (w:World):Calls Tryz.prog 131 [.agg (ar m),.int .i64 no].toArray w (cb w (is (.bool (sW m no)))):=by
 refine bK Tryz.func131 rfl Tryz.ntmps131 rfl λf h s=>qr (aV ((ar m)) h s rfl rfl rfl λf w1 b2 h s=>e9 ac 1 h rfl λf h=>ah ?_)
 cases q0:(decide (m=i1):Bool)
 ·skip
  cases q1:(im m:Bool)
  ·refine dJ 14 h (by kernel_rfl) (aT 0 h s aQ rfl rfl (aj _) rfl λf h=>bF h uK (λw9 hE9=>lX w9) rfl rfl λf h=>aF h (bz (.bool false) (ec (x6 _ _) (by kernel_rfl) (by decide) (h.ev rfl) (h.ev rfl) (decide (m=i1)) (lg _ _)) (aH3 Value.bool q0)) rfl λf h=>ay ac 1 h rfl λf h=>bL h rfl (aT 0 h s aQ rfl rfl (aj _) rfl λf h=>bL h rfl (bF h qp (λw9 hE9=>aR (.bool false) (kI m w9) (aH3 Value.bool q1)) rfl rfl λf h=>ay ac 8 h rfl λf h=>bY s λw1 s=>nt (aL3 (av rfl h s rfl (by show _=_;rw [af7 q0 q1]))))))
  ·skip
   refine dJ 14 h (by kernel_rfl) (aT 0 h s aQ rfl rfl (aj _) rfl λf h=>bF h uK (λw9 hE9=>lX w9) rfl rfl λf h=>aF h (bz (.bool false) (ec (x6 _ _) (by kernel_rfl) (by decide) (h.ev rfl) (h.ev rfl) (decide (m=i1)) (lg _ _)) (aH3 Value.bool q0)) rfl λf h=>ay ac 1 h rfl λf h=>bL h rfl (aT 0 h s aQ rfl rfl (aj _) rfl λf h=>bL h rfl (bF h qp (λw9 hE9=>aR (.bool true) (kI m w9) (aH3 Value.bool q1)) rfl rfl λf h=>ay ac 2 h rfl λf h=>bL h rfl (aB (ae (aJ.of_own s 0 rfl) 0 (cp _)) h bJ rfl rfl λf h=>ay ac 1 h rfl λf h=>bL h rfl (MC ac h rfl (λq2 f h=>?_) (λq2 f h=>?_))))))
   ·refine ay ac 3 h rfl λf h=>bY s λw1 s=>nt (aL3 (av rfl h s rfl (by show _=_;rw [T4 q0 q1,q2])))
   ·refine ay ac 3 h rfl λf h=>bY s λw1 s=>nt (aL3 (av rfl h s rfl (by show _=_;rw [T4 q0 q1,q2])))
 ·refine dJ 14 h (by kernel_rfl) (aT 0 h s aQ rfl rfl (aj _) rfl λf h=>bF h uK (λw9 hE9=>lX w9) rfl rfl λf h=>aF h (bz (.bool true) (ec (x6 _ _) (by kernel_rfl) (by decide) (h.ev rfl) (h.ev rfl) (decide (m=i1)) (lg _ _)) (aH3 Value.bool q0)) rfl λf h=>ay ac 11 h rfl λf h=>bY s λw1 s=>nt (aL3 (av rfl h s rfl (by show _=_;rw [ad9 q0]))))
theorem CV (x:Mb) (no:Int) (bx:Nat) (w:World) (hb:gq w bx #[.int .i64 no]):Calls Tryz.prog 299 [.agg (ar x),.pointer (some ⟨bx,0,none⟩)].toArray w (cb w (is (.bool (decide (x.1=no))))):=by
 refine bK Tryz.func299 rfl Tryz.ntmps299 rfl λf h s=>qr (aV ((ar x)) h s rfl rfl rfl λf w1 b2 h s=>e9 ac 1 h rfl λf h=>bU ac 1 h rfl λf h=>ag (ae (aJ.of_own s 0 rfl) 0 (cp _)) h bJ rfl rfl λf h=>ag (V:=.int .i64 no) (ae (aJ.of_tab (hb.keep s.ext)) 0 (rfl)) h bJ rfl rfl λf h=>e9 ac 2 h rfl λf h=>aL3 (av rfl h s rfl (rfl)))
theorem vM (m:Mb) (w:World):Calls Tryz.prog 146 [.agg (ar m)].toArray w (cb w (NQ w 60 (alN m) (alE m))):=by
 refine bK Tryz.func146 rfl Tryz.ntmps146 rfl λf h s=>qr (aV ((ar m)) h s rfl rfl rfl λf w1 b1 h s=>aK (bu bH bH ax ax) h s kJ rfl rfl λf w1 b2 h s=>e9 ac 1 h rfl λf h=>ah (ah ?_))
 refine aw (ak 1 h s aQ rfl rfl (aj _) rfl λf h=>fh h s qp (kI m _) rfl rfl (λh0 f w1 h s=>?_) (λh0 f w1 h s=>?_))
 ·refine e9 ac 1 h rfl λf h=>dG h rfl (qr (ai h (pa Xy) rfl λf h=>al 0 h s dl rfl rfl rfl (aP _ _ _ _) (aP _ _ _ _) (cI (rfl) (rfl)) λw1 s=>e9 ac 1 h rfl λf h=>rt (cc 0 rfl h s dl rfl rfl (aP _ _ _ _) rfl (Jf s (B5 h0).1 (B5 h0).2))))
 ·refine e9 ac 1 h rfl λf h=>nH h rfl (ah (fC 0 5 [[],[],[],[2],[0,1,2,3],[0,1,2,3,4],[0,1,2,3,4,5]] [[],[],[],[],[],[],[]] [] [.v (.agg ((ar m))),.v (.agg (ar i1)),.v (.agg ((ar m))),.r (λv=>[.sl (v 3) 60 33 [m].length (aq [m])]) (λv=>∃ a c,v 3=.slice a [m].length c),.f (λv=>v 4=.agg (bu m i1 (v 3) ax)),.n,.n] _ h s rfl (by kernel_rfl) (by kernel_rfl) (by kernel_rfl) (cm ?_ (cm ?_ (cm ?_ (cm ?_ (cm ?_ (trivial)))))) [0,1,2,3,4] (by kernel_rfl) ?_))
  ·intro f9 w2 vl3 E9 hs9 hd9 hl hF s
   have h:=cq [(1,_)] h hs9 hd9 ⟨fu hl 1 (by kernel_rfl) (h.holds 1 _ rfl),trivial⟩
   refine ak 1 h s aQ rfl rfl (aj _) rfl λf h=>az ⟨_,br 8 h rfl rfl,rfl,s⟩
  ·intro f9 w2 vl3 E9 hs9 hd9 hl hF s
   have h:=ia [] (hs9.trans h.size) (hd9.trans h.defers) (holds_lk trivial)
   refine dF h s uK (lX _) rfl rfl λf w1 h s=>az ⟨_,br 9 h rfl rfl,rfl,s⟩
  ·intro f9 w2 vl3 E9 hs9 hd9 hl hF s
   have h:=cq [(1,_)] h hs9 hd9 ⟨fu hl 1 (by kernel_rfl) (h.holds 1 _ rfl),trivial⟩
   refine ak 1 h s aQ rfl rfl (aj _) rfl λf h=>az ⟨_,br 10 h rfl rfl,rfl,s⟩
  ·intro f9 w2 vl3 E9 hs9 hd9 hl hF s
   have h:=cq [(10,_)] h hs9 hd9 ⟨a7 hl 10 2 (by kernel_rfl) (hF 2 (by decide)),trivial⟩
   refine cf (vs:=[.agg (ar m)]) [.tmp 10] h s aS2 je rfl rfl (rx _) rfl rfl rfl λf w1 v11 h s=>?_
   replace s:=s.resl (m:=[m].length) (ys:=aq [m]) 0 rfl rfl (by rw [j3,fO])
   exact az ⟨_,br 11 h rfl rfl,d5 (s.getSl 0 rfl),s⟩
  ·intro f9 w2 vl3 E9 hs9 hd9 hl hF s
   have h:=cq [(8,_),(9,_),(11,_)] h hs9 hd9 ⟨a7 hl 8 0 (by kernel_rfl) (hF 0 (by decide)),a7 hl 9 1 (by kernel_rfl) (hF 1 (by decide)),ff hl 11 3 (by kernel_rfl) (by kernel_rfl),trivial⟩
   obtain ⟨a9,c9,hv9⟩:=hF 3 (by decide)
   refine ai h (xy Xy (by rw [show vl3 3=_ from hv9];rfl) (by rw [show vl3 3=_ from hv9];rfl) (h.ev rfl) (h.ev rfl) (h.ev rfl)) rfl λf h=>az ⟨_,br 12 h rfl rfl,rfl,s⟩
  intro f w1 vl3 hs9 hd9 hv hr hF s
  replace hv:=λi d h9=>hv i d (show Nat.blt i 5=true from h9)
  replace h:=ew 5 (ops:=_) [(8,_),(9,_),(10,_),(11,(vl3 3)),(12,.agg (bu m i1 (vl3 3) ax))] h hs9 hd9 hr ⟨(hv 0 8 rfl rfl).trans (hF 0 rfl),(hv 1 9 rfl rfl).trans (hF 1 rfl),(hv 2 10 rfl rfl).trans (hF 2 rfl),hv 3 11 rfl rfl,(hv 4 12 rfl rfl).trans (hF 4 rfl),trivial⟩ (by kernel_rfl)
  replace s:St w [.sl (vl3 3) 60 33 [m].length (aq [m]),.blk b2 (.cells (bu bH bH ax ax) 63),.blk b1 (.cells ((ar m)) 60)] _:=s
  refine al 1 h s dl rfl rfl rfl (aP _ _ _ _) (aP _ _ _ _) (cI (bk (s.getSl 0 rfl)) (rfl)) λw1 s=>e9 ac 1 h rfl λf h=>aL3 (cc 1 rfl h s dl rfl rfl (aP _ _ _ _) rfl (Sk (B6 h0).1 (B6 h0).2 (s.pick _ (aG7 _ (aG8 _ (aG8 _ (aJ0 _)))))))
theorem B7 (l:List Mb) (vh:Value) (m:Mb) (B9:List Own) (w0 w:World) (s:St w0 (.sl vh 60 33 (l).length (aq (l))::B9) w):Calls Tryz.prog 272 [vh,.agg (ar m)].toArray w (λe w9=>∃ v9,e=.returned v9/\St w0 (.sl v9 60 33 (wC l m).length (aq (wC l m))::B9) w9):=by
 refine c7 Tryz.func272 rfl Tryz.ntmps272 rfl [(0,vh),(1,.agg (ar m))] (by simp) λf h=>?_
 refine qr (aV ((ar m)) h s rfl rfl rfl λf w1 b3 h s=>e9 ac 1 h rfl λf h=>ah (bU ac 1 h rfl λf h=>eK 1 h s aS2 rfl rfl rfl λf h=>e9 ac 1 h rfl λf h=>bV h rfl (λhc=>?_) (λhc=>?_)))
 ·have h0:l.length=0:=by have:=aG9 hc;omega
  refine qr (ak 0 h s aQ rfl rfl (aj _) rfl λf h=>cf (vs:=[.agg (ar m)]) [.tmp 8] h s aS2 je rfl rfl (rx _) rfl rfl rfl λf w1 v9 h s=>?_)
  replace s:=s.resl (m:=[m].length) (ys:=aq [m]) 0 rfl rfl (by rw [j3,fO])
  refine e9 ac 1 h rfl λf h=>rt (dK rfl h rfl (⟨_,rfl,yz (aa4 h0).symm (s.pick _ (aG7 _ (aG8 _ (aG8 _ (List.Sublist.refl _)))))⟩))
 ·have h0:¬ l.length=0:=by have:=aH0 hc;omega
  refine kt (bE ac 2 h rfl λf h=>aL3 (dK rfl h rfl (⟨_,rfl,yz (TA h0).symm (s.pick _ (aG8 _ (aG7 _ (List.Sublist.refl _))))⟩)))
end Go.Proofs.YthmlflaiidhoiaaGreatDoor
