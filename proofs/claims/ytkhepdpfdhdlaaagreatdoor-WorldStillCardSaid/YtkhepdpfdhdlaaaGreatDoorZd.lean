/- Package node and what it stands on, so far as it is wanted: what each function answers. -/
import Derived.Test.YtkhepdpfdhdlaaaGreatDoorCon
set_option linter.unusedVariables false
set_option linter.unusedSimpArgs false
set_option linter.unusedSectionVars false
namespace Go.Proofs.YtkhepdpfdhdlaaaGreatDoor
open Go.RowKit
theorem iF (m:Mb) (w:World):Calls Tryz.prog 109 [.agg (ay m)].toArray w (cd w (is (.bool (gb m)))):=by
 refine bN Tryz.func109 rfl Tryz.ntmps109 rfl λf h s=>qr (aZ ((ay m)) h s rfl rfl rfl λf w1 b1 h s=>e9 ac 1 h rfl λf h=>ah ?_)
 refine rs ac 1 h rfl λf h=>ag (ae (aF.of_own s 0 rfl) 0 (cf _)) h bu rfl rfl λf h=>iV ac h rfl (λh0 f h=>?_) (λh0 f h=>?_)
 ·refine e9 ac 6 h rfl λf h=>av8 (aA rfl h s rfl (by show _=_;rw [Zb h0]<;>rfl))
 ·refine al ac 2 h rfl λf h=>bF h rfl (ag (ae (aF.of_own s 0 rfl) 0 (cf _)) h bu rfl rfl λf h=>e9 ac 3 h rfl λf h=>av8 (aA rfl h s rfl (by show _=_;rw [Yx h0]<;>rfl)))
theorem f8  (w:World):Calls Tryz.prog 184 [].toArray w (cd w (is (.agg (ay fe)))):=by
 refine bN Tryz.func184 rfl Tryz.ntmps184 rfl λf h s=>qr (aO (ay bz) h s eV rfl rfl λf w1 b0 h s=>nt (qr (am h (nY AK rfl) rfl λf h=>aj 0 h s aY rfl rfl rfl (ai _) (ai _) (bI _) λw1 s=>nt (av8 (iP 0 rfl h s aY rfl rfl (ai _) (rfl))))))
theorem NO (m:Mb) (no:Int) (w:World):Calls Tryz.prog 110 [.agg (ay m),.int .i64 no].toArray w (cd w (is (.bool (sC m no)))):=by
 refine bN Tryz.func110 rfl Tryz.ntmps110 rfl λf h s=>qr (aZ ((ay m)) h s rfl rfl rfl λf w1 b2 h s=>e9 ac 1 h rfl λf h=>ah ?_)
 cases q0:(decide (m=fe):Bool)
 ·skip
  cases q1:(gb m:Bool)
  ·refine cQ 14 h (by kernel_rfl) (aX 0 h s aY rfl rfl (ai _) rfl λf h=>bj h jk (λw9 hE9=>f8 w9) rfl rfl λf h=>av h (a8 (.bool false) (dS (uW _ _) (by kernel_rfl) (by decide) (h.ev rfl) (h.ev rfl) (decide (m=fe)) (jC _ _)) (ar8 Value.bool q0)) rfl λf h=>ar ac 1 h rfl λf h=>bD h rfl (aX 0 h s aY rfl rfl (ai _) rfl λf h=>bD h rfl (bj h mB (λw9 hE9=>a6 (.bool false) (iF m w9) (ar8 Value.bool q1)) rfl rfl λf h=>ar ac 8 h rfl λf h=>bK s λw1 s=>nt (av8 (aA rfl h s rfl (by show _=_;rw [Wz q0 q1]))))))
  ·skip
   refine cQ 14 h (by kernel_rfl) (aX 0 h s aY rfl rfl (ai _) rfl λf h=>bj h jk (λw9 hE9=>f8 w9) rfl rfl λf h=>av h (a8 (.bool false) (dS (uW _ _) (by kernel_rfl) (by decide) (h.ev rfl) (h.ev rfl) (decide (m=fe)) (jC _ _)) (ar8 Value.bool q0)) rfl λf h=>ar ac 1 h rfl λf h=>bD h rfl (aX 0 h s aY rfl rfl (ai _) rfl λf h=>bD h rfl (bj h mB (λw9 hE9=>a6 (.bool true) (iF m w9) (ar8 Value.bool q1)) rfl rfl λf h=>ar ac 2 h rfl λf h=>bD h rfl (ao (ae (aF.of_own s 0 rfl) 0 (cf _)) h bu rfl rfl λf h=>ar ac 1 h rfl λf h=>bD h rfl (Ko ac h rfl (λq2 f h=>?_) (λq2 f h=>?_))))))
   ·refine ar ac 3 h rfl λf h=>bK s λw1 s=>nt (av8 (aA rfl h s rfl (by show _=_;rw [RD q0 q1,q2])))
   ·refine ar ac 3 h rfl λf h=>bK s λw1 s=>nt (av8 (aA rfl h s rfl (by show _=_;rw [RD q0 q1,q2])))
 ·refine cQ 14 h (by kernel_rfl) (aX 0 h s aY rfl rfl (ai _) rfl λf h=>bj h jk (λw9 hE9=>f8 w9) rfl rfl λf h=>av h (a8 (.bool true) (dS (uW _ _) (by kernel_rfl) (by decide) (h.ev rfl) (h.ev rfl) (decide (m=fe)) (jC _ _)) (ar8 Value.bool q0)) rfl λf h=>ar ac 11 h rfl λf h=>bK s λw1 s=>nt (av8 (aA rfl h s rfl (by show _=_;rw [Wi q0]))))
theorem BF (x:Mb) (no:Int) (bx:Nat) (w:World) (hb:iX w bx #[.int .i64 no]):Calls Tryz.prog 293 [.agg (ay x),.pointer (some ⟨bx,0,none⟩)].toArray w (cd w (is (.bool (decide (x.1=no))))):=by
 refine bN Tryz.func293 rfl Tryz.ntmps293 rfl λf h s=>qr (aZ ((ay x)) h s rfl rfl rfl λf w1 b2 h s=>e9 ac 1 h rfl λf h=>cw ac 1 h rfl λf h=>ag (ae (aF.of_own s 0 rfl) 0 (cf _)) h bu rfl rfl λf h=>ag (V:=.int .i64 no) (ae (aF.of_tab (hb.keep s.ext)) 0 (rfl)) h bu rfl rfl λf h=>e9 ac 2 h rfl λf h=>av8 (aA rfl h s rfl (rfl)))
theorem tZ (m:Mb) (w:World):Calls Tryz.prog 125 [.agg (ay m)].toArray w (cd w (BR w 69 (Wc m) (Y9 m))):=by
 refine bN Tryz.func125 rfl Tryz.ntmps125 rfl λf h s=>qr (aZ ((ay m)) h s rfl rfl rfl λf w1 b1 h s=>aO (aP bz bz au au) h s jJ rfl rfl λf w1 b2 h s=>e9 ac 1 h rfl λf h=>ah (ah ?_))
 refine aG (ak 1 h s aY rfl rfl (ai _) rfl λf h=>eC h s mB (iF m _) rfl rfl (λh0 f w1 h s=>?_) (λh0 f w1 h s=>?_))
 ·refine e9 ac 1 h rfl λf h=>dw h rfl (qr (am h (fM Cg) rfl λf h=>aj 0 h s bS rfl rfl rfl (aq _ _ _ _) (aq _ _ _ _) (bP (rfl) (rfl)) λw1 s=>e9 ac 1 h rfl λf h=>rt (bL 0 rfl h s bS rfl rfl (aq _ _ _ _) rfl (pi s (zl h0).1 (zl h0).2))))
 ·refine e9 ac 1 h rfl λf h=>mQ h rfl (ah (fH 0 5 [[],[],[],[2],[0,1,2,3],[0,1,2,3,4],[0,1,2,3,4,5]] [[],[],[],[],[],[],[]] [] [.v (.agg ((ay m))),.v (.agg (ay fe)),.v (.agg ((ay m))),.r (λv=>[.sl (v 3) 69 33 [m].length (ap [m])]) (λv=>∃ a c,v 3=.slice a [m].length c),.f (λv=>v 4=.agg (aP m fe (v 3) au)),.n,.n] _ h s rfl (by kernel_rfl) (by kernel_rfl) (by kernel_rfl) (bW ?_ (bW ?_ (bW ?_ (bW ?_ (bW ?_ (trivial)))))) [0,1,2,3,4] (by kernel_rfl) ?_))
  ·intro f9 w2 vl3 E9 hs9 hd9 hl hF s
   have h:=cb [(1,_)] h hs9 hd9 ⟨d5 hl 1 (by kernel_rfl) (h.holds 1 _ rfl),trivial⟩
   refine ak 1 h s aY rfl rfl (ai _) rfl λf h=>aw ⟨_,aV 8 h rfl rfl,rfl,s⟩
  ·intro f9 w2 vl3 E9 hs9 hd9 hl hF s
   have h:=dy [] (hs9.trans h.size) (hd9.trans h.defers) (holds_lk trivial)
   refine dM h s jk (f8 _) rfl rfl λf w1 h s=>aw ⟨_,aV 9 h rfl rfl,rfl,s⟩
  ·intro f9 w2 vl3 E9 hs9 hd9 hl hF s
   have h:=cb [(1,_)] h hs9 hd9 ⟨d5 hl 1 (by kernel_rfl) (h.holds 1 _ rfl),trivial⟩
   refine ak 1 h s aY rfl rfl (ai _) rfl λf h=>aw ⟨_,aV 10 h rfl rfl,rfl,s⟩
  ·intro f9 w2 vl3 E9 hs9 hd9 hl hF s
   have h:=cb [(10,_)] h hs9 hd9 ⟨aS hl 10 2 (by kernel_rfl) (hF 2 (by decide)),trivial⟩
   refine cU (vs:=[.agg (ay m)]) [.tmp 10] h s aD1 js rfl rfl (yf _) rfl rfl rfl λf w1 v11 h s=>?_
   replace s:=s.resl (m:=[m].length) (ys:=ap [m]) 0 rfl rfl (by rw [oM,ic])
   exact aw ⟨_,aV 11 h rfl rfl,cP (s.getSl 0 rfl),s⟩
  ·intro f9 w2 vl3 E9 hs9 hd9 hl hF s
   have e8:f9.tmps.getD 8 undef=.agg ((ay m)):=(dO hl 8 0 (by kernel_rfl) (by kernel_rfl)).trans (hF 0 (by decide))
   have e9:f9.tmps.getD 9 undef=.agg (ay fe):=(dO hl 9 1 (by kernel_rfl) (by kernel_rfl)).trans (hF 1 (by decide))
   have e11:f9.tmps.getD 11 undef=(vl3 3):=dO hl 11 3 (by kernel_rfl) (by kernel_rfl)
   have h:=dy [(8,.agg ((ay m))),(9,.agg (ay fe)),(11,(vl3 3))] (hs9.trans h.size) (hd9.trans h.defers) (holds_lk ⟨e8,e9,e11,trivial⟩)
   obtain ⟨a9,c9,hv9⟩:=hF 3 (by decide)
   refine am h (u6 Cg (by rw [show vl3 3=_ from hv9];rfl) (by rw [show vl3 3=_ from hv9];rfl) (h.ev rfl) (h.ev rfl) (h.ev rfl)) rfl λf h=>aw ⟨_,aV 12 h rfl rfl,rfl,s⟩
  intro f w1 vl3 hs9 hd9 hv hr hF s
  replace hv:=λi d h9=>hv i d (show Nat.blt i 5=true from h9)
  replace h:=eI 5 (ops:=_) [(8,_),(9,_),(10,_),(11,(vl3 3)),(12,.agg (aP m fe (vl3 3) au))] h hs9 hd9 hr ⟨(hv 0 8 rfl rfl).trans (hF 0 rfl),(hv 1 9 rfl rfl).trans (hF 1 rfl),(hv 2 10 rfl rfl).trans (hF 2 rfl),hv 3 11 rfl rfl,(hv 4 12 rfl rfl).trans (hF 4 rfl),trivial⟩ (by kernel_rfl)
  replace s:St w [.sl (vl3 3) 69 33 [m].length (ap [m]),.blk b2 (.cells (aP bz bz au au) 72),.blk b1 (.cells ((ay m)) 69)] _:=s
  refine aj 1 h s bS rfl rfl rfl (aq _ _ _ _) (aq _ _ _ _) (bP (aT (s.getSl 0 rfl)) (rfl)) λw1 s=>e9 ac 1 h rfl λf h=>av8 (bL 1 rfl h s bS rfl rfl (aq _ _ _ _) rfl (NI (yW h0).1 (yW h0).2 (s.pick _ (ar2 _ (ar3 _ (ar3 _ (at5 _)))))))
theorem py (l:List Mb) (vh:Value) (m:Mb) (B9:List Own) (w0 w:World) (s:St w0 (.sl vh 69 33 (l).length (ap (l))::B9) w):Calls Tryz.prog 266 [vh,.agg (ay m)].toArray w (λe w9=>∃ v9,e=.returned v9/\St w0 (.sl v9 69 33 (o7 l m).length (ap (o7 l m))::B9) w9):=by
 refine cO Tryz.func266 rfl Tryz.ntmps266 rfl [(0,vh),(1,.agg (ay m))] (by simp) λf h=>?_
 refine qr (aZ ((ay m)) h s rfl rfl rfl λf w1 b3 h s=>e9 ac 1 h rfl λf h=>ah (cw ac 1 h rfl λf h=>f7 1 h s aD1 rfl rfl rfl λf h=>e9 ac 1 h rfl λf h=>cr h rfl (λhc=>?_) (λhc=>?_)))
 ·have h0:l.length=0:=by have:=ar4 hc;omega
  refine qr (ak 0 h s aY rfl rfl (ai _) rfl λf h=>cU (vs:=[.agg (ay m)]) [.tmp 8] h s aD1 js rfl rfl (yf _) rfl rfl rfl λf w1 v9 h s=>?_)
  replace s:=s.resl (m:=[m].length) (ys:=ap [m]) 0 rfl rfl (by rw [oM,ic])
  refine e9 ac 1 h rfl λf h=>rt (dG rfl h rfl (⟨_,rfl,vB (ET h0).symm (s.pick _ (ar2 _ (ar3 _ (ar3 _ (List.Sublist.refl _)))))⟩))
 ·have h0:¬ l.length=0:=by have:=ar5 hc;omega
  refine kt (bJ ac 2 h rfl λf h=>av8 (dG rfl h rfl (⟨_,rfl,vB (zn h0).symm (s.pick _ (ar3 _ (ar2 _ (List.Sublist.refl _))))⟩)))
theorem Og (no:Int) (a9:Option Addr) (n9 c9:Nat) (B9:List Own) (w0 w:World) (s:St w0 B9 w):Calls Tryz.prog 271 [.int .i64 no,.slice a9 n9 c9].toArray w (λe w9=>∃ r,e=.returned r/\∃ bs bn,r=.func (.func 306) #[] #[.pointer (some ⟨bs,0,none⟩),.pointer (some ⟨bn,0,none⟩)]/\St w0 (.blk bs (.cells #[.slice a9 n9 c9] 70)::.blk bn (.cells #[.int .i64 no] 3)::B9) w9):=by
 refine cO Tryz.func271 rfl Tryz.ntmps271 rfl [(0,.int .i64 no),(1,.slice a9 n9 c9)] (by simp) λf h=>?_
 refine qr (aZ (#[.int .i64 no]) h s rfl rfl rfl λf w1 b2 h s=>aZ (#[.slice a9 n9 c9]) h s rfl rfl rfl λf w1 b3 h s=>e9 ac 1 h rfl λf h=>qr (am h (dF [.pointer (some ⟨b3,0,none⟩),.pointer (some ⟨b2,0,none⟩)] (kQ h rfl)) rfl λf h=>e9 ac 1 h rfl λf h=>av8 (dG rfl h rfl (⟨_,rfl,b3,b2,rfl,s⟩))))
theorem Gg (no:Int) (l:List Mb) (hln:l.length<=1000) (vh:Value) (lp bs bn:Nat) (q:Nat->Bool) (GG:Nat->Own->Prop) (g0:Own) (w0 w:World) (s:St w0 [.blk bs (.cells #[vh] 70),.blk bn (.cells #[.int .i64 no] 3),.sl vh 69 33 l.length (ap l),g0] w) (hg0:GG 0 g0) (hY:∀ (d:Nat) (B9:List Own) (w9:World) (i:Nat) (g:Own),d<(eB no l).length->(∀ j,j<d->q j=false)->GG d g->St w0 B9 w9->B9[i]? = some g->lf Tryz.prog lp [Value.agg (ay ((eB no l).getD d bz))].toArray w9 (λv w2=>v=.bool (!q d)/\∃ g',GG (d+1) g'/\St w0 (B9.set i g') w2)):Calls Tryz.prog 306 [.func (.yield lp) #[] #[],.pointer (some ⟨bs,0,none⟩),.pointer (some ⟨bn,0,none⟩)].toArray w (λe w9=>(∃ v,e=.returned v)/\∃ d g,GG d g/\St w0 ([.blk bs (.cells #[vh] 70),.blk bn (.cells #[.int .i64 no] 3),.sl vh 69 33 l.length (ap l)]++[g]) w9/\d<=(eB no l).length/\(∀ j,j+1<d->q j=false)/\(lq q d=false->d=(eB no l).length)):=by
 refine cO Tryz.func306 rfl Tryz.ntmps306 rfl [(0,.func (.yield lp) #[] #[]),(1,.pointer (some ⟨bs,0,none⟩)),(2,.pointer (some ⟨bn,0,none⟩))] (by simp) λf h=>?_
 refine qr (cK 0 h s c7 rfl rfl (rfl) rfl λf h=>f7 2 h s aD1 rfl rfl rfl λf h=>e9 ac 1 h rfl λf h=>av9 (aw1 (λnn aa ww=>∃ d:Nat,∃ gg:Own,Sl 23 aa [(0,.func (.yield lp) #[] #[]),(1,.pointer (some ⟨bs,0,none⟩)),(2,.pointer (some ⟨bn,0,none⟩)),(6,vh),(7,.int .i64 (l.length:Int)),(8,.int .i64 (d:Int))]/\St w0 [.blk bs (.cells (#[vh]) 70),.blk bn (.cells (#[.int .i64 no]) 3),.sl vh 69 33 l.length (ap l),(gg)] ww/\nn=l.length - d/\d<=(eB no l).length/\GG d gg/\∀ j,j<d->q j=false) (l.length - (0)) ⟨0,g0,h.only ⟨rfl,rfl,rfl,rfl,rfl,aD rfl (by omega),trivial⟩,s.as ⟨rfl,rfl,rfl,rfl,trivial⟩,rfl,at8 _,hg0,λj hj=>az2 hj (ax1 _)⟩ ?_))
 rintro _ f w1 ⟨d,gg,h,s,hnn,hp0,hp1,hp2⟩
 refine bJ ac 1 h rfl λf h=>ah (dA h rfl (λhc=>?_) (λhc=>?_))
 ·refine kt (ah (av9 (qr ?_)))
  have hdl:d<l.length:=by omega
  refine am h (bg (br.of_own (s.getSl 2 rfl)) (d) aD1 ed (h.ev rfl) (h.ev rfl) (by omega) (by omega)) rfl λf h=>az ((br.of_own (s.getSl 2 rfl)).el (d) (by omega) (by decide) (D:=ay (l.getD d bz)) (fu l d hdl)) h aY rfl (ai _) rfl λf h=>aO (ay bz) h s eV rfl rfl λf w1 b5 h s=>aj 0 h s aY rfl rfl rfl (ai _) (ai _) (bI _) λw1 s=>nt (ah ?_)
  refine rs ac 1 h rfl λf h=>ag (ae (aF.of_own s 0 rfl) 0 (cf _)) h bu rfl rfl λf h=>cK 2 h s bu rfl rfl (rfl) rfl λf h=>iV ac h rfl (λhs9 f h=>?_) (λhs9 f h=>?_)
  ·skip
   cases hq:(q d:Bool)
   ·refine al ac 1 h rfl λf h=>bF h rfl ?_
    have hdm:d<(eB no l).length:=C3 hp0 hdl hs9
    refine al ac 1 h rfl λf h=>bF h rfl (ak 0 h s aY rfl rfl (ai _) rfl λf h=>bF h rfl (ij (V:=.bool true) (G:=GG (d+1)) [.agg (ay (l.getD d bz))] 4 h rfl rfl (by have h9:=hY d _ _ 4 gg hdm hp2 hp1 s rfl;rw [hq,nA hdm] at h9;exact h9) rfl ?_));intro f w1 g1 hg1 h s
    refine e9 ac 2 h rfl λf h=>mM h rfl (wpIn_skip (bo (aK (aG (am h (bY (h.ev rfl) (h.ev rfl) (by omega)) rfl λf h=>e9 ac 1 h rfl λf h=>?_)))))
    exact ⟨_,by omega,⟨d+1,g1,h.only ⟨rfl,rfl,rfl,rfl,rfl,aD rfl (by omega),trivial⟩,St.as (s.pick _ (at3 [_] _)) ⟨rfl,rfl,rfl,rfl,trivial⟩,rfl,hdm,hg1,gY hp2 hq⟩⟩
   ·refine al ac 1 h rfl λf h=>bF h rfl ?_
    have hdm:d<(eB no l).length:=C3 hp0 hdl hs9
    refine al ac 1 h rfl λf h=>bF h rfl (ak 0 h s aY rfl rfl (ai _) rfl λf h=>bF h rfl (ij (V:=.bool false) (G:=GG (d+1)) [.agg (ay (l.getD d bz))] 4 h rfl rfl (by have h9:=hY d _ _ 4 gg hdm hp2 hp1 s rfl;rw [hq,nA hdm] at h9;exact h9) rfl ?_));intro f w1 g1 hg1 h s
    refine e9 ac 2 h rfl λf h=>dw h rfl (av8 (bh (aU (aU (bh ?_)))))
    exact ol rfl h (⟨⟨_,rfl⟩,d+1,g1,hg1,s.pick _ (at7 _ _),hdm,λj hj=>hp2 j (by omega),λh9=>az2 (hq.symm.trans h9) (by decide)⟩)
  ·refine e9 ac 6 h rfl λf h=>dw h rfl (av8 (bh (aU (aU (bh ?_)))))
   exact ol rfl h (⟨⟨_,rfl⟩,d,gg,hp1,s.pick _ (at7 _ _),hp0,λj hj=>hp2 j (by omega),λ_=>Nat.le_antisymm hp0 (EW (ar4 hs9) hdl)⟩)
 ·refine aw0 (ba (ba (cj ?_)))
  exact ex rfl h (⟨⟨_,rfl⟩,d,gg,hp1,s,hp0,λj hj=>hp2 j (by omega),λ_=>(by have:=MQ no l;omega)⟩)
end Go.Proofs.YtkhepdpfdhdlaaaGreatDoor
