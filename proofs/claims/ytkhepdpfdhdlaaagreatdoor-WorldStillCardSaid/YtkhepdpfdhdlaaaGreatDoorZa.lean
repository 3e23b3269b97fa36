/- Package chord and what it stands on, so far as it is wanted: what each function answers. -/
import Derived.Test.YtkhepdpfdhdlaaaGreatDoorCon
import Derived.Test.YtkhepdpfdhdlaaaGreatDoorSn
set_option linter.unusedVariables false
set_option linter.unusedSimpArgs false
set_option linter.unusedSectionVars false
namespace Go.Proofs.YtkhepdpfdhdlaaaGreatDoor
open Go.RowKit
theorem iG (vo:Value) (B9:List Own) (w0 w:World) (s:St w0 B9 w):Calls Tryz.prog 64 [.agg #[vo]].toArray w (λe w9=>∃ r,e=.returned r/\∃ bn,r=.func (.func 108) #[] #[.pointer (some ⟨bn,0,none⟩)]/\St w0 (.blk bn (.cells #[vo] 24)::B9) w9):=by
 refine cO Tryz.func64 rfl Tryz.ntmps64 rfl [(0,.agg #[vo])] (by simp) λf h=>?_
 refine qr (aZ (#[vo]) h s rfl rfl rfl λf w1 b1 h s=>e9 ac 1 h rfl λf h=>qr (am h (dF [.pointer (some ⟨b1,0,none⟩)] (kQ h rfl)) rfl λf h=>e9 ac 1 h rfl λf h=>av8 (dG rfl h rfl (⟨_,rfl,b1,rfl,s⟩))))
theorem gT (m:Nat) (hm:m<=1000) (vo:Value) (xs:List Value) (wr:World) (hV:br wr vo 68 m xs) (lp bx:Nat) (q:Nat->Bool) (GG:Nat->Own->Prop) (g0:Own) (w0 w:World) (s:St w0 [.blk bx (.cells #[vo] 24),g0] w) (hg0:GG 0 g0) (hY:∀ (d:Nat) (B9:List Own) (w9:World) (i:Nat) (g:Own),d<m->(∀ j,j<d->q j=false)->GG d g->St w0 B9 w9->B9[i]? = some g->lf Tryz.prog lp [Value.pointer (some (bC vo (d*68)))].toArray w9 (λv w2=>v=.bool (!q d)/\∃ g',GG (d+1) g'/\St w0 (B9.set i g') w2)):Calls Tryz.prog 108 [.func (.yield lp) #[] #[],.pointer (some ⟨bx,0,none⟩)].toArray w (λe w9=>(∃ v,e=.returned v)/\∃ d g,GG d g/\St w0 ([.blk bx (.cells #[vo] 24)]++[g]) w9/\d<=m/\(∀ j,j+1<d->q j=false)/\(lq q d=false->d=m)):=by
 refine cO Tryz.func108 rfl Tryz.ntmps108 rfl [(0,.func (.yield lp) #[] #[]),(1,.pointer (some ⟨bx,0,none⟩))] (by simp) λf h=>?_
 refine cw ac 1 h rfl λf h=>ag (V:=vo) (ae (aF.of_own s 0 rfl) 0 rfl) h ew rfl rfl λf h=>bT h (hV) aC0 rfl rfl λf h=>e9 ac 1 h rfl λf h=>av9 (aw1 (λnn aa ww=>∃ d:Nat,∃ gg:Own,Sl 18 aa [(0,.func (.yield lp) #[] #[]),(1,.pointer (some ⟨bx,0,none⟩)),(6,.int .i64 (m:Int)),(7,.int .i64 (d:Int))]/\St w0 [.blk bx (.cells (#[vo]) 24),(gg)] ww/\nn=m - d/\d<=m/\GG d gg/\∀ j,j<d->q j=false) (m - (0)) ⟨0,g0,h.only ⟨rfl,rfl,rfl,aD rfl (by omega),trivial⟩,s.as ⟨rfl,rfl,trivial⟩,rfl,at8 _,hg0,λj hj=>az2 hj (ax1 _)⟩ ?_)
 rintro _ f w1 ⟨d,gg,h,s,hnn,hp0,hp1,hp2⟩
 refine bJ ac 1 h rfl λf h=>ah (dA h rfl (λhc=>?_) (λhc=>?_))
 ·refine kt (ah (av9 (qr ?_)))
  have hdl:d<m:=by omega
  refine e9 ac 2 h rfl λf h=>ah ?_
  cases hq:(q d:Bool)
  ·refine rs ac 2 h rfl λf h=>ag (V:=vo) (ae (aF.of_own s 0 rfl) 0 rfl) h ew rfl rfl λf h=>al ac 1 h rfl λf h=>am h (bg (hV) (d) aC0 mt (h.ev rfl) (h.ev rfl) (by omega) (by omega)) rfl λf h=>ij (V:=.bool true) (G:=GG (d+1)) [.pointer (some (bC vo (d*68)))] 1 h rfl rfl (by have h9:=hY d _ _ 1 gg hdl hp2 hp1 s rfl;rw [hq] at h9;exact h9) rfl ?_;intro f w1 g1 hg1 h s
   refine e9 ac 1 h rfl λf h=>mM h rfl (wpIn_skip (bo (aK (aG (am h (bY (h.ev rfl) (h.ev rfl) (by omega)) rfl λf h=>e9 ac 1 h rfl λf h=>?_)))))
   exact ⟨_,by omega,⟨d+1,g1,h.only ⟨rfl,rfl,rfl,aD rfl (by omega),trivial⟩,St.as s ⟨rfl,rfl,trivial⟩,rfl,by omega,hg1,gY hp2 hq⟩⟩
  ·refine rs ac 2 h rfl λf h=>ag (V:=vo) (ae (aF.of_own s 0 rfl) 0 rfl) h ew rfl rfl λf h=>al ac 1 h rfl λf h=>am h (bg (hV) (d) aC0 mt (h.ev rfl) (h.ev rfl) (by omega) (by omega)) rfl λf h=>ij (V:=.bool false) (G:=GG (d+1)) [.pointer (some (bC vo (d*68)))] 1 h rfl rfl (by have h9:=hY d _ _ 1 gg hdl hp2 hp1 s rfl;rw [hq] at h9;exact h9) rfl ?_;intro f w1 g1 hg1 h s
   refine e9 ac 1 h rfl λf h=>dw h rfl (av8 (bh (aU (aU (bh ?_)))))
   exact ol rfl h (⟨⟨_,rfl⟩,d+1,g1,hg1,s,by omega,λj hj=>hp2 j (by omega),λh9=>az2 (hq.symm.trans h9) (by decide)⟩)
 ·refine aw0 (ba (ba (cj ?_)))
  exact ex rfl h (⟨⟨_,rfl⟩,d,gg,hp1,s,hp0,λj hj=>hp2 j (by omega),λ_=>by omega⟩)
theorem j5 (L:List N3) (vo:Value) (w:World) (hO:kB w vo L) (hL:L.length<=40):Calls Tryz.prog 27 [.agg #[vo]].toArray w (cd w (λv w'=>cI w' w.heap.size 69 33 v (aQ L).length (ap (aQ L)))):=by
 refine ff Tryz.func27 rfl Tryz.ntmps27 rfl [(0,.agg #[vo])] (by simp) λf h=>?_
 have s:=St.start w
 refine qr (aZ (#[vo]) h s rfl rfl rfl λf w1 b1 h s=>e9 ac 1 h rfl λf h=>qr (aO (#[.slice none 0 0]) h s IR rfl rfl λf w1 b3 h s=>nt (ah (qr (ak 1 h s cc rfl rfl (rfl) rfl λf h=>?_)))))
 replace s:=s.nilSl 69 33
 refine cF [.agg #[vo]] h qP (iG vo _ _ _ s) rfl rfl ?_;rintro f w1 r ⟨bn,rfl,s⟩ h
 refine nt (av9 (eK (λd A9=>∃ v8:Value,A9=[.sl v8 69 33 (aQ (L.take d)).length (ap (aQ (L.take d))),.blk b3 (.cells #[v8] 70),.blk b1 (.cells #[vo] 24)]) [.sl (Value.slice none 0 0) 69 33 (aQ (L.take 0)).length (ap (aQ (L.take 0))),.blk b3 (.cells #[(Value.slice none 0 0)] 70),.blk b1 (.cells #[vo] 24)] [.blk bn (.cells #[vo] 24)] (L.length) (λ_=>false) (λd=>[Value.pointer (some (bC vo (d*68)))]) h s rfl mU (List.Perm.refl _) (⟨_,rfl⟩) (λ_=>rfl) ?_ ?_ ?_ ?_))
 ·intro lp w2 GG g0 hg0 s2 hY;exact gT L.length (by omega) vo _ _ hO.1 lp bn (λ_=>false) GG g0 w w2 s2 hg0 hY
 ·intro lp D9 d9 rc R9 A9 w2 hd9 hq9 hJ9 s
  obtain ⟨v8,rfl⟩:=hJ9
  have h:=Sl.round1 (p:=7) (V:=.pointer (some (bC vo (d9*68)))) h rfl
  have hdl9:=hd9
  refine re ac 1 h rfl λf h=>⟨_,s,λw3 s=>?_⟩
  refine av9 ?_
  replace s:=s.bring 2 rfl
  replace s:St w (.sl v8 69 33 (aQ (L.take d9)).length (ap (aQ (L.take d9)))::.blk lp (.loop (rc .busy))::.blk D9 (.deferred (some []))::.blk b3 (.cells (#[v8]) 70)::.blk b1 (.cells (#[vo]) 24)::R9) _:=s
  refine fH 1 7 [[],[],[1],[1,2],[1,2,3],[1,2,3,4],[0,1,2,3,4,5],[0,1,2,3,4,5,6]] [[],[],[],[],[],[],[5,8],[]] [[_]] [.v v8,.v _,.v _,.v (.pointer (some (bC vo (d9*68+0)))),.v (.agg (ay (L.getD d9 z3).1.me)),.m (λv=>[.sl (v 5) 69 33 1 (ay (L.getD d9 z3).1.me).toList]),.m (λv=>[.sl (v 6) 69 33 (aQ (L.take (d9+1))).length (ap (aQ (L.take (d9+1))))]),.n] _ h s rfl (by kernel_rfl) (by kernel_rfl) (by kernel_rfl) (bW ?_ (fJ ac h rfl rfl rfl (fJ ac h rfl rfl rfl (bW ?_ (bW ?_ (bW ?_ (bW ?_ (trivial)))))))) [0,1,2,3,4,6] (by kernel_rfl) ?_
  ·intro f9 w2 vl4 E9 hs9 hd9 hl hF s
   have h:=cb [(3,_)] h hs9 hd9 ⟨d5 hl 3 (by kernel_rfl) (h.holds 3 _ rfl),trivial⟩
   refine cK 2 h s c7 rfl rfl (rfl) rfl λf h=>aw ⟨_,aV 8 h rfl rfl,rfl,s⟩
  ·intro f9 w2 vl4 E9 hs9 hd9 hl hF s
   have h:=cb [(10,_)] h hs9 hd9 ⟨aS hl 10 2 (by kernel_rfl) (hF 2 (by decide)),trivial⟩
   refine am h (bf fw (h.ev rfl) ((hO.1.keep s.ext).some (by omega))) rfl λf h=>aw ⟨_,aV 11 h rfl rfl,rfl,s⟩
  ·intro f9 w2 vl4 E9 hs9 hd9 hl hF s
   have h:=cb [(11,_)] h hs9 hd9 ⟨aS hl 11 3 (by kernel_rfl) (hF 3 (by decide)),trivial⟩
   refine az (br.elF (hO.1.keep s.ext) (d9) 0 33 (by omega) (by decide) (C:=aP (L.getD d9 z3).1.me (L.getD d9 z3).1.pr (L.getD d9 z3).2.1 (L.getD d9 z3).2.2) (eE L d9 hdl9) (D:=ay (L.getD d9 z3).1.me) (cN _ _ _ _)) h aY rfl (ai _) rfl λf h=>aw ⟨_,aV 12 h rfl rfl,rfl,s⟩
  ·intro f9 w2 vl4 E9 hs9 hd9 hl hF s
   have h:=cb [(12,_)] h hs9 hd9 ⟨aS hl 12 4 (by kernel_rfl) (hF 4 (by decide)),trivial⟩
   refine cU (vs:=[.agg (ay (L.getD d9 z3).1.me)]) [.tmp 12] h s aD1 js rfl rfl (yf _) rfl rfl rfl λf w1 v13 h s=>?_
   replace s:=s.resl (m:=1) (ys:=(ay (L.getD d9 z3).1.me).toList) 0 rfl rfl (oM _)
   exact aw ⟨_,aV 13 h rfl rfl,trivial,s⟩
  ·intro f9 w2 vl4 E9 hs9 hd9 hl hF s
   have e8:f9.tmps.getD 8 undef=v8:=(dO hl 8 0 (by kernel_rfl) (by kernel_rfl)).trans (hF 0 (by decide))
   have e13:f9.tmps.getD 13 undef=(vl4 5):=dO hl 13 5 (by kernel_rfl) (by kernel_rfl)
   have h:=dy [(8,v8),(13,(vl4 5))] (hs9.trans h.size) (hd9.trans h.defers) (holds_lk ⟨e8,e13,trivial⟩)
   refine ez 1 0 h s aD1 js rfl rfl rfl rfl (by decide) (bI _) (by rw [av6,av5];unfold maxLen;omega) (by rw [av6,av5];omega) rfl λf w1 v14 h s=>?_
   replace s:=s.pick _ (at7 _ _)
   replace s:=s.resl (m:=(aQ (L.take (d9+1))).length) (ys:=ap (aQ (L.take (d9+1)))) 0 rfl (by rw [AC hdl9,as2];rfl) (by rw [AC hdl9,DB])
   exact aw ⟨_,aV 14 h rfl rfl,trivial,s⟩
  intro f w1 vl4 hs9 hd9 hv hr hF s
  replace hv:=λi d h9=>hv i d (show Nat.blt i 7=true from h9)
  replace h:=eI 7 (ops:=_) [(8,_),(9,_),(10,_),(11,_),(12,_),(13,(vl4 5)),(14,(vl4 6))] h hs9 hd9 hr ⟨(hv 0 8 rfl rfl).trans (hF 0 rfl),(hv 1 9 rfl rfl).trans (hF 1 rfl),(hv 2 10 rfl rfl).trans (hF 2 rfl),(hv 3 11 rfl rfl).trans (hF 3 rfl),(hv 4 12 rfl rfl).trans (hF 4 rfl),hv 5 13 rfl rfl,hv 6 14 rfl rfl,trivial⟩ (by kernel_rfl)
  replace s:St w (.sl (vl4 6) 69 33 (aQ (L.take (d9+1))).length (ap (aQ (L.take (d9+1))))::.blk lp (.loop (rc .busy))::.blk D9 (.deferred (some []))::.blk b3 (.cells (#[v8]) 70)::.blk b1 (.cells (#[vo]) 24)::R9) _:=s
  refine aJ 3 h s c7 rfl rfl rfl (by simp) (aT (s.getSl 0 rfl)) λw1 s=>aw (bo ?_)
  replace s:=s.bring 2 rfl
  replace s:=s.bring 2 rfl
  replace s:St w (.blk lp (.loop (rc .busy))::.blk D9 (.deferred (some []))::.sl (vl4 6) 69 33 (aQ (L.take (d9+1))).length (ap (aQ (L.take (d9+1))))::.blk b3 (.cells (#[(vl4 6)]) 70)::.blk b1 (.cells (#[vo]) 24)::R9) _:=s
  refine ⟨rfl,_,⟨(vl4 6),rfl⟩,s.pick _ ?_⟩
  exact ar2 _ (List.Sublist.refl _)
 ·intro D9 A9 w2 hJ9 hq9 s
  obtain ⟨v8,rfl⟩:=hJ9
  replace h:Sl _ {f with defers:={target:=.collected D9,args:=#[]}::f.defers} _ [{target:=.collected D9,args:=#[]}]:=⟨h.size,by rw [h.defers],h.holds⟩
  rw [List.take_length] at s
  refine bo (aK (qr (cK 3 h s c7 rfl rfl (rfl) rfl λf h=>e9 ac 1 h rfl λf h=>av8 ?_)))
  exact AA 0 rfl h s rfl rfl (λw9 s9=>s9.getSl 2 rfl)
 ·intro D9 d9 A9 w2 hd9 hqd9 hq9 hJ9 s
  cases hqd9
theorem Bm (l:List Mb) (vh:Value) (g9:Nat) (caps:List Value) (p:Mb->Bool) (w:World) (hR:br w vh 33 l.length (ap l)) (hln:l.length<=1000) (hg:Fnc Tryz.prog g9) (hp:∀ w9,Ext w w9->∀ x∈l,Calls Tryz.prog g9 (.agg (ay x)::caps).toArray w9 (cd w9 (is (.bool (p x))))):Calls Tryz.prog 181 [vh,.func (.func g9) #[] caps.toArray].toArray w (cd w (λv _=>∃ r:Int,v=.int .i64 r/\((r = -1/\∀ x∈l,p x=false)∨∃ k:Nat,∃ hk:k<l.length,r=(k:Int)/\p l[k]=true))):=by
 refine bN Tryz.func181 rfl Tryz.ntmps181 rfl λf h s=>bJ ac 1 h rfl λf h=>ah (cw ac 1 h rfl λf h=>bT h (hR.keep s.ext) aD1 rfl rfl λf h=>e9 ac 1 h rfl λf h=>av9 (aw1 (λnn aa ww=>∃ k:Nat,Sl 19 aa [(0,vh),(1,.func (.func g9) #[] caps.toArray),(6,vh),(7,.int .i64 (l.length:Int)),(8,.int .i64 (k:Int))]/\St w [] ww/\nn=l.length - k/\k<=l.length/\∀ i (hi:i<l.length),i<k->p l[i]=false) (l.length - (0)) ⟨0,h.only ⟨rfl,rfl,rfl,rfl,aD rfl (by omega),trivial⟩,s.as trivial,rfl,at8 _,λi hi h9=>az2 h9 (ax1 _)⟩ ?_))
 rintro _ f w1 ⟨k,h,s,hnn,hp0,hp1⟩
 refine bJ ac 1 h rfl λf h=>ah (dA h rfl (λhc=>?_) (λhc=>?_))
 ·refine kt (ah (av9 (bJ ac 2 h rfl λf h=>qr ?_)))
  have hkl:k<l.length:=by omega
  refine al ac 3 h rfl λf h=>am h (bg (hR.keep s.ext) (k) aD1 ed (h.ev rfl) (h.ev rfl) (by omega) (by omega)) rfl λf h=>az ((hR.keep s.ext).el (k) (by omega) (by decide) (D:=ay l[k]) (L9 l k hkl)) h aY rfl (ai _) rfl λf h=>eS [.agg (ay l[k])] (caps:=caps) h s hg rfl (hp _ s.ext _ (ax6 hkl)) rfl rfl ?_;intro f w1 v9 hT hE h s;obtain rfl:=hT
  refine nt (cr h rfl (λhc=>?_) (λhc=>?_))
  ·refine bJ ac 2 h rfl λf h=>av8 (bh (aU (aU (bh (aU (aA rfl h s rfl (⟨_,rfl,.inr ⟨k,hkl,rfl,hc⟩⟩)))))))
  ·refine wpIn_skip (bo (aK (aG (am h (bY (h.ev rfl) (h.ev rfl) (by omega)) rfl λf h=>e9 ac 1 h rfl λf h=>?_))))
   exact ⟨_,by omega,⟨k+1,h.only ⟨rfl,rfl,rfl,rfl,aD rfl (by omega),trivial⟩,St.as s trivial,rfl,by omega,ry (λy=>p y=false) hp1 hkl hc⟩⟩
 ·refine aw0 (ba (ba (cj (aK (bJ ac 1 h rfl λf h=>av8 (aA rfl h s rfl (⟨_,rfl,.inl ⟨rfl,λx hx=>(by obtain ⟨i,hi,e⟩:=ax7 hx;rw [← e];exact hp1 i hi (by omega))⟩⟩)))))))
theorem mx (l:List Mb) (vh:Value) (g9:Nat) (caps:List Value) (p:Mb->Bool) (w:World) (hR:br w vh 33 l.length (ap l)) (hln:l.length<=1000) (hg:Fnc Tryz.prog g9) (hp:∀ w9,Ext w w9->∀ x∈l,Calls Tryz.prog g9 (.agg (ay x)::caps).toArray w9 (cd w9 (is (.bool (p x))))):Calls Tryz.prog 105 [vh,.func (.func g9) #[] caps.toArray].toArray w (cd w (is (.bool (l.any p)))):=by
 refine bN Tryz.func105 rfl Tryz.ntmps105 rfl λf h s=>bJ ac 1 h rfl λf h=>cw ac 2 h rfl λf h=>bB h s JT (Bm l vh g9 caps p _ (hR.keep s.ext) hln hg (λw9 h9=>hp w9 (s.ext.trans h9))) rfl rfl ?_;rintro f w1 v9 ⟨r9,rfl,hr⟩ hE h s
 refine lr ac (.bool (l.any p)) h rfl (ar8 Value.bool (Pb hr)) rfl λf h=>e9 ac 1 h rfl λf h=>av8 (aA rfl h s rfl (rfl))
theorem zj (x:Int) (w:World):Calls Tryz.prog 183 [.int .i64 x].toArray w (cd w (is (.bool false))):=by
 refine bN Tryz.func183 rfl Tryz.ntmps183 rfl λf h s=>bJ ac 1 h rfl λf h=>cw ac 2 h rfl λf h=>lr ac (.bool false) h rfl (by simp) rfl λf h=>e9 ac 1 h rfl λf h=>av8 (aA rfl h s rfl (rfl))
theorem kU (x y:Int) (w:World):Calls Tryz.prog 107 [.int .i64 x,.int .i64 y].toArray w (cd w (is (.int .i64 (cJ x y)))):=by
 refine bN Tryz.func107 rfl Tryz.ntmps107 rfl λf h s=>bJ ac 1 h rfl λf h=>cw ac 1 h rfl λf h=>dM h s H2 (zj _ _) rfl rfl λf w1 h s=>e9 ac 1 h rfl λf h=>cw ac 1 h rfl λf h=>dM h s H2 (zj _ _) rfl rfl λf w1 h s=>e9 ac 1 h rfl λf h=>ah (bJ ac 1 h rfl λf h=>mQ h rfl (ah (bJ ac 1 h rfl λf h=>mQ h rfl (ah (bJ ac 3 h rfl λf h=>cr h rfl (λhc=>?_) (λhc=>?_))))))
 ·have hc:=ar4 hc
  refine bJ ac 1 h rfl λf h=>rt (aA rfl h s rfl (by show _=_;unfold cJ;rw [if_pos hc]))
 ·have hc1:=ar5 hc
  refine kt (ah (bJ ac 3 h rfl λf h=>dA h rfl (λhc=>?_) (λhc=>?_)))
  ·refine bJ ac 1 h rfl λf h=>rt (aA rfl h s rfl (by show _=_;unfold cJ;rw [if_neg (by omega),if_pos (by omega)]))
  ·refine kt (bJ ac 1 h rfl λf h=>av8 (aA rfl h s rfl (by show _=_;unfold cJ;rw [if_neg (by omega),if_neg (by omega)])))
theorem sI (x y:Mb) (w:World):Calls Tryz.prog 63 [.agg (ay x),.agg (ay y)].toArray w (cd w (is (.int .i64 (cJ x.1 y.1)))):=by
 refine bN Tryz.func63 rfl Tryz.ntmps63 rfl λf h s=>qr (aZ ((ay x)) h s rfl rfl rfl λf w1 b2 h s=>aZ ((ay y)) h s rfl rfl rfl λf w1 b3 h s=>e9 ac 1 h rfl λf h=>cw ac 1 h rfl λf h=>ag (ae (aF.of_own s 1 rfl) 0 (cf _)) h bu rfl rfl λf h=>al ac 1 h rfl λf h=>ag (ae (aF.of_own s 0 rfl) 0 (cf _)) h bu rfl rfl λf h=>dM h s sA (kU _ _ _) rfl rfl λf w1 h s=>e9 ac 1 h rfl λf h=>av8 (aA rfl h s rfl (rfl)))
theorem u5 (l:List Mb) (vh:Value) (w:World) (hR:br w vh 33 l.length (ap l)) (hln:l.length<=1000):Calls Tryz.prog 62 [vh,.func (.func 63) #[] #[]].toArray w (cd w (is (.bool (tH l)))):=by
 refine bN Tryz.func62 rfl Tryz.ntmps62 rfl λf h s=>bJ ac 1 h rfl λf h=>ah (cw ac 1 h rfl λf h=>bT h (hR.keep s.ext) aD1 rfl rfl λf h=>am h (gC (h.ev rfl) (h.ev rfl) (by omega)) rfl λf h=>e9 ac 1 h rfl λf h=>av9 (aw1 (λnn aa ww=>∃ k:Nat,Sl 25 aa [(0,vh),(1,.func (.func 63) #[] #[]),(5,.int .i64 ((k:Int) - 1))]/\St w [] ww/\nn=k/\k<=l.length/\∀ j,k<=j->0<j->j<l.length->m8 l j=false) ((l.length)) ⟨l.length,h.only ⟨rfl,rfl,aD rfl (by omega),trivial⟩,s.as trivial,rfl,at6 _,λj h1 _ h2=>az2 h2 (by omega)⟩ ?_))
 rintro _ f w1 ⟨k,h,s,hnn,hp0,hp1⟩
 refine ah (bJ ac 2 h rfl λf h=>dA h rfl (λhc=>?_) (λhc=>?_))
 ·refine kt (ah (av9 (ah ?_)))
  cases hq:(m8 l (k - 1):Bool)
  ·refine cQ 12 h (by kernel_rfl) ?_
   have h0:=hc
   have hk1:0<k - 1:=by omega
   refine ar ac 3 h rfl λf h=>av h (bg (hR.keep s.ext) (k - 1) aD1 ed (h.ev rfl) (h.ev rfl) (by omega) (by omega)) rfl λf h=>aE ((hR.keep s.ext).el (k - 1) (by omega) (by decide) (D:=ay (l.getD (k - 1) bz)) (fu l (k - 1) (by omega))) h aY rfl (ai _) rfl λf h=>ar ac 2 h rfl λf h=>av h (gC (h.ev rfl) (h.ev rfl) (by omega)) rfl λf h=>av h (bg (hR.keep s.ext) (k - 1 - 1) aD1 ed (h.ev rfl) (h.ev rfl) (by omega) (by omega)) rfl λf h=>aE ((hR.keep s.ext).el (k - 1 - 1) (by omega) (by decide) (D:=ay (l.getD (k - 1 - 1) bz)) (fu l (k - 1 - 1) (by omega))) h aY rfl (ai _) rfl λf h=>vE [.agg (ay (l.getD (k - 1) bz)),.agg (ay (l.getD (k - 1 - 1) bz))] (caps:=[]) h JF rfl (λw9 h9=>sI _ _ w9) rfl rfl ?_;intro f h
   refine zC ac h rfl ((as8.2 (j6 _ _)).trans hq) λf h=>bK s λw1 s=>oW h rfl (wpIn_skip (bo (aK (rs ac 1 h rfl λf h=>am h (gC (h.ev rfl) (h.ev rfl) (by omega)) rfl λf h=>e9 ac 1 h rfl λf h=>?_))))
   exact ⟨_,by omega,⟨k - 1,h.only ⟨rfl,rfl,aD rfl (by omega),trivial⟩,St.as s trivial,rfl,by omega,GV hp1 (by omega) hq⟩⟩
  ·refine cQ 12 h (by kernel_rfl) ?_
   have h0:=hc
   have hk1:0<k - 1:=by omega
   refine ar ac 3 h rfl λf h=>av h (bg (hR.keep s.ext) (k - 1) aD1 ed (h.ev rfl) (h.ev rfl) (by omega) (by omega)) rfl λf h=>aE ((hR.keep s.ext).el (k - 1) (by omega) (by decide) (D:=ay (l.getD (k - 1) bz)) (fu l (k - 1) (by omega))) h aY rfl (ai _) rfl λf h=>ar ac 2 h rfl λf h=>av h (gC (h.ev rfl) (h.ev rfl) (by omega)) rfl λf h=>av h (bg (hR.keep s.ext) (k - 1 - 1) aD1 ed (h.ev rfl) (h.ev rfl) (by omega) (by omega)) rfl λf h=>aE ((hR.keep s.ext).el (k - 1 - 1) (by omega) (by decide) (D:=ay (l.getD (k - 1 - 1) bz)) (fu l (k - 1 - 1) (by omega))) h aY rfl (ai _) rfl λf h=>vE [.agg (ay (l.getD (k - 1) bz)),.agg (ay (l.getD (k - 1 - 1) bz))] (caps:=[]) h JF rfl (λw9 h9=>sI _ _ w9) rfl rfl ?_;intro f h
   refine ot ac h rfl ((as8.2 (j6 _ _)).trans hq) λf h=>bK s λw1 s=>gh h rfl (bJ ac 1 h rfl λf h=>av8 (bh (aU (aU (bh (aU (aA rfl h s rfl (by show _=_;rw [za (by omega) hk1 hq]))))))))
 ·refine aw0 (ba (ba (cj (aK (bJ ac 1 h rfl λf h=>av8 (aA rfl h s rfl (by show _=_;rw [rE (λj h1 h2=>hp1 j (by omega) h1 h2)])))))))
theorem GE (n:Nat) (hn:n<=1000) (w:World):Calls Tryz.prog 235 [.slice none 0 0,.int .i64 (n:Int)].toArray w (cd w (λv w'=>cI w' w.heap.size 69 33 v 0 [])):=by
 refine bN Tryz.func235 rfl Tryz.ntmps235 rfl λf h s=>bJ ac 1 h rfl λf h=>ah (cw ac 1 h rfl λf h=>eF ac h rfl (ar6 (by omega)) λf h=>fL h rfl (ah (cw ac 2 h rfl λf h=>am h (rC aD1 (h.ev rfl)) rfl λf h=>al ac 1 h rfl λf h=>am h (sD aD1 (h.ev rfl)) rfl λf h=>am h (a8 (.int .i64 0) (gC (h.ev rfl) (h.ev rfl) (by omega)) (rfl)) rfl λf h=>am h (a8 (.int .i64 (n:Int)) (gC (h.ev rfl) (h.ev rfl) (by omega)) (ar8 (Value.int .i64) (by omega))) rfl λf h=>e9 ac 1 h rfl λf h=>bJ ac 2 h rfl λf h=>dA h rfl (λhc=>?_) (λhc=>?_))))
 ·refine rs ac 2 h rfl λf h=>am h (rC aD1 (h.ev rfl)) rfl λf h=>am h (xA aD1 ed (h.ev rfl) (h.ev rfl)) rfl λf h=>al ac 1 h rfl λf h=>sf (n:=n) (base:=w.heap.size) h aD1 aB7 js rfl rfl (by omega) (by omega) (by omega) (at6 _) rfl λf w1 v22 xs9 h hE9 hO9=>?_
  replace s:=s.sl_new hE9 hO9
  refine al ac 1 h rfl λf h=>am h (sD aD1 (h.ev rfl)) rfl λf h=>am h (sR hO9 aD1 ed (h.ev rfl) (h.ev rfl)) rfl λf h=>e9 ac 1 h rfl λf h=>bJ ac 2 h rfl λf h=>av8 (aA rfl h s rfl (hO9.cut0))
 ·refine kt (bJ ac 2 h rfl λf h=>av8 (aA rfl h s rfl (d6 _ _ _ _)))
theorem Au (vh:Value) (us:List Value) (ls:List (List Mb)) (hls:us.length=ls.length) (htot:ls.flatten.length<=1000) (hvn:us.length<=1000) (w:World) (hv:br w vh 1 us.length us) (hr:∀ k,k<us.length->br w (us.getD k undef) 33 (ls.getD k []).length (ap (ls.getD k []))):Calls Tryz.prog 187 [vh].toArray w (cd w (λv w'=>cI w' w.heap.size 69 33 v ls.flatten.length (ap ls.flatten))):=by
 refine bN Tryz.func187 rfl Tryz.ntmps187 rfl λf h s=>bJ ac 1 h rfl λf h=>bJ ac 1 h rfl λf h=>ah (cw ac 1 h rfl λf h=>bT h (hv.keep s.ext) aE7 rfl rfl λf h=>e9 ac 1 h rfl λf h=>av9 (aw1 (λnn aa ww=>∃ k:Nat,Sl 36 aa [(0,vh),(3,.int .i64 (((ls.take k).flatten.length:Nat):Int)),(9,vh),(10,.int .i64 (us.length:Int)),(11,.int .i64 (k:Int))]/\St w [] ww/\nn=us.length - k/\k<=us.length) (us.length - (0)) ⟨0,h.only ⟨rfl,aD rfl rfl,rfl,rfl,aD rfl (by omega),trivial⟩,s.as trivial,rfl,at8 _⟩ ?_))
 rintro _ f w1 ⟨k,h,s,hnn,hp0⟩
 refine bJ ac 1 h rfl λf h=>ah (dA h rfl (λhc=>?_) (λhc=>?_))
 ·refine kt (ah (av9 (qr ?_)))
  have hkl:k<us.length:=by omega
  refine am h (bg (hv.keep s.ext) (k) aE7 RQ (h.ev rfl) (h.ev rfl) (by omega) (by omega)) rfl λf h=>ag ((hv.keep s.ext).el1 (k) (V:=us.getD k undef) (En hkl)) h c7 rfl rfl λf h=>e9 ac 1 h rfl λf h=>cw ac 2 h rfl λf h=>bT h ((hr k hkl).keep s.ext) aD1 rfl rfl λf h=>?_
  have hk1:=qO ls k (by omega)
  have hk2:=Dj ls (k+1)
  refine am h (bY (h.ev rfl) (h.ev rfl) (by omega)) rfl λf h=>e9 ac 1 h rfl λf h=>cw ac 1 h rfl λf h=>eF ac h rfl (ar6 (by omega)) λf h=>oW h rfl (wpIn_skip (bo (aK (aG (am h (bY (h.ev rfl) (h.ev rfl) (by omega)) rfl λf h=>e9 ac 1 h rfl λf h=>?_)))))
  exact ⟨_,by omega,⟨k+1,h.only ⟨rfl,aD rfl (by omega),rfl,rfl,aD rfl (by omega),trivial⟩,St.as s trivial,rfl,by omega⟩⟩
 ·refine aw0 (ba (ba (cj (aK (qr ?_)))))
  obtain rfl:k=us.length:=by omega
  refine lr ac (.int .i64 ((ls.flatten.length:Nat):Int)) h rfl (by rw [hls,List.take_length]) rfl λf h=>bB h s U0 (GE ls.flatten.length (by omega) _) rfl rfl ?_;intro f w1 v24 hT hE h sq;replace s:=s.sl_new hE hT
  refine e9 ac 1 h rfl λf h=>ah (cw ac 1 h rfl λf h=>bT h (hv.keep s.ext) aE7 rfl rfl λf h=>e9 ac 1 h rfl λf h=>av9 (aw1 (λnn aa ww=>∃ i:Nat,∃ vb:Value,Sl 36 aa [(0,vh),(6,vb),(25,vh),(26,.int .i64 (us.length:Int)),(27,.int .i64 (i:Int))]/\St w [.sl vb 69 33 (ls.take i).flatten.length (ap (ls.take i).flatten)] ww/\nn=us.length - i/\i<=us.length) (us.length - (0)) ⟨0,v24,h.only ⟨rfl,rfl,rfl,rfl,aD rfl (by omega),trivial⟩,s.as ⟨ib rfl rfl,trivial⟩,rfl,at8 _⟩ ?_))
  rintro _ f w1 ⟨i,vb,h,s,hnn,hp0⟩
  refine bJ ac 1 h rfl λf h=>ah (dA h rfl (λhc=>?_) (λhc=>?_))
  ·refine kt (ah (av9 (qr ?_)))
   have hkl:i<us.length:=by omega
   have hk1:=qO ls i (by omega)
   have hk2:=Dj ls (i+1)
   refine am h (bg (hv.keep s.ext) (i) aE7 RQ (h.ev rfl) (h.ev rfl) (by omega) (by omega)) rfl λf h=>ag ((hv.keep s.ext).el1 (i) (V:=us.getD i undef) (En hkl)) h c7 rfl rfl λf h=>e9 ac 1 h rfl λf h=>rs ac 2 h rfl λf h=>ja 0 ((hr i hkl).keep s.ext) h s aD1 js rfl rfl rfl (jX _) (by unfold maxLen;omega) (by omega) rfl λf w1 v33 h s=>al ac 1 h rfl λf h=>aw (bo (aK (aG (am h (bY (h.ev rfl) (h.ev rfl) (by omega)) rfl λf h=>e9 ac 1 h rfl λf h=>?_))))
   exact ⟨_,by omega,⟨i+1,v33,h.only ⟨rfl,rfl,rfl,rfl,aD rfl (by omega),trivial⟩,St.as s ⟨ib (qO ls i (by omega)) (CK ls i (by omega)),trivial⟩,rfl,by omega⟩⟩
  ·refine aw0 (ba (ba (cj (aK (bJ ac 2 h rfl λf h=>av8 (aA rfl h s rfl (yY (by omega) (s.getSl 0 rfl))))))))
theorem BQ (a9:Option Addr) (n9 c9:Nat) (B9:List Own) (w0 w:World) (s:St w0 B9 w):Calls Tryz.prog 186 [.slice a9 n9 c9].toArray w (λe w9=>∃ r,e=.returned r/\∃ bv,r=.func (.func 234) #[] #[.pointer (some ⟨bv,0,none⟩)]/\St w0 (.blk bv (.cells #[.slice a9 n9 c9] 70)::B9) w9):=by
 refine cO Tryz.func186 rfl Tryz.ntmps186 rfl [(0,.slice a9 n9 c9)] (by simp) λf h=>?_
 refine qr (aZ (#[.slice a9 n9 c9]) h s rfl rfl rfl λf w1 b1 h s=>e9 ac 1 h rfl λf h=>qr (am h (dF [.pointer (some ⟨b1,0,none⟩)] (kQ h rfl)) rfl λf h=>e9 ac 1 h rfl λf h=>av8 (dG rfl h rfl (⟨_,rfl,b1,rfl,s⟩))))
theorem Af (l:List Mb) (vh:Value) (B9:List Own) (w0 w:World) (s:St w0 B9 w) (hR:br w vh 33 l.length (ap l)):Calls Tryz.prog 186 [vh].toArray w (λe w9=>∃ r,e=.returned r/\∃ bv,r=.func (.func 234) #[] #[.pointer (some ⟨bv,0,none⟩)]/\St w0 (.blk bv (.cells #[vh] 70)::B9) w9):=by
 obtain ⟨a,c,rfl⟩:=hR.len
 exact BQ a _ c B9 w0 w s
theorem mV (n:Nd) (vs vf:Value) (w:World) (hRs:br w vs 33 n.sc.length (ap n.sc)) (hRf:br w vf 33 n.fg.length (ap n.fg)) (hns:n.sc.length<=400) (hnf:n.fg.length<=400):Calls Tryz.prog 113 [.agg (aP n.me n.pr vs vf)].toArray w (cd w (λv w9=>∃ bv vk,v=.func (.func 234) #[] #[.pointer (some ⟨bv,0,none⟩)]/\St w [.blk bv (.cells #[vk] 70),.sl vk 69 33 (aN n).length (ap (aN n))] w9)):=by
 refine bN Tryz.func113 rfl Tryz.ntmps113 rfl λf h s=>qr (aZ (aP n.me n.pr vs vf) h s rfl rfl rfl λf w1 b1 h s=>e9 ac 1 h rfl λf h=>cw ac 1 h rfl λf h=>az (aF.subL (aF.of_own s 0 rfl) 33 33 (D:=ay n.pr) (fm _ _ _ _)) h aY rfl (ai _) rfl λf h=>cU (vs:=[.agg (ay n.pr)]) [.tmp 4] h s aD1 js rfl rfl (yf _) rfl rfl rfl λf w1 v5 h s=>?_)
 replace s:=s.resl (m:=[n.pr].length) (ys:=ap [n.pr]) 0 rfl rfl (by rw [oM,ic])
 refine al ac 1 h rfl λf h=>ag (V:=vs) (ae (aF.of_own s 1 rfl) 66 (gc _ _ _ _)) h c7 rfl rfl λf h=>al ac 1 h rfl λf h=>ag (V:=vf) (ae (aF.of_own s 1 rfl) 67 (ik _ _ _ _)) h c7 rfl rfl λf h=>cU (vs:=[v5,vs,vf]) [.tmp 5,.tmp 7,.tmp 9] h s aE7 VZ rfl rfl (by intro v hv;simp only [at1,at4,or_false] at hv;rcases hv with rfl|rfl|rfl;exact lM (br.of_own (s.getSl 0 rfl));exact lM hRs;exact lM hRf) rfl rfl rfl λf w1 v10 h s=>?_
 replace s:=s.resl (m:=3) (ys:=[v5,vs,vf]) 0 rfl rfl (by simp [jE (br.of_own (s.getSl 1 rfl)),jE hRs,jE hRf])
 refine bB h s Tp (Au v10 [v5,vs,vf] [[n.pr],n.sc,n.fg] rfl (by rw [mI];simp only [as2,av0,av1];omega) (by show 3<=1000;omega) _ (br.of_own (s.getSl 0 rfl)) (HS (br.of_own (s.getSl 1 rfl)) (hRs.keep s.ext) (hRf.keep s.ext))) rfl rfl ?_;intro f w1 v11 hT hE h sq;replace s:=s.sl_new hE (hT.seq (m:=(aN n).length) (ys:=ap (aN n)) (by rw [mI];rfl) (by rw [mI];rfl))
 refine cF [v11] h UC (Af (aN n) v11 _ _ _ s (br.of_own (s.getSl 0 rfl))) rfl rfl ?_;rintro f w1 r ⟨bv,rfl,s⟩ h
 refine e9 ac 1 h rfl λf h=>av8 (aA rfl h s rfl (⟨bv,v11,rfl,(s.sel [0,1] rfl (by decide))⟩))
theorem mC (l:List Mb) (hln:l.length<=1000) (vh:Value) (lp bx:Nat) (q:Nat->Bool) (GG:Nat->Own->Prop) (g0:Own) (w0 w:World) (s:St w0 [.blk bx (.cells #[vh] 70),.sl vh 69 33 l.length (ap l),g0] w) (hg0:GG 0 g0) (hY:∀ (d:Nat) (B9:List Own) (w9:World) (i:Nat) (g:Own),d<l.length->(∀ j,j<d->q j=false)->GG d g->St w0 B9 w9->B9[i]? = some g->lf Tryz.prog lp [Value.agg (ay (l.getD d bz))].toArray w9 (λv w2=>v=.bool (!q d)/\∃ g',GG (d+1) g'/\St w0 (B9.set i g') w2)):Calls Tryz.prog 234 [.func (.yield lp) #[] #[],.pointer (some ⟨bx,0,none⟩)].toArray w (λe w9=>(∃ v,e=.returned v)/\∃ d g,GG d g/\St w0 ([.blk bx (.cells #[vh] 70),.sl vh 69 33 l.length (ap l)]++[g]) w9/\d<=l.length/\(∀ j,j+1<d->q j=false)/\(lq q d=false->d=l.length)):=by
 refine cO Tryz.func234 rfl Tryz.ntmps234 rfl [(0,.func (.yield lp) #[] #[]),(1,.pointer (some ⟨bx,0,none⟩))] (by simp) λf h=>?_
 refine qr (cK 0 h s c7 rfl rfl (rfl) rfl λf h=>f7 1 h s aD1 rfl rfl rfl λf h=>e9 ac 1 h rfl λf h=>av9 (aw1 (λnn aa ww=>∃ d:Nat,∃ gg:Own,Sl 16 aa [(0,.func (.yield lp) #[] #[]),(1,.pointer (some ⟨bx,0,none⟩)),(5,vh),(6,.int .i64 (l.length:Int)),(7,.int .i64 (d:Int))]/\St w0 [.blk bx (.cells (#[vh]) 70),.sl vh 69 33 l.length (ap l),(gg)] ww/\nn=l.length - d/\d<=l.length/\GG d gg/\∀ j,j<d->q j=false) (l.length - (0)) ⟨0,g0,h.only ⟨rfl,rfl,rfl,rfl,aD rfl (by omega),trivial⟩,s.as ⟨rfl,rfl,rfl,trivial⟩,rfl,at8 _,hg0,λj hj=>az2 hj (ax1 _)⟩ ?_))
 rintro _ f w1 ⟨d,gg,h,s,hnn,hp0,hp1,hp2⟩
 refine bJ ac 1 h rfl λf h=>ah (dA h rfl (λhc=>?_) (λhc=>?_))
 ·refine kt (ah (av9 (qr ?_)))
  have hdl:d<l.length:=by omega
  refine am h (bg (br.of_own (s.getSl 1 rfl)) (d) aD1 ed (h.ev rfl) (h.ev rfl) (by omega) (by omega)) rfl λf h=>az ((br.of_own (s.getSl 1 rfl)).el (d) (by omega) (by decide) (D:=ay (l.getD d bz)) (fu l d hdl)) h aY rfl (ai _) rfl λf h=>aO (ay bz) h s eV rfl rfl λf w1 b4 h s=>aj 0 h s aY rfl rfl rfl (ai _) (ai _) (bI _) λw1 s=>nt (ah ?_)
  cases hq:(q d:Bool)
  ·refine rs ac 1 h rfl λf h=>ak 0 h s aY rfl rfl (ai _) rfl λf h=>ij (V:=.bool true) (G:=GG (d+1)) [.agg (ay (l.getD d bz))] 3 h rfl rfl (by have h9:=hY d _ _ 3 gg hdl hp2 hp1 s rfl;rw [hq] at h9;exact h9) rfl ?_;intro f w1 g1 hg1 h s
   refine e9 ac 1 h rfl λf h=>mM h rfl (wpIn_skip (bo (aK (aG (am h (bY (h.ev rfl) (h.ev rfl) (by omega)) rfl λf h=>e9 ac 1 h rfl λf h=>?_)))))
   exact ⟨_,by omega,⟨d+1,g1,h.only ⟨rfl,rfl,rfl,rfl,aD rfl (by omega),trivial⟩,St.as (s.pick _ (at3 [_] _)) ⟨rfl,rfl,rfl,trivial⟩,rfl,by omega,hg1,gY hp2 hq⟩⟩
  ·refine rs ac 1 h rfl λf h=>ak 0 h s aY rfl rfl (ai _) rfl λf h=>ij (V:=.bool false) (G:=GG (d+1)) [.agg (ay (l.getD d bz))] 3 h rfl rfl (by have h9:=hY d _ _ 3 gg hdl hp2 hp1 s rfl;rw [hq] at h9;exact h9) rfl ?_;intro f w1 g1 hg1 h s
   refine e9 ac 1 h rfl λf h=>dw h rfl (av8 (bh (aU (aU (bh ?_)))))
   exact ol rfl h (⟨⟨_,rfl⟩,d+1,g1,hg1,s.pick _ (at7 _ _),by omega,λj hj=>hp2 j (by omega),λh9=>az2 (hq.symm.trans h9) (by decide)⟩)
 ·refine aw0 (ba (ba (cj ?_)))
  exact ex rfl h (⟨⟨_,rfl⟩,d,gg,hp1,s,hp0,λj hj=>hp2 j (by omega),λ_=>by omega⟩)
theorem fK (L:List N3) (vo:Value) (no:Int) (w:World) (hO:kB w vo L) (hL:L.length<=40):Calls Tryz.prog 114 [.agg #[vo],.int .i64 no].toArray w (cd w (is (A6 vo L no))):=by
 refine ff Tryz.func114 rfl Tryz.ntmps114 rfl [(0,.agg #[vo]),(1,.int .i64 no)] (by simp) λf h=>?_
 have s:=St.start w
 refine qr (aZ (#[vo]) h s rfl rfl rfl λf w1 b2 h s=>aZ (#[.int .i64 no]) h s rfl rfl rfl λf w1 b3 h s=>aO (#[.pointer none]) h s ML rfl rfl λf w1 b4 h s=>nt (ah (qr (ak 2 h s cc rfl rfl (rfl) rfl λf h=>cF [.agg #[vo]] h qP (iG vo _ _ _ s) rfl rfl ?_))));rintro f w1 r ⟨bn,rfl,s⟩ h
 refine nt (av9 (eK (λd A9=>A9=[.blk b4 (.cells #[XM vo (qL L no) d] 101),.blk b3 (.cells #[.int .i64 no] 3),.blk b2 (.cells #[vo] 24)]) [.blk b4 (.cells #[.pointer none] 101),.blk b3 (.cells #[.int .i64 no] 3),.blk b2 (.cells #[vo] 24)] [.blk bn (.cells #[vo] 24)] (L.length) (qL L no) (λd=>[Value.pointer (some (bC vo (d*68)))]) h s rfl mU (List.Perm.refl _) (rfl) (λ_=>rfl) ?_ ?_ ?_ ?_))
 ·intro lp w2 GG g0 hg0 s2 hY;exact gT L.length (by omega) vo _ _ hO.1 lp bn (qL L no) GG g0 w w2 s2 hg0 hY
 ·intro lp D9 d9 rc R9 A9 w2 hd9 hq9 hJ9 s
  obtain rfl:=hJ9
  have h:=Sl.round1 (p:=8) (V:=.pointer (some (bC vo (d9*68)))) h rfl
  have hdl9:=hd9
  refine re ac 1 h rfl λf h=>⟨_,s,λw3 s=>?_⟩
  refine av9 (ah ?_)
  refine cQ 7 h (by kernel_rfl) (ar ac 2 h rfl λf h=>av h (bf fw (h.ev rfl) ((hO.1.keep s.ext).some (by omega))) rfl λf h=>av h (bf gD (h.ev rfl) ((hO.1.keep s.ext).some (by omega))) rfl λf h=>ao (V:=.int .i64 (L.getD d9 z3).1.me.1) (dq (hO.1.keep s.ext) (d9*68+0) (zJ L d9 hdl9)) h bu rfl rfl λf h=>fA 3 h s bu rfl rfl (rfl) rfl λf h=>K5 ac (qL L no d9) h rfl (rfl) (λhq f h=>?_) (λhq f h=>?_))
  ·refine bK s λw1 s=>oW h rfl (wpIn_skip (bo ?_))
   replace s:=s.recell (D:=#[XM vo (qL L no) (d9+1)]) 2 rfl (by rw [Nu hq9];show _=#[bif qL L no d9 then _ else _];rw [hq];rfl)
   refine ⟨by first|exact hq|rfl,_,rfl,s.pick _ ?_⟩
   exact ar2 _ (List.Sublist.refl _)
  ·refine bK s λw1 s=>gh h rfl (cw ac 1 h rfl λf h=>aJ 2 h s we rfl rfl rfl (by simp) (rfl) λw1 s=>nt (av8 (bh ?_)))
   replace s:=s.recell (D:=#[XM vo (qL L no) (d9+1)]) 2 rfl (by show _=#[bif qL L no d9 then _ else _];rw [hq];rfl)
   refine ⟨by first|exact hq|rfl,_,rfl,s.pick _ ?_⟩
   exact ar2 _ (List.Sublist.refl _)
 ·intro D9 A9 w2 hJ9 hq9 s
  obtain rfl:=hJ9
  replace h:Sl _ {f with defers:={target:=.collected D9,args:=#[]}::f.defers} _ [{target:=.collected D9,args:=#[]}]:=⟨h.size,by rw [h.defers],h.holds⟩
  refine bo (aK (qr (aJ 2 h s we rfl rfl rfl (by simp) (rfl) λw1 s=>nt (av8 ?_))))
  exact g5 2 0 rfl h s we rfl rfl rfl rfl rfl (λw9=>(Wy hq9).symm)
 ·intro D9 d9 A9 w2 hd9 hqd9 hq9 hJ9 s
  obtain rfl:=hJ9
  replace h:Sl _ {f with defers:={target:=.collected D9,args:=#[]}::f.defers} _ [{target:=.collected D9,args:=#[]}]:=⟨h.size,by rw [h.defers],h.holds⟩
  refine bh (aU ?_)
  exact g5 2 0 rfl h s we rfl rfl rfl rfl rfl (λw9=>YX hd9 hq9 hqd9)
theorem uV (n:Nd) (vs vf:Value) (L:List N3) (vo:Value) (w:World) (hRs:br w vs 33 n.sc.length (ap n.sc)) (hRf:br w vf 33 n.fg.length (ap n.fg)) (hns:n.sc.length<=400) (hnf:n.fg.length<=400) (hO:kB w vo L) (hL:L.length<=40):Calls Tryz.prog 66 [.agg (aP n.me n.pr vs vf),.agg #[vo]].toArray w (cd w (is (.bool !((aN n).any (mD L))))):=by
 have hkl9:(aN n).length<=1000:=by simp only [aN,as2,av0];omega
 refine ff Tryz.func66 rfl Tryz.ntmps66 rfl [(0,.agg (aP n.me n.pr vs vf)),(1,.agg #[vo])] (by simp) λf h=>?_
 have s:=St.start w
 refine qr (aZ (aP n.me n.pr vs vf) h s rfl rfl rfl λf w1 b2 h s=>aZ (#[vo]) h s rfl rfl rfl λf w1 b3 h s=>aO (#[.bool false]) h s Ew rfl rfl λf w1 b4 h s=>nt (ah (qr (ak 2 h s bS rfl rfl (aq _ _ _ _) rfl λf h=>bB h s Bg (mV n vs vf _ (hRs.keep s.ext) (hRf.keep s.ext) (by omega) (by omega)) rfl rfl ?_))));rintro f w1 r9 ⟨bv,vk,rfl,hS⟩ hE h sq;replace s:=s.add hS;clear hS
 refine nt (av9 (eK (λd A9=>A9=[.blk b4 (.cells #[.bool false] 4),.blk b3 (.cells #[vo] 24),.blk b2 (.cells (aP n.me n.pr vs vf) 72)]) [.blk b4 (.cells #[.bool false] 4),.blk b3 (.cells #[vo] 24),.blk b2 (.cells (aP n.me n.pr vs vf) 72)] [.blk bv (.cells #[vk] 70),.sl vk 69 33 (aN n).length (ap (aN n))] ((aN n).length) (Zn n L) (λd=>[Value.agg (ay ((aN n).getD d bz))]) h s rfl Ca (List.Perm.refl _) (rfl) (λ_=>rfl) ?_ ?_ ?_ ?_))
 ·intro lp w2 GG g0 hg0 s2 hY;exact mC (aN n) hkl9 vk lp bv (Zn n L) GG g0 w w2 s2 hg0 hY
 ·intro lp D9 d9 rc R9 A9 w2 hd9 hq9 hJ9 s
  obtain rfl:=hJ9
  have h:=Sl.round1 (p:=9) (V:=.agg (ay ((aN n).getD d9 bz))) h rfl
  have hdl9:=hd9
  refine aG (aO (ay bz) h s eV rfl rfl λf w1 b5 h s=>aj 0 h s aY rfl rfl rfl (ai _) (ai _) (bI _) λw1 s=>nt (⟨_,s.perm (ay7 (l₁:=[_])),λw3 s=>?_⟩))
  refine av9 (ah ?_)
  cases p0:(decide (fU L ((aN n).getD d9 bz).1<L.length):Bool)
  ·refine aG (ak 4 h s cc rfl rfl (rfl) rfl λf h=>al ac 1 h rfl λf h=>ag (ae (aF.of_own s 1 rfl) 0 (cf _)) h bu rfl rfl λf h=>dM h s jI (a6 (.pointer none) (fK L vo ((aN n).getD d9 bz).1 _ (hO.keep s.ext) hL) (yZ (ar5 p0))) rfl rfl λf w1 h s=>e9 ac 1 h rfl λf h=>ah (cQ 10 h (by kernel_rfl) (ar ac 1 h rfl λf h=>av h (a8 (.bool false) (eN aD2 (h.ev rfl) (h.ev rfl)) (rfl)) rfl λf h=>ar ac 8 h rfl λf h=>bK s λw1 s=>oW h rfl (wpIn_skip (bo (⟨(ag4 p0),_,rfl,s.pick _ ?_⟩))))))
   exact ar2 _ (ar3 _ (List.Sublist.refl _))
  ·refine aG (ak 4 h s cc rfl rfl (rfl) rfl λf h=>al ac 1 h rfl λf h=>ag (ae (aF.of_own s 1 rfl) 0 (cf _)) h bu rfl rfl λf h=>dM h s jI (a6 (.pointer (some (bC vo (fU L ((aN n).getD d9 bz).1*68)))) (fK L vo ((aN n).getD d9 bz).1 _ (hO.keep s.ext) hL) (uN (ar4 p0))) rfl rfl λf w1 h s=>e9 ac 1 h rfl λf h=>ah ?_)
   cases p1:(decide ((L.getD (fU L ((aN n).getD d9 bz).1) z3).1.me=((aN n).getD d9 bz)):Bool)
   ·refine cQ 10 h (by kernel_rfl) ?_
    have hp9:=ar4 p0
    refine ar ac 1 h rfl λf h=>av h (a8 (.bool true) (eN aD2 (h.ev rfl) (h.ev rfl)) (rfl)) rfl λf h=>ar ac 3 h rfl λf h=>bD h rfl (av h (bf fw (h.ev rfl) ((hO.1.keep s.ext).some (by omega))) rfl λf h=>bD h rfl (aE (br.elF (hO.1.keep s.ext) (fU L ((aN n).getD d9 bz).1) 0 33 (by omega) (by decide) (C:=aP (L.getD (fU L ((aN n).getD d9 bz).1) z3).1.me (L.getD (fU L ((aN n).getD d9 bz).1) z3).1.pr (L.getD (fU L ((aN n).getD d9 bz).1) z3).2.1 (L.getD (fU L ((aN n).getD d9 bz).1) z3).2.2) (eE L _ hp9) (D:=ay (L.getD (fU L ((aN n).getD d9 bz).1) z3).1.me) (cN _ _ _ _)) h aY rfl (ai _) rfl λf h=>bD h rfl (aX 1 h s aY rfl rfl (ai _) rfl λf h=>bD h rfl (av h (a8 (.bool true) (ge (uW _ _) (by kernel_rfl) (by decide) (h.ev rfl) (h.ev rfl) (decide ((L.getD (fU L ((aN n).getD d9 bz).1) z3).1.me=((aN n).getD d9 bz))) (jC _ _)) (by rw [p1];rfl)) rfl λf h=>ar ac 1 h rfl λf h=>bK s λw1 s=>gh h rfl (qr (aJ 3 h s di rfl rfl rfl (by simp) (rfl) λw1 s=>nt (av8 (bh (⟨((Wg p0).trans (by rw [p1];rfl)),_,rfl,s.pick _ ?_⟩)))))))))
    exact ar2 _ (ar3 _ (List.Sublist.refl _))
   ·refine cQ 10 h (by kernel_rfl) ?_
    have hp9:=ar4 p0
    refine ar ac 1 h rfl λf h=>av h (a8 (.bool true) (eN aD2 (h.ev rfl) (h.ev rfl)) (rfl)) rfl λf h=>ar ac 3 h rfl λf h=>bD h rfl (av h (bf fw (h.ev rfl) ((hO.1.keep s.ext).some (by omega))) rfl λf h=>bD h rfl (aE (br.elF (hO.1.keep s.ext) (fU L ((aN n).getD d9 bz).1) 0 33 (by omega) (by decide) (C:=aP (L.getD (fU L ((aN n).getD d9 bz).1) z3).1.me (L.getD (fU L ((aN n).getD d9 bz).1) z3).1.pr (L.getD (fU L ((aN n).getD d9 bz).1) z3).2.1 (L.getD (fU L ((aN n).getD d9 bz).1) z3).2.2) (eE L _ hp9) (D:=ay (L.getD (fU L ((aN n).getD d9 bz).1) z3).1.me) (cN _ _ _ _)) h aY rfl (ai _) rfl λf h=>bD h rfl (aX 1 h s aY rfl rfl (ai _) rfl λf h=>bD h rfl (av h (a8 (.bool false) (ge (uW _ _) (by kernel_rfl) (by decide) (h.ev rfl) (h.ev rfl) (decide ((L.getD (fU L ((aN n).getD d9 bz).1) z3).1.me=((aN n).getD d9 bz))) (jC _ _)) (by rw [p1];rfl)) rfl λf h=>ar ac 1 h rfl λf h=>bK s λw1 s=>oW h rfl (wpIn_skip (bo (⟨((Wg p0).trans (by rw [p1];rfl)),_,rfl,s.pick _ ?_⟩)))))))
    exact ar2 _ (ar3 _ (List.Sublist.refl _))
 ·intro D9 A9 w2 hJ9 hq9 s
  obtain rfl:=hJ9
  replace h:Sl _ {f with defers:={target:=.collected D9,args:=#[]}::f.defers} _ [{target:=.collected D9,args:=#[]}]:=⟨h.size,by rw [h.defers],h.holds⟩
  refine bo (aK (qr (aJ 3 h s di rfl rfl rfl (by simp) (rfl) λw1 s=>nt (av8 ?_))))
  exact g5 3 0 rfl h s di rfl rfl rfl rfl rfl (λw9=>by show _=_;rw [OP hq9];rfl)
 ·intro D9 d9 A9 w2 hd9 hqd9 hq9 hJ9 s
  obtain rfl:=hJ9
  replace h:Sl _ {f with defers:={target:=.collected D9,args:=#[]}::f.defers} _ [{target:=.collected D9,args:=#[]}]:=⟨h.size,by rw [h.defers],h.holds⟩
  refine bh (aU ?_)
  exact g5 3 0 rfl h s di rfl rfl rfl rfl rfl (λw9=>by show _=_;rw [PB hd9 hqd9];rfl)
theorem t2 (x:Int) (w:World):Calls Tryz.prog 294 [.int .u8 x].toArray w (cd w (is (.bool false))):=by
 refine bN Tryz.func294 rfl Tryz.ntmps294 rfl λf h s=>bJ ac 1 h rfl λf h=>cw ac 2 h rfl λf h=>lr ac (.bool false) h rfl (by simp) rfl λf h=>e9 ac 1 h rfl λf h=>av8 (aA rfl h s rfl (rfl))
theorem HQ (x y:Int) (w:World):Calls Tryz.prog 238 [.int .u8 x,.int .u8 y].toArray w (cd w (is (.int .i64 (cJ x y)))):=by
 refine bN Tryz.func238 rfl Tryz.ntmps238 rfl λf h s=>bJ ac 1 h rfl λf h=>cw ac 1 h rfl λf h=>dM h s IH (t2 _ _) rfl rfl λf w1 h s=>e9 ac 1 h rfl λf h=>cw ac 1 h rfl λf h=>dM h s IH (t2 _ _) rfl rfl λf w1 h s=>e9 ac 1 h rfl λf h=>ah (bJ ac 1 h rfl λf h=>mQ h rfl (ah (bJ ac 1 h rfl λf h=>mQ h rfl (ah (bJ ac 3 h rfl λf h=>cr h rfl (λhc=>?_) (λhc=>?_))))))
 ·have hc:=ar4 hc
  refine bJ ac 1 h rfl λf h=>rt (aA rfl h s rfl (by show _=_;unfold cJ;rw [if_pos hc]))
 ·have hc1:=ar5 hc
  refine kt (ah (bJ ac 3 h rfl λf h=>dA h rfl (λhc=>?_) (λhc=>?_)))
  ·refine bJ ac 1 h rfl λf h=>rt (aA rfl h s rfl (by show _=_;unfold cJ;rw [if_neg (by omega),if_pos hc]))
  ·refine kt (bJ ac 1 h rfl λf h=>av8 (aA rfl h s rfl (by show _=_;unfold cJ;rw [if_neg (by omega),if_neg (by omega)])))
theorem E6 (L:List N3) (hL:L.length<=1000) (a9:Option Addr) (n9 c9:Nat) (w:World) (hR:br w (.slice a9 n9 c9) 68 L.length (ax L)) (ho:∀ x∈L,CU w x):Calls Tryz.prog 49 [.slice a9 n9 c9].toArray w (cd w (λv w'=>cI w' w.heap.size 72 68 v L.length (ax L))):=by
 refine bN Tryz.func49 rfl Tryz.ntmps49 rfl λf h s=>bJ ac 1 h rfl λf h=>ah (ah ?_)
 cases hn:(a9.isNone:Bool)
 ·refine rs ac 1 h rfl λf h=>am h (a8 (.bool false) (cq aC0 (h.ev rfl) (h.ev rfl)) (ar8 Value.bool hn)) rfl λf h=>fL h rfl (qr (fo (base:=w.heap.size) h aC0 uP (at6 _) rfl λf w2 v5 h hE3 e5=>al ac 1 h rfl λf h=>dQ (base:=w.heap.size) e5 (hR.keep hE3) h aC0 uP rfl rfl hE3.le (vY ho) (by unfold maxLen;omega) (by omega) rfl λf w3 v7 h hE4 e7=>?_))
  replace s:=s.sl_new (hE3.trans hE4) e7
  refine e9 ac 1 h rfl λf h=>av8 (aA rfl h s rfl (s.getSl 0 rfl))
 ·refine rs ac 1 h rfl λf h=>am h (a8 (.bool true) (cq aC0 (h.ev rfl) (h.ev rfl)) (ar8 Value.bool hn)) rfl λf h=>gh h rfl (bJ ac 1 h rfl λf h=>rt (aA rfl h s rfl (by obtain rfl:=Bz hn hR;exact d6 _ _ _ _)))
theorem rf (L:List N3) (hL:L.length<=1000) (v9:Value) (w:World) (hR:br w v9 68 L.length (ax L)) (ho:∀ x∈L,CU w x):Calls Tryz.prog 49 [v9].toArray w (cd w (λv w'=>cI w' w.heap.size 72 68 v L.length (ax L))):=by
 obtain ⟨a,c,rfl⟩:=hR.len
 exact E6 L hL a _ c w hR ho
theorem Fz (l:List Mb) (hln:l.length<=1000) (a9:Option Addr) (n9 c9:Nat) (w:World) (hR:br w (.slice a9 n9 c9) 33 l.length (ap l)):Calls Tryz.prog 50 [.slice a9 n9 c9].toArray w (cd w (λv w'=>cI w' w.heap.size 69 33 v l.length (ap l))):=by
 refine bN Tryz.func50 rfl Tryz.ntmps50 rfl λf h s=>bJ ac 1 h rfl λf h=>ah (ah ?_)
 cases hn:(a9.isNone:Bool)
 ·refine rs ac 1 h rfl λf h=>am h (a8 (.bool false) (cq aD1 (h.ev rfl) (h.ev rfl)) (ar8 Value.bool hn)) rfl λf h=>fL h rfl (qr (fo (base:=w.heap.size) h aD1 js (at6 _) rfl λf w2 v5 h hE3 e5=>al ac 1 h rfl λf h=>dQ (base:=w.heap.size) e5 (hR.keep hE3) h aD1 js rfl rfl hE3.le (jX _) (by unfold maxLen;omega) (by omega) rfl λf w3 v7 h hE4 e7=>?_))
  replace s:=s.sl_new (hE3.trans hE4) e7
  refine e9 ac 1 h rfl λf h=>av8 (aA rfl h s rfl (s.getSl 0 rfl))
 ·refine rs ac 1 h rfl λf h=>am h (a8 (.bool true) (cq aD1 (h.ev rfl) (h.ev rfl)) (ar8 Value.bool hn)) rfl λf h=>gh h rfl (bJ ac 1 h rfl λf h=>rt (aA rfl h s rfl (by obtain rfl:=Cj hn hR;exact d6 _ _ _ _)))
theorem gU (l:List Mb) (hln:l.length<=1000) (v9:Value) (w:World) (hR:br w v9 33 l.length (ap l)):Calls Tryz.prog 50 [v9].toArray w (cd w (λv w'=>cI w' w.heap.size 69 33 v l.length (ap l))):=by
 obtain ⟨a,c,rfl⟩:=hR.len
 exact Fz l hln a _ c w hR
set_option maxHeartbeats 1000000 in
theorem uB (L:List N3) (vo:Value) (m:Mb) (w:World) (hO:kB w vo L) (hL:L.length<=40) (hb:RwB L):Calls Tryz.prog 126 [.agg #[vo],.agg (ay m)].toArray w (cd w (is (.bool (GO L m)))):=by
 refine ff Tryz.func126 rfl Tryz.ntmps126 rfl [(0,.agg #[vo]),(1,.agg (ay m))] (by simp) λf h=>?_
 have s:=St.start w
 refine qr (aZ (#[vo]) h s rfl rfl rfl λf w1 b2 h s=>aZ ((ay m)) h s rfl rfl rfl λf w1 b3 h s=>aO (#[.bool false]) h s Ew rfl rfl λf w1 b4 h s=>nt (ah (qr (ak 2 h s cc rfl rfl (rfl) rfl λf h=>cF [.agg #[vo]] h qP (iG vo _ _ _ s) rfl rfl ?_))));rintro f w1 r ⟨bn,rfl,s⟩ h
 refine nt (av9 (eK (λd A9=>A9=[.blk b4 (.cells #[.bool (lq (qj L m) d)] 4),.blk b3 (.cells (ay m) 69),.blk b2 (.cells #[vo] 24)]) [.blk b4 (.cells #[.bool false] 4),.blk b3 (.cells (ay m) 69),.blk b2 (.cells #[vo] 24)] [.blk bn (.cells #[vo] 24)] (L.length) (qj L m) (λd=>[Value.pointer (some (bC vo (d*68)))]) h s rfl mU (List.Perm.refl _) (rfl) (λ_=>rfl) ?_ ?_ ?_ ?_))
 ·intro lp w2 GG g0 hg0 s2 hY;exact gT L.length (by omega) vo _ _ hO.1 lp bn (qj L m) GG g0 w w2 s2 hg0 hY
 ·intro lp D9 d9 rc R9 A9 w2 hd9 hq9 hJ9 s
  obtain rfl:=hJ9
  have h:=Sl.round1 (p:=9) (V:=.pointer (some (bC vo (d9*68)))) h rfl
  have hdl9:=hd9
  replace s:=s.recell (D:=#[.bool false]) 2 rfl (by rw [Bd hq9])
  have hx9:=hb.each _ (bU hdl9)
  have hkx:(aN (L.getD d9 z3).1).length<=1000:=by simp only [aN,as2,av0];omega
  refine re ac 1 h rfl λf h=>⟨_,s,λw3 s=>?_⟩
  refine av9 (ah (ah ?_))
  refine cQ 18 h (by kernel_rfl) (ar ac 2 h rfl λf h=>av h (bf fw (h.ev rfl) ((hO.1.keep s.ext).some (by omega))) rfl λf h=>av h (bf gD (h.ev rfl) ((hO.1.keep s.ext).some (by omega))) rfl λf h=>ao (V:=.int .i64 (L.getD d9 z3).1.me.1) (dq (hO.1.keep s.ext) (d9*68+0) (zJ L d9 hdl9)) h bu rfl rfl λf h=>ar ac 1 h rfl λf h=>ao (ae (aF.of_own s 3 rfl) 0 (cf _)) h bu rfl rfl λf h=>Ko ac h rfl (λe0 f h=>?_) (λe0 f h=>?_))
  ·skip
   cases e1:(decide ((L.getD d9 z3).1.me.2=m.2):Bool)
   ·refine ar ac 3 h rfl λf h=>bD h rfl (av h (bf fw (h.ev rfl) ((hO.1.keep s.ext).some (by omega))) rfl λf h=>bD h rfl (av h (bf xU (h.ev rfl) ((hO.1.keep s.ext).some (by omega))) rfl λf h=>bD h rfl (aE (br.elF (hO.1.keep s.ext) (d9) 1 32 (by omega) (by decide) (C:=aP (L.getD d9 z3).1.me (L.getD d9 z3).1.pr (L.getD d9 z3).2.1 (L.getD d9 z3).2.2) (eE L d9 hdl9) (D:=aI (L.getD d9 z3).1.me.2) (gE _ _ _ _)) h ca rfl (by first|exact aC _|exact aB _ _) rfl λf h=>ar ac 1 h rfl λf h=>bD h rfl (aE (aF.subL (aF.of_own s 3 rfl) 1 32 (D:=aI (_)) (c8 _)) h ca rfl (by first|exact aC _|exact aB _ _) rfl λf h=>bD h rfl (av h (a8 (.bool false) (cZ fE (h.ev rfl) (h.ev rfl)) (ar8 Value.bool e1)) rfl λf h=>ar ac 1 h rfl λf h=>bK s λw1 s=>fL h rfl (cw ac 2 h rfl λf h=>az ((hO.1.keep s.ext).el (d9) (by omega) (by decide) (D:=aP (L.getD d9 z3).1.me (L.getD d9 z3).1.pr (L.getD d9 z3).2.1 (L.getD d9 z3).2.2) (eE L d9 hdl9)) h bS rfl (aq _ _ _ _) rfl λf h=>bB h s Bg (mV (L.getD d9 z3).1 (L.getD d9 z3).2.1 (L.getD d9 z3).2.2 _ ((hO.2 _ (bU hdl9)).1.keep s.ext) ((hO.2 _ (bU hdl9)).2.keep s.ext) (by omega) (by omega)) rfl rfl ?_))))));rintro f w1 r9 ⟨bv,vk,rfl,hS⟩ hE h sq;replace s:=s.add hS;clear hS
    refine nt (av9 (Jy (λd A8=>A8=(.blk lp (.loop (rc .busy))::.blk D9 (.deferred (some []))::.blk b4 (.cells #[.bool (lq (λj=>oy m ((aN (L.getD d9 z3).1).getD j bz)) d)] 4)::.blk b3 (.cells (ay m) 69)::.blk b2 (.cells #[vo] 24)::R9)) (.blk lp (.loop (rc .busy))::.blk D9 (.deferred (some []))::.blk b4 (.cells #[.bool false] 4)::.blk b3 (.cells (ay m) 69)::.blk b2 (.cells #[vo] 24)::R9) [.blk bv (.cells #[vk] 70),.sl vk 69 33 (aN (L.getD d9 z3).1).length (ap (aN (L.getD d9 z3).1))] ((aN (L.getD d9 z3).1).length) (λj=>oy m ((aN (L.getD d9 z3).1).getD j bz)) (λd=>[Value.agg (ay ((aN (L.getD d9 z3).1).getD d bz))]) h s rfl Ca 2 rfl (List.Perm.refl _) (rfl) (λ_=>rfl) ?_ ?_ ?_ ?_))
    ·intro lp2 w2 GG g0 hg0 s2 hY;exact mC (aN (L.getD d9 z3).1) hkx vk lp2 bv (λj=>oy m ((aN (L.getD d9 z3).1).getD j bz)) GG g0 w w2 s2 hg0 hY
    ·intro lp2 d8 rc2 R8 A8 w2 hd8 hq8 hJ8 s
     obtain rfl:=hJ8
     have h:=Sl.round1 (p:=32) (V:=.agg (ay ((aN (L.getD d9 z3).1).getD d8 bz))) h rfl
     replace s:=s.recell (D:=#[.bool false]) 3 rfl (by rw [Bd hq8])
     refine aG (aO (ay bz) h s eV rfl rfl λf w1 b6 h s=>aj 0 h s aY rfl rfl rfl (ai _) (ai _) (bI _) λw1 s=>nt (⟨_,s.perm (ay7 (l₁:=[_])),λw3 s=>?_⟩))
     refine av9 (ah ?_)
     refine rs ac 1 h rfl λf h=>ag (ae (aF.of_own s 1 rfl) 0 (cf _)) h bu rfl rfl λf h=>al ac 1 h rfl λf h=>ag (ae (aF.of_own s 5 rfl) 0 (cf _)) h bu rfl rfl λf h=>iV ac h rfl (λf0 f h=>?_) (λf0 f h=>?_)
     ·refine e9 ac 5 h rfl λf h=>mM h rfl (wpIn_skip (bo ?_))
      replace s:=s.recell (D:=#[.bool (lq (λj=>oy m ((aN (L.getD d9 z3).1).getD j bz)) (d8+1))]) 4 rfl (by show _=#[Value.bool (oy m ((aN (L.getD d9 z3).1).getD d8 bz))];rw [show oy m ((aN (L.getD d9 z3).1).getD d8 bz)=false from by unfold oy;rw [f0];rfl])
      refine ⟨(by show oy m _=_;unfold oy;rw [f0];rfl),_,rfl,s.pick _ ?_⟩
      exact ar2 _ (ar3 _ (List.Sublist.refl _))
     ·skip
      cases f1:(decide (((aN (L.getD d9 z3).1).getD d8 bz)=m):Bool)
      ·refine al ac 1 h rfl λf h=>bF h rfl (ak 1 h s aY rfl rfl (ai _) rfl λf h=>bF h rfl (ak 5 h s aY rfl rfl (ai _) rfl λf h=>bF h rfl (am h (a8 (.bool true) (ge (uW _ _) (by kernel_rfl) (by decide) (h.ev rfl) (h.ev rfl) (decide (((aN (L.getD d9 z3).1).getD d8 bz)=m)) (jC _ _)) (by rw [f1];rfl)) rfl λf h=>e9 ac 1 h rfl λf h=>dw h rfl (qr (aJ 4 h s di rfl rfl rfl (by simp) (rfl) λw1 s=>nt (av8 (bh ?_)))))))
       replace s:=s.recell (D:=#[.bool (lq (λj=>oy m ((aN (L.getD d9 z3).1).getD j bz)) (d8+1))]) 4 rfl (by show _=#[Value.bool (oy m ((aN (L.getD d9 z3).1).getD d8 bz))];rw [show oy m ((aN (L.getD d9 z3).1).getD d8 bz)=true from by unfold oy;rw [f0,f1];rfl];rfl)
       refine ⟨(by show oy m _=_;unfold oy;rw [f0,f1];rfl),_,rfl,s.pick _ ?_⟩
       exact ar2 _ (ar3 _ (List.Sublist.refl _))
      ·refine al ac 1 h rfl λf h=>bF h rfl (ak 1 h s aY rfl rfl (ai _) rfl λf h=>bF h rfl (ak 5 h s aY rfl rfl (ai _) rfl λf h=>bF h rfl (am h (a8 (.bool false) (ge (uW _ _) (by kernel_rfl) (by decide) (h.ev rfl) (h.ev rfl) (decide (((aN (L.getD d9 z3).1).getD d8 bz)=m)) (jC _ _)) (by rw [f1];rfl)) rfl λf h=>e9 ac 1 h rfl λf h=>mM h rfl (wpIn_skip (bo ?_)))))
       replace s:=s.recell (D:=#[.bool (lq (λj=>oy m ((aN (L.getD d9 z3).1).getD j bz)) (d8+1))]) 4 rfl (by show _=#[Value.bool (oy m ((aN (L.getD d9 z3).1).getD d8 bz))];rw [show oy m ((aN (L.getD d9 z3).1).getD d8 bz)=false from by unfold oy;rw [f0,f1];rfl])
       refine ⟨(by show oy m _=_;unfold oy;rw [f0,f1];rfl),_,rfl,s.pick _ ?_⟩
       exact ar2 _ (ar3 _ (List.Sublist.refl _))
    ·intro A8 w2 hJ8 hq8 s
     obtain rfl:=hJ8
     refine bo (bo ?_)
     have hb9:=YW (m:=m) e0 e1 (at6 _) hq8
     replace s:=s.recell (D:=#[.bool (lq (qj L m) (d9+1))]) 4 rfl (by rw [Bd hq8];show #[Value.bool false]=#[Value.bool (qj L m d9)];rw [hb9])
     refine ⟨YW e0 e1 (at6 _) hq8,_,rfl,s.pick _ ?_⟩
     exact ar3 _ (ar3 _ (ar2 _ (List.Sublist.refl _)))
    ·intro d8 A8 w2 hd8 hqd8 hq8 hJ8 s
     obtain rfl:=hJ8
     refine bh (bh ?_)
     have hb9:qj L m d9=true:=VS hd8 hqd8
     replace s:=s.recell (D:=#[.bool (lq (qj L m) (d9+1))]) 4 rfl (by show #[Value.bool (oy m ((aN (L.getD d9 z3).1).getD d8 bz))]=#[Value.bool (qj L m d9)];rw [hb9,show oy m ((aN (L.getD d9 z3).1).getD d8 bz)=true from hqd8])
     refine ⟨VS hd8 hqd8,_,rfl,s.pick _ ?_⟩
     exact ar3 _ (ar3 _ (ar2 _ (List.Sublist.refl _)))
   ·refine ar ac 3 h rfl λf h=>bD h rfl (av h (bf fw (h.ev rfl) ((hO.1.keep s.ext).some (by omega))) rfl λf h=>bD h rfl (av h (bf xU (h.ev rfl) ((hO.1.keep s.ext).some (by omega))) rfl λf h=>bD h rfl (aE (br.elF (hO.1.keep s.ext) (d9) 1 32 (by omega) (by decide) (C:=aP (L.getD d9 z3).1.me (L.getD d9 z3).1.pr (L.getD d9 z3).2.1 (L.getD d9 z3).2.2) (eE L d9 hdl9) (D:=aI (L.getD d9 z3).1.me.2) (gE _ _ _ _)) h ca rfl (by first|exact aC _|exact aB _ _) rfl λf h=>ar ac 1 h rfl λf h=>bD h rfl (aE (aF.subL (aF.of_own s 3 rfl) 1 32 (D:=aI (_)) (c8 _)) h ca rfl (by first|exact aC _|exact aB _ _) rfl λf h=>bD h rfl (av h (a8 (.bool true) (cZ fE (h.ev rfl) (h.ev rfl)) (ar8 Value.bool e1)) rfl λf h=>ar ac 1 h rfl λf h=>bK s λw1 s=>gh h rfl (qr (aJ 2 h s di rfl rfl rfl (by simp) (rfl) λw1 s=>nt (rt (bh ?_)))))))))
    have hb9:qj L m d9=true:=VW e1
    replace s:=s.recell (D:=#[.bool (lq (qj L m) (d9+1))]) 2 rfl (by show #[Value.bool true]=#[Value.bool (qj L m d9)];rw [hb9])
    refine ⟨VW e1,_,rfl,s.pick _ ?_⟩
    exact ar2 _ (List.Sublist.refl _)
  ·refine ar ac 10 h rfl λf h=>bK s λw1 s=>gh h rfl (qr (aJ 2 h s di rfl rfl rfl (by simp) (rfl) λw1 s=>nt (rt (bh ?_))))
   have hb9:qj L m d9=true:=Vu e0
   replace s:=s.recell (D:=#[.bool (lq (qj L m) (d9+1))]) 2 rfl (by show #[Value.bool true]=#[Value.bool (qj L m d9)];rw [hb9])
   refine ⟨Vu e0,_,rfl,s.pick _ ?_⟩
   exact ar2 _ (List.Sublist.refl _)
 ·intro D9 A9 w2 hJ9 hq9 s
  obtain rfl:=hJ9
  replace h:Sl _ {f with defers:={target:=.collected D9,args:=#[]}::f.defers} _ [{target:=.collected D9,args:=#[]}]:=⟨h.size,by rw [h.defers],h.holds⟩
  refine bo (aK (qr (aJ 2 h s di rfl rfl rfl (by simp) (rfl) λw1 s=>nt (av8 ?_))))
  exact g5 2 0 rfl h s di rfl rfl rfl rfl rfl (λw9=>(ar8 Value.bool (ac1 (at6 _) hq9)).symm)
 ·intro D9 d9 A9 w2 hd9 hqd9 hq9 hJ9 s
  obtain rfl:=hJ9
  replace h:Sl _ {f with defers:={target:=.collected D9,args:=#[]}::f.defers} _ [{target:=.collected D9,args:=#[]}]:=⟨h.size,by rw [h.defers],h.holds⟩
  refine bh (aU ?_)
  exact g5 2 0 rfl h s di rfl rfl rfl rfl rfl (λw9=>ar8 Value.bool (hqd9.trans (Yw hd9 hqd9).symm))
set_option maxHeartbeats 1000000 in
theorem lg (L:List N3) (vo:Value) (w:World) (hO:kB w vo L) (hL:L.length<=40) (hb:RwB L):Calls Tryz.prog 127 [.agg #[vo]].toArray w (cd w (CpP w 72 (nds L))):=by
 refine ff Tryz.func127 rfl Tryz.ntmps127 rfl [(0,.agg #[vo])] (by simp) λf h=>?_
 have s:=St.start w
 refine qr (aZ (#[vo]) h s rfl rfl rfl λf w1 b1 h s=>aO (#[au]) h s qF rfl rfl λf w1 b2 h s=>nt (cw ac 1 h rfl λf h=>ag (V:=vo) (ae (aF.of_own s 1 rfl) 0 rfl) h ew rfl rfl λf h=>bB h s RB (rf L (by omega) vo _ (hO.1.keep s.ext) (λx hx=>(hO.2 x hx).keep s.ext)) rfl rfl ?_));intro f w1 v6 hT hE h sq;replace s:=s.sl_new hE hT
 refine al ac 1 h rfl λf h=>aJ 2 h s ew rfl rfl rfl (by show 0<1;decide) (aT (s.getSl 0 rfl)) λw1 s=>?_
 replace s:=s.recell (D:=#[v6]) 2 rfl rfl
 refine nt (ah (qr ?_))
 replace s:=s.grp0 (S:=eG (L.take 0)) (λ_ x hx=>by simp at hx)
 refine ak 3 h s cc rfl rfl (rfl) rfl λf h=>cF [.agg #[v6]] h qP (iG v6 _ _ _ s) rfl rfl ?_;rintro f w1 r ⟨bn,rfl,s⟩ h
 refine nt (av9 (eK (λd A9=>∃ (Kd:List N3) (kd:List Nat),(nds Kd=nds L/\∀ j,d<=j->Kd.getD j z3=L.getD j z3)/\A9=[.grp kd (eG (Kd.take d)),.sl v6 72 68 Kd.length (ax Kd),.blk b2 (.cells (#[au]) 24),.blk b1 (.cells #[v6] 24)]) [.grp [] (eG (L.take 0)),.sl v6 72 68 L.length (ax L),.blk b2 (.cells (#[au]) 24),.blk b1 (.cells #[v6] 24)] [.blk bn (.cells #[v6] 24)] (L.length) (λ_=>false) (λd=>[Value.pointer (some (bC v6 (d*68)))]) h s rfl mU (List.Perm.refl _) (⟨L,[],⟨rfl,λj _=>rfl⟩,rfl⟩) (λ_=>rfl) ?_ ?_ ?_ ?_))
 ·intro lp w2 GG g0 hg0 s2 hY;exact gT L.length (by omega) v6 _ _ (br.of_own (s.getSl 2 rfl)) lp bn (λ_=>false) GG g0 w w2 s2 hg0 hY
 ·intro lp D9 d9 rc R9 A9 w2 hd9 hq9 hJ9 s
  obtain ⟨Kd,kd,⟨hkn,hkj⟩,rfl⟩:=hJ9
  have h:=Sl.round1 (p:=10) (V:=.pointer (some (bC v6 (d9*68)))) h rfl
  have hdl9:=hd9
  have hlk:Kd.length=L.length:=by have h9:=ar8 List.length hkn;simpa [nds] using h9
  have hdk:d9<Kd.length:=by omega
  have hxd:Kd.getD d9 z3=L.getD d9 z3:=hkj d9 (at6 _)
  have hx9:=hb.each _ (bU hdl9)
  refine re ac 1 h rfl λf h=>⟨_,s,λw3 s=>?_⟩
  refine av9 (cw ac 3 h rfl λf h=>am h (bf g7 (h.ev rfl) ((br.of_own (s.getSl 3 rfl)).some (by omega))) rfl λf h=>ag (V:=(Kd.getD d9 z3).2.1) (dq (br.of_own (s.getSl 3 rfl)) (d9*68+66) (nj Kd d9 hdk)) h c7 rfl rfl λf h=>bB h s uO (gU (L.getD d9 z3).1.sc (by omega) (Kd.getD d9 z3).2.1 _ (by rw [hxd];exact(hO.2 _ (bU hdl9)).1.keep s.ext)) rfl rfl ?_);intro f w1 v16 hT hE h sq;replace s:=s.sl_new hE hT
  refine al ac 1 h rfl λf h=>am h (bf g7 (h.ev rfl) ((br.of_own (s.getSl 4 rfl)).some (by omega))) rfl λf h=>eP 4 h s c7 rfl rfl rfl (by omega) (aT (s.getSl 0 rfl)) (show (ax Kd).set (d9*68+66) v16=ax (Kd.set d9 ((⟨(Kd.getD d9 z3).1.me,(Kd.getD d9 z3).1.pr,(Kd.getD d9 z3).1.sc,(Kd.getD d9 z3).1.fg⟩,v16,(Kd.getD d9 z3).2.2):N3)) from yz hdk _ _) λw1 s=>nt (rs ac 3 h rfl λf h=>am h (bf oq (h.ev rfl) ((br.of_own (s.getSl 4 rfl)).some (by omega))) rfl λf h=>ag (V:=(Kd.getD d9 z3).2.2) (dq (br.of_own (s.getSl 4 rfl)) (d9*68+67) ((Iq _ d9 (by rw [List.length_set];exact hdk)).trans (by rw [k6 hdk]))) h c7 rfl rfl λf h=>bB h s uO (gU (L.getD d9 z3).1.fg (by omega) (Kd.getD d9 z3).2.2 _ (by rw [hxd];exact(hO.2 _ (bU hdl9)).2.keep s.ext)) rfl rfl ?_);intro f w1 v24 hT hE h sq;replace s:=s.sl_new hE hT
  refine al ac 1 h rfl λf h=>am h (bf oq (h.ev rfl) ((br.of_own (s.getSl 5 rfl)).some (by omega))) rfl λf h=>eP 5 h s c7 rfl rfl rfl (by omega) (aT (s.getSl 0 rfl)) (show (ax (Kd.set d9 ((⟨(Kd.getD d9 z3).1.me,(Kd.getD d9 z3).1.pr,(Kd.getD d9 z3).1.sc,(Kd.getD d9 z3).1.fg⟩,v16,(Kd.getD d9 z3).2.2):N3))).set (d9*68+67) v24=ax (Kd.set d9 ((⟨(Kd.getD d9 z3).1.me,(Kd.getD d9 z3).1.pr,(Kd.getD d9 z3).1.sc,(Kd.getD d9 z3).1.fg⟩,v16,v24):N3)) from (yN (by rw [List.length_set];exact hdk) _ (Kd.getD d9 z3).1.fg).trans (by rw [k6 hdk,Az])) λw1 s=>?_
  replace s:=s.resl (m:=(Kd.set d9 ((⟨(Kd.getD d9 z3).1.me,(Kd.getD d9 z3).1.pr,(Kd.getD d9 z3).1.sc,(Kd.getD d9 z3).1.fg⟩,v16,v24):N3)).length) (ys:=ax (Kd.set d9 ((⟨(Kd.getD d9 z3).1.me,(Kd.getD d9 z3).1.pr,(Kd.getD d9 z3).1.sc,(Kd.getD d9 z3).1.fg⟩,v16,v24):N3))) 5 rfl (by rw [List.length_set]) rfl
  refine aw (bo ?_)
  replace s:=s.bring 4 rfl
  replace s:=s.bring 1 rfl
  replace s:=s.bring 2 rfl
  replace s:St w (.sl v16 69 33 (L.getD d9 z3).1.sc.length (ap (L.getD d9 z3).1.sc)::.sl v24 69 33 (L.getD d9 z3).1.fg.length (ap (L.getD d9 z3).1.fg)::(.grp kd (eG (Kd.take d9)))::.blk lp (.loop (rc .busy))::.blk D9 (.deferred (some []))::.sl v6 72 68 (Kd.set d9 ((⟨(Kd.getD d9 z3).1.me,(Kd.getD d9 z3).1.pr,(Kd.getD d9 z3).1.sc,(Kd.getD d9 z3).1.fg⟩,v16,v24):N3)).length (ax (Kd.set d9 ((⟨(Kd.getD d9 z3).1.me,(Kd.getD d9 z3).1.pr,(Kd.getD d9 z3).1.sc,(Kd.getD d9 z3).1.fg⟩,v16,v24):N3)))::.blk b2 (.cells (#[au]) 24)::.blk b1 (.cells (#[v6]) 24)::R9) _:=s
  obtain ⟨kn,s⟩:=s.grpR (S':=eG ((Kd.set d9 ((⟨(Kd.getD d9 z3).1.me,(Kd.getD d9 z3).1.pr,(Kd.getD d9 z3).1.sc,(Kd.getD d9 z3).1.fg⟩,v16,v24):N3)).take (d9+1))) (λw9 h1 h2 h3=>Ex hdk h3 ⟨by rw [← hxd] at h1;exact h1,by rw [← hxd] at h2;exact h2⟩)
  replace s:=s.bring 2 rfl
  replace s:=s.bring 2 rfl
  replace s:St w (.blk lp (.loop (rc .busy))::.blk D9 (.deferred (some []))::(.grp kn (eG ((Kd.set d9 ((⟨(Kd.getD d9 z3).1.me,(Kd.getD d9 z3).1.pr,(Kd.getD d9 z3).1.sc,(Kd.getD d9 z3).1.fg⟩,v16,v24):N3)).take (d9+1))))::.sl v6 72 68 (Kd.set d9 ((⟨(Kd.getD d9 z3).1.me,(Kd.getD d9 z3).1.pr,(Kd.getD d9 z3).1.sc,(Kd.getD d9 z3).1.fg⟩,v16,v24):N3)).length (ax (Kd.set d9 ((⟨(Kd.getD d9 z3).1.me,(Kd.getD d9 z3).1.pr,(Kd.getD d9 z3).1.sc,(Kd.getD d9 z3).1.fg⟩,v16,v24):N3)))::.blk b2 (.cells (#[au]) 24)::.blk b1 (.cells (#[v6]) 24)::R9) _:=s
  refine ⟨rfl,_,⟨(Kd.set d9 ((⟨(Kd.getD d9 z3).1.me,(Kd.getD d9 z3).1.pr,(Kd.getD d9 z3).1.sc,(Kd.getD d9 z3).1.fg⟩,v16,v24):N3)),kn,⟨Dq hkn rfl hdk,λj hj=>(Rx (by omega) _).trans (hkj j (by omega))⟩,rfl⟩,s.pick _ ?_⟩
  exact ar2 _ (List.Sublist.refl _)
 ·intro D9 A9 w2 hJ9 hq9 s
  obtain ⟨Kd,kd,⟨hkn,hkj⟩,rfl⟩:=hJ9
  replace h:Sl _ {f with defers:={target:=.collected D9,args:=#[]}::f.defers} _ [{target:=.collected D9,args:=#[]}]:=⟨h.size,by rw [h.defers],h.holds⟩
  have hlk:Kd.length=L.length:=by have h9:=ar8 List.length hkn;simpa [nds] using h9
  rw [show Kd.take L.length=Kd from au4 (by omega)] at s
  refine bo (aK (qr (ak 5 h s cc rfl rfl (rfl) rfl λf h=>aj 4 h s cc rfl rfl rfl (rfl) (rfl) (ey (aT (s.getSl 3 rfl))) λw1 s=>nt (av8 ?_))))
  exact AL 4 0 rfl h s cc rfl rfl rfl rfl (rfl) (λw9 s9=>⟨v6,Kd,kd,rfl,hkn,s9.sel [3,2] rfl (by decide)⟩)
 ·intro D9 d9 A9 w2 hd9 hqd9 hq9 hJ9 s
  cases hqd9
theorem F9 (x y:N3) (w:World):Calls Tryz.prog 129 [.agg (aP x.1.me x.1.pr x.2.1 x.2.2),.agg (aP y.1.me y.1.pr y.2.1 y.2.2)].toArray w (cd w (is (.int .i64 (cJ x.1.me.1 y.1.me.1)))):=by
 refine bN Tryz.func129 rfl Tryz.ntmps129 rfl λf h s=>qr (aZ (aP x.1.me x.1.pr x.2.1 x.2.2) h s rfl rfl rfl λf w1 b2 h s=>aZ (aP y.1.me y.1.pr y.2.1 y.2.2) h s rfl rfl rfl λf w1 b3 h s=>e9 ac 1 h rfl λf h=>cw ac 1 h rfl λf h=>az (aF.subL (aF.of_own s 1 rfl) 0 33 (D:=ay x.1.me) (cN _ _ _ _)) h aY rfl (ai _) rfl λf h=>al ac 1 h rfl λf h=>az (aF.subL (aF.of_own s 0 rfl) 0 33 (D:=ay y.1.me) (cN _ _ _ _)) h aY rfl (ai _) rfl λf h=>dM h s JF (sI _ _ _) rfl rfl λf w1 h s=>e9 ac 1 h rfl λf h=>av8 (aA rfl h s rfl (rfl)))
theorem yx (L:List N3) (hL:L.length<=1000) (ho:∀ x∈L,x.2.1.oneCell'=true/\x.2.2.oneCell'=true) (hd:L.Pairwise λa b=>a.1.me.1≠b.1.me.1) (v:Value) (B9:List Own) (w0 w:World) (s:St w0 (.sl v 72 68 L.length (ax L)::B9) w):
 Calls Tryz.prog 128 [v,.func (.func 129) #[] #[]].toArray w (λe w'=>∃ r,e=.returned r/\∃ K:List N3,K.Perm L/\(K.Pairwise λa b=>a.1.me.1<b.1.me.1)/\St w0 (.sl v 72 68 K.length (ax K)::B9) w'):=by
 by_cases h0:L.length=0
 ·have hl:L=[]:=List.eq_nil_of_length_eq_zero h0
  subst hl
  obtain ⟨a,c,rfl⟩:=cP (s.getSl 0 rfl)
  refine(Go.Proofs.AnyF.slices_SortFunc_none (P:=Tryz.prog) (ρ:=Tryz.layN_ren) Tryz.layN a c (.func (.func 129) #[] #[]) w).mono ?_
  rintro e w' ⟨rfl,rfl⟩
  exact ⟨_,rfl,[],List.Perm.refl _,List.Pairwise.nil,s⟩
 ·obtain ⟨l,hl⟩:∃ l,l=Vc L ho:=⟨_,rfl⟩
  have hm:l.map (·.1)=L:=by rw [hl];exact ze L ho
  have hln:l.length=L.length:=by rw [hl];exact IP L ho
  have hc:ax L=iu l:=by rw [qU,hm]
  rw [hc,← hln] at s
  obtain ⟨g,cap,rfl,hlt,hgo,hH,hst⟩:=Mf s rfl (by omega)
  have hcon:=Go.Proofs.AnyQ.slices_SortFunc (P:=Tryz.prog) (ρ:=Tryz.layN_ren) Tryz.layN 68 Tryz.isAgg72 Tryz.sizeOf72 rH qm Jz (λx y:qd=>cJ x.1.1.me.1 y.1.1.me.1) GY 129 #[] g 0 cap l.toArray w (enters_of Tryz.func129 (by kernel_rfl) rfl) (λm os dk _ x y=>by
   have h9:=F9 x.1 y.1 (Go.Proofs.sortWorldK rH 68 w g 0 m dk os)
   refine h9.mono ?_
   rintro e w' ⟨v,rfl,hv,hE⟩
   obtain rfl:=hv
   exact ⟨rfl,vV hE⟩) hH hlt (by rw [List.size_toArray];omega)
  refine hcon.mono ?_
  rintro e w' ⟨rfl,d',n,os,hp,hs,rfl⟩
  have hsz:d'.size=l.length:=by rw [hp.1,List.size_toArray]
  have s2:=hst n os d' hsz
  obtain ⟨h1,h2⟩:=Gx (l:=l) (by rw [← hm] at hd;exact IV.1 hd) hp hs
  have hKl:(d'.toList.map (·.1)).length=l.length:=by rw [av6,as7,hsz]
  refine ⟨_,rfl,d'.toList.map (·.1),?_,IV.2 h2,?_⟩
  ·rw [← hm];exact h1.map _
  ·rw [qU] at s2;rw [hKl];exact s2
theorem Bt (L:List N3) (vo:Value) (w:World) (hO:kB w vo L) (hL:L.length<=40) (hd:L.Pairwise λa b=>a.1.me.1≠b.1.me.1):Calls Tryz.prog 137 [.agg #[vo]].toArray w (cd w (λv w9=>∃ bm,v=.map (some bm)/\St w [.blk bm (jm (dE L))] w9)):=by
 refine ff Tryz.func137 rfl Tryz.ntmps137 rfl [(0,.agg #[vo])] (by simp) λf h=>?_
 have s:=St.start w
 refine qr (aZ (#[vo]) h s rfl rfl rfl λf w1 b1 h s=>e9 ac 1 h rfl λf h=>qr (oX h s rfl ?_));intro f w1 b5 h s
 refine aO (#[.map none]) h s PQ rfl rfl λf w1 b3 h s=>aJ 0 h s vA rfl rfl rfl (by simp) (rfl) λw1 s=>nt (ah (qr (ak 2 h s cc rfl rfl (rfl) rfl λf h=>cF [.agg #[vo]] h qP (iG vo _ _ _ s) rfl rfl ?_)));rintro f w1 r ⟨bn,rfl,s⟩ h
 refine nt (av9 (eK (λd A9=>A9=[.blk b3 (.cells #[.map (some b5)] 220),.blk b5 (jm (dE (L.take d))),.blk b1 (.cells #[vo] 24)]) [.blk b3 (.cells #[.map (some b5)] 220),.blk b5 (jm (dE (L.take 0))),.blk b1 (.cells #[vo] 24)] [.blk bn (.cells #[vo] 24)] (L.length) (λ_=>false) (λd=>[Value.pointer (some (bC vo (d*68)))]) h s rfl mU (List.Perm.refl _) (rfl) (λ_=>rfl) ?_ ?_ ?_ ?_))
 ·intro lp w2 GG g0 hg0 s2 hY;exact gT L.length (by omega) vo _ _ hO.1 lp bn (λ_=>false) GG g0 w w2 s2 hg0 hY
 ·intro lp D9 d9 rc R9 A9 w2 hd9 hq9 hJ9 s
  obtain rfl:=hJ9
  have h:=Sl.round1 (p:=8) (V:=.pointer (some (bC vo (d9*68)))) h rfl
  have hdl9:=hd9
  refine re ac 1 h rfl λf h=>⟨_,s,λw3 s=>?_⟩
  refine av9 (cQ 7 h (by kernel_rfl) (fA 2 h s vA rfl rfl (rfl) rfl λf h=>ar ac 2 h rfl λf h=>av h (bf fw (h.ev rfl) ((hO.1.keep s.ext).some (by omega))) rfl λf h=>av h (bf gD (h.ev rfl) ((hO.1.keep s.ext).some (by omega))) rfl λf h=>ao (V:=.int .i64 (L.getD d9 z3).1.me.1) (dq (hO.1.keep s.ext) (d9*68+0) (zJ L d9 hdl9)) h bu rfl rfl λf h=>av h (BM Wl) rfl λf h=>bK s λw1 s=>L4 3 h s aD5 aB7 rfl rfl rfl rfl (zR (Hm hd hdl9)) ?_));intro w1 s
  refine aw (bo ?_)
  replace s:=s.reob9 (o':=jm (dE (L.take (d9+1)))) 3 rfl ((OG _ _).trans (by rw [Mj hdl9]))
  refine ⟨rfl,_,rfl,s.pick _ ?_⟩
  exact ar2 _ (List.Sublist.refl _)
 ·intro D9 A9 w2 hJ9 hq9 s
  obtain rfl:=hJ9
  replace h:Sl _ {f with defers:={target:=.collected D9,args:=#[]}::f.defers} _ [{target:=.collected D9,args:=#[]}]:=⟨h.size,by rw [h.defers],h.holds⟩
  rw [List.take_length] at s
  refine bo (aK (qr (cK 2 h s vA rfl rfl (rfl) rfl λf h=>e9 ac 1 h rfl λf h=>av8 ?_)))
  exact AA 0 rfl h s rfl rfl (λw9 s9=>⟨b5,rfl,s9.sel [3] rfl (by decide)⟩)
 ·intro D9 d9 A9 w2 hd9 hqd9 hq9 hJ9 s
  cases hqd9
theorem Dx (ks:List Int) (bm:Nat) (no:Int) (w:World) (hm:w.heap[bm]? = some (jm ks)):Calls Tryz.prog 205 [.map (some bm),.int .i64 no].toArray w (cd w (is (.bool (decide (no∈ks))))):=by
 refine bN Tryz.func205 rfl Tryz.ntmps205 rfl λf h s=>bJ ac 1 h rfl λf h=>cw ac 2 h rfl λf h=>A7 (V:=.agg #[]) (ok:=decide (no∈ks)) h (F8 hm s.ext) aD5 aB7 DW rfl rfl (Mv ks no) rfl ?_;intro f h
 refine al ac 3 h rfl λf h=>aO (#[]) h s DW rfl rfl λf w1 b5 h s=>aj 0 h s Ty rfl rfl rfl (rfl) (rfl) (λ_ h=>by cases h) λw1 s=>e9 ac 1 h rfl λf h=>bJ ac 2 h rfl λf h=>av8 (aA rfl h s rfl (rfl))
theorem An (l:List Mb) (vh:Value) (g9:Nat) (caps:List Value) (p:Mb->Bool) (w:World) (hR:br w vh 33 l.length (ap l)) (hln:l.length<=1000) (hg:Fnc Tryz.prog g9) (hp:∀ w9,Ext w w9->∀ x∈l,Calls Tryz.prog g9 (.agg (ay x)::caps).toArray w9 (cd w9 (is (.bool (p x))))):Calls Tryz.prog 181 [vh,.func (.func g9) #[] caps.toArray].toArray w (cd w (λv _=>∃ r:Int,v=.int .i64 r/\((r = -1/\∀ x∈l,p x=false)∨∃ k:Nat,k<l.length/\r=(k:Int)/\p (l.getD k bz)=true/\∀ i,i<k->p (l.getD i bz)=false))):=by
 refine bN Tryz.func181 rfl Tryz.ntmps181 rfl λf h s=>bJ ac 1 h rfl λf h=>ah (cw ac 1 h rfl λf h=>bT h (hR.keep s.ext) aD1 rfl rfl λf h=>e9 ac 1 h rfl λf h=>av9 (aw1 (λnn aa ww=>∃ k:Nat,Sl 19 aa [(0,vh),(1,.func (.func g9) #[] caps.toArray),(6,vh),(7,.int .i64 (l.length:Int)),(8,.int .i64 (k:Int))]/\St w [] ww/\nn=l.length - k/\k<=l.length/\∀ i (hi:i<l.length),i<k->p l[i]=false) (l.length - (0)) ⟨0,h.only ⟨rfl,rfl,rfl,rfl,aD rfl (by omega),trivial⟩,s.as trivial,rfl,at8 _,λi hi h9=>az2 h9 (ax1 _)⟩ ?_))
 rintro _ f w1 ⟨k,h,s,hnn,hp0,hp1⟩
 refine bJ ac 1 h rfl λf h=>ah (dA h rfl (λhc=>?_) (λhc=>?_))
 ·refine kt (ah (av9 (bJ ac 2 h rfl λf h=>qr ?_)))
  have hkl:k<l.length:=by omega
  refine al ac 3 h rfl λf h=>am h (bg (hR.keep s.ext) (k) aD1 ed (h.ev rfl) (h.ev rfl) (by omega) (by omega)) rfl λf h=>az ((hR.keep s.ext).el (k) (by omega) (by decide) (D:=ay l[k]) (L9 l k hkl)) h aY rfl (ai _) rfl λf h=>eS [.agg (ay l[k])] (caps:=caps) h s hg rfl (hp _ s.ext _ (ax6 hkl)) rfl rfl ?_;intro f w1 v9 hT hE h s;obtain rfl:=hT
  refine nt (cr h rfl (λhc=>?_) (λhc=>?_))
  ·refine bJ ac 2 h rfl λf h=>av8 (bh (aU (aU (bh (aU (aA rfl h s rfl (⟨_,rfl,.inr ⟨k,hkl,rfl,by rw [← yo hkl];exact hc,λi hi=>by rw [← yo (show i<l.length by omega)];exact hp1 i (by omega) hi⟩⟩)))))))
  ·refine wpIn_skip (bo (aK (aG (am h (bY (h.ev rfl) (h.ev rfl) (by omega)) rfl λf h=>e9 ac 1 h rfl λf h=>?_))))
   exact ⟨_,by omega,⟨k+1,h.only ⟨rfl,rfl,rfl,rfl,aD rfl (by omega),trivial⟩,St.as s trivial,rfl,by omega,ry (λy=>p y=false) hp1 hkl hc⟩⟩
 ·refine aw0 (ba (ba (cj (aK (bJ ac 1 h rfl λf h=>av8 (aA rfl h s rfl (⟨_,rfl,.inl ⟨rfl,λx hx=>(by obtain ⟨i,hi,e⟩:=ax7 hx;rw [← e];exact hp1 i hi (by omega))⟩⟩)))))))
set_option maxHeartbeats 1000000 in
theorem pN (l:List Mb) (hln:l.length<=1000) (vh:Value) (g9:Nat) (caps:List Value) (p:Mb->Bool) (B9:List Own) (w0 w:World) (s:St w0 (.sl vh 69 33 (l).length (ap (l))::B9) w) (hg:Fnc Tryz.prog g9) (hp:∀ (A9:List Own) (w9:World),St w0 (A9++B9) w9->∀ x∈l,Calls Tryz.prog g9 (.agg (ay x)::caps).toArray w9 (cd w9 (is (.bool (p x))))):Calls Tryz.prog 267 [vh,.func (.func g9) #[] caps.toArray].toArray w (λe w9=>∃ v9,e=.returned v9/\St w0 (.sl v9 69 33 ((l.filter λx => !p x)).length (ap ((l.filter λx => !p x)))::B9) w9):=by
 refine cO Tryz.func267 rfl Tryz.ntmps267 rfl [(0,vh),(1,.func (.func g9) #[] caps.toArray)] (by simp) λf h=>?_
 refine bJ ac 1 h rfl λf h=>cw ac 2 h rfl λf h=>bB h s JT (An l vh g9 caps p _ (br.of_own (s.getSl 0 rfl)) hln hg (λw9 h9 x hx=>hp [_] w9 (s.more h9) x hx)) rfl rfl ?_;rintro f w1 v9 ⟨r9,rfl,hr⟩ hE h s
 refine e9 ac 1 h rfl λf h=>ah (bJ ac 2 h rfl λf h=>cr h rfl (λhc=>?_) (λhc=>?_))
 ·have hc:=ar4 hc
  have hn:=(hr.resolve_right (λ⟨k9,_,h9,_⟩=>by omega)).2
  refine bJ ac 2 h rfl λf h=>rt (dG rfl h rfl (⟨_,rfl,vB (Gy hn).symm s⟩))
 ·obtain ⟨k9,Dw,rfl,hpk,hpf⟩:=hr.resolve_left (λh9=>ar5 hc h9.1)
  have hqk:(!p (l.getD k9 bz))=false:=by rw [hpk];rfl
  obtain ⟨hst1,hst2⟩:=Fy (q:=(λx => !p x)) Dw (λi hi=>by rw [hpf i hi];rfl) hqk
  refine kt (ah (cw ac 1 h rfl λf h=>am h (bY (h.ev rfl) (h.ev rfl) (by omega)) rfl λf h=>e9 ac 1 h rfl λf h=>av9 (aw1 (λnn aa ww=>∃ j:Nat,Sl 42 aa [(0,vh),(1,.func (.func g9) #[] caps.toArray),(8,vh),(5,.int .i64 (((np (λx => !p x) l j):Nat):Int)),(6,.int .i64 (j:Int))]/\St w0 (.sl vh 69 33 (l).length (ap (wW (λx => !p x) l j))::B9) ww/\nn=l.length - j/\k9+1<=j/\j<=l.length) (l.length - (k9+1)) ⟨k9+1,h.only ⟨rfl,rfl,rfl,aD rfl (by omega),aD rfl (by omega),trivial⟩,s.as ⟨ib rfl (by rw [hst1]),l5 _⟩,rfl,by omega,by omega⟩ ?_)))
  rintro _ f w1 ⟨j,h,s,hnn,hp0,hp1⟩
  refine ah (cw ac 2 h rfl λf h=>f7 0 h s aD1 rfl rfl rfl λf h=>e9 ac 1 h rfl λf h=>dA h rfl (λhc=>?_) (λhc=>?_))
  ·refine kt (ah (av9 (qr ?_)))
   have hjl:j<l.length:=by omega
   have hix:=AV (λx => !p x) l j
   refine al ac 2 h rfl λf h=>am h (bg (br.of_own (s.getSl 0 rfl)) (j) aD1 ed (h.ev rfl) (h.ev rfl) (rfl) (by omega)) rfl λf h=>az ((br.of_own (s.getSl 0 rfl)).el (j) (by omega) (by decide) (D:=ay (l.getD j bz)) ((fu (wW (λx => !p x) l j) j (by rw [Ds];omega)).trans (by rw [P6 hjl]))) h aY rfl (ai _) rfl λf h=>aO (ay bz) h s eV rfl rfl λf w1 b7 h s=>aj 0 h s aY rfl rfl rfl (ai _) (ai _) (bI _) λw1 s=>nt (ah ?_)
   cases hq:(p (l.getD j bz):Bool)
   ·refine rs ac 1 h rfl λf h=>ak 0 h s aY rfl rfl (ai _) rfl λf h=>eS [.agg (ay (l.getD j bz))] (caps:=caps) h s hg rfl (hp [_,_] _ s _ (iI hjl)) rfl rfl ?_;intro f w1 v28 hT hE h s;obtain rfl:=hT
    refine lr ac (.bool true) h rfl (by rw [hq];rfl) rfl λf h=>gh h rfl (cw ac 2 h rfl λf h=>ak 0 h s aY rfl rfl (ai _) rfl λf h=>am h (bg (br.of_own (s.getSl 1 rfl)) ((np (λx => !p x) l j)) aD1 ed (h.ev rfl) (h.ev rfl) (rfl) (by omega)) rfl λf h=>gl 1 ((np (λx => !p x) l j)) h s aY rfl rfl rfl (ai _) (by omega) (bI _) ((KV (l:=(wW (λx => !p x) l j)) _ (by rw [Ds];omega)).trans (ar8 ap (Eu (q:=(λx => !p x)) hjl (by rw [hq];rfl)).1.symm)) λw1 s=>nt (rs ac 1 h rfl λf h=>am h (bY (h.ev rfl) (h.ev rfl) (by omega)) rfl λf h=>al ac 1 h rfl λf h=>aw (bo (aK (rs ac 1 h rfl λf h=>am h (bY (h.ev rfl) (h.ev rfl) (by omega)) rfl λf h=>e9 ac 1 h rfl λf h=>?_)))))
    have h8:=(Eu (q:=(λx => !p x)) hjl (by rw [hq];rfl)).2
    exact ⟨_,by omega,⟨j+1,h.only ⟨rfl,rfl,rfl,aD rfl (by omega),aD rfl (by omega),trivial⟩,St.as (s.pick _ (at3 [_] _)) ⟨rfl,l5 _⟩,rfl,by omega,by omega⟩⟩
   ·refine rs ac 1 h rfl λf h=>ak 0 h s aY rfl rfl (ai _) rfl λf h=>eS [.agg (ay (l.getD j bz))] (caps:=caps) h s hg rfl (hp [_,_] _ s _ (iI hjl)) rfl rfl ?_;intro f w1 v28 hT hE h s;obtain rfl:=hT
    refine lr ac (.bool false) h rfl (by rw [hq];rfl) rfl λf h=>oW h rfl (wpIn_skip (bo (aK (rs ac 1 h rfl λf h=>am h (bY (h.ev rfl) (h.ev rfl) (by omega)) rfl λf h=>e9 ac 1 h rfl λf h=>?_))))
    obtain ⟨h7,h8⟩:=Hk (q:=(λx => !p x)) hjl (by rw [hq];rfl)
    exact ⟨_,by omega,⟨j+1,h.only ⟨rfl,rfl,rfl,aD rfl (by omega),aD rfl (by omega),trivial⟩,St.as (s.pick _ (at3 [_] _)) ⟨ib rfl (by rw [h7]),l5 _⟩,rfl,by omega,by omega⟩⟩
  ·refine aw0 (ba (ba (cj (aK (qr ?_)))))
   obtain rfl:j=l.length:=by omega
   have hlt:=SI (q:=(λx => !p x)) Dw hqk
   have hI:=Ok (λx => !p x) l
   obtain ⟨b9,cap,cur,fz,hvh,hfz,hnc,hcm,hcs,hct,s2⟩:=s.open_sl (by omega)
   clear s
   subst hvh
   have s:=s2
   have hz33:(Value.agg (ay bz)).cells.size=33:=ai _
   refine al ac 2 h rfl λf h=>am h (a8 (.slice (some ⟨b9,(np (λx => !p x) l l.length)*33,none⟩) (l.length - (np (λx => !p x) l l.length)) (cap - (np (λx => !p x) l l.length))) (qf (i:=(np (λx => !p x) l l.length)) aD1 ed (h.ev rfl) (h.ev rfl) rfl (by omega)) (by unfold Zi;rw [if_neg (by omega)])) rfl λf h=>zt (fz:=fz) (Z:=.agg (ay bz)) 0 h s aD1 eV rfl (by omega) rfl hfz (by rw [hz33];omega) (bI _) ?_;intro w1 s
   refine nt (cw ac 2 h rfl λf h=>am h (p9 (i:=(np (λx => !p x) l l.length)) aD1 ed (h.ev rfl) (h.ev rfl) rfl (by omega)) rfl λf h=>e9 ac 1 h rfl λf h=>av8 (dG rfl h rfl (⟨_,rfl,(by have hzl:(Builtin.zeroCells (Value.agg (ay bz)).cells (l.length - (np (λx => !p x) l l.length))).toList.length=(l.length - (l.filter λx => !p x).length)*33:=(by rw [as7,size_zeroCells,hz33,hI]);obtain ⟨hf1,hf2⟩:=JU cur.toList _ (λx => !p x) l hct (by have e9:=as7 (xs:=cur);omega) hzl ((np (λx => !p x) l l.length)*33) (by rw [hI]) ((l.length - (np (λx => !p x) l l.length))*(Value.agg (ay bz)).cells.size) (by rw [hz33,hI]);rw [← hI];exact s.close_sl (by rw [List.size_toArray];exact hfz.imp id λh9=>(by rw [hf1,as7];exact h9)) (by omega) hcm (by rw [List.size_toArray];exact hf1.trans hcs) hf2 (by rw [i1,hI]))⟩)))
theorem GH (nos:List Int) (vn:Value) (no:Int) (w:World) (hN:br w vn 1 nos.length (nos.map (Value.int .i64))) (hnn:nos.length<=1000):Calls Tryz.prog 305 [vn,.int .i64 no].toArray w (cd w (λv _=>∃ r:Int,v=.int .i64 r/\((r = -1/\∀ k,k<nos.length->nos.getD k 0≠no)∨∃ k:Nat,k<nos.length/\r=(k:Int)/\nos.getD k 0=no))):=by
 refine bN Tryz.func305 rfl Tryz.ntmps305 rfl λf h s=>bJ ac 1 h rfl λf h=>ah (cw ac 1 h rfl λf h=>bT h (hN.keep s.ext) aC7 rfl rfl λf h=>e9 ac 1 h rfl λf h=>av9 (aw1 (λnn aa ww=>∃ k:Nat,Sl 19 aa [(0,vn),(1,.int .i64 no),(6,vn),(7,.int .i64 (nos.length:Int)),(8,.int .i64 (k:Int))]/\St w [] ww/\nn=nos.length - k/\k<=nos.length/\∀ j,j<k->decide (no=nos.getD j 0)=false) (nos.length - (0)) ⟨0,h.only ⟨rfl,rfl,rfl,rfl,aD rfl (by omega),trivial⟩,s.as trivial,rfl,at8 _,λj hj=>az2 hj (ax1 _)⟩ ?_))
 rintro _ f w1 ⟨k,h,s,hnn,hp0,hp1⟩
 refine bJ ac 1 h rfl λf h=>ah (dA h rfl (λhc=>?_) (λhc=>?_))
 ·refine kt (ah (av9 (bJ ac 2 h rfl λf h=>qr ?_)))
  have hkl:k<nos.length:=by omega
  refine al ac 3 h rfl λf h=>am h (bg (hN.keep s.ext) (k) aC7 Xt (h.ev rfl) (h.ev rfl) (by omega) (by omega)) rfl λf h=>ag ((hN.keep s.ext).el1 (k) (V:=.int .i64 (nos.getD k 0)) (WP nos k hkl)) h bu rfl rfl λf h=>e9 ac 1 h rfl λf h=>cr h rfl (λhc=>?_) (λhc=>?_)
  ·refine bJ ac 2 h rfl λf h=>av8 (bh (aU (aU (bh (aU (aA rfl h s rfl (⟨_,rfl,.inr ⟨k,hkl,rfl,(ar4 hc).symm⟩⟩)))))))
  ·refine wpIn_skip (bo (aK (aG (am h (bY (h.ev rfl) (h.ev rfl) (by omega)) rfl λf h=>e9 ac 1 h rfl λf h=>?_))))
   exact ⟨_,by omega,⟨k+1,h.only ⟨rfl,rfl,rfl,rfl,aD rfl (by omega),trivial⟩,St.as s trivial,rfl,by omega,gY (q:=λj=>decide (no=nos.getD j 0)) hp1 hc⟩⟩
 ·refine aw0 (ba (ba (cj (aK (bJ ac 1 h rfl λf h=>av8 (aA rfl h s rfl (⟨_,rfl,.inl ⟨rfl,λi hi e9=>ar5 (hp1 i (by omega)) e9.symm⟩⟩)))))))
theorem E5 (nos:List Int) (vn:Value) (no:Int) (w:World) (hN:br w vn 1 nos.length (nos.map (Value.int .i64))) (hnn:nos.length<=1000):Calls Tryz.prog 264 [vn,.int .i64 no].toArray w (cd w (is (.bool (nos.any λk=>decide (k=no))))):=by
 refine bN Tryz.func264 rfl Tryz.ntmps264 rfl λf h s=>bJ ac 1 h rfl λf h=>cw ac 2 h rfl λf h=>bB h s Te (GH nos vn no _ (hN.keep s.ext) hnn) rfl rfl ?_;rintro f w1 v9 ⟨r9,rfl,hr⟩ hE h s
 refine lr ac (.bool (nos.any λk=>decide (k=no))) h rfl (ar8 Value.bool (Qi hr)) rfl λf h=>e9 ac 1 h rfl λf h=>av8 (aA rfl h s rfl (rfl))
theorem Gq  (w:World):Calls Tryz.prog 213 [].toArray w (cd w (is (.agg (ay fe)))):=by
 refine bN Tryz.func213 rfl Tryz.ntmps213 rfl λf h s=>qr (aO (ay bz) h s eV rfl rfl λf w1 b0 h s=>nt (qr (am h (nY AK rfl) rfl λf h=>aj 0 h s aY rfl rfl rfl (ai _) (ai _) (bI _) λw1 s=>nt (av8 (iP 0 rfl h s aY rfl rfl (ai _) (rfl))))))
theorem AB (l r:List Mb) (vh vu:Value) (w:World) (hR:br w vh 33 l.length (ap l)) (hS:br w vu 33 r.length (ap r)) (hln:l.length<=1000) (hln2:r.length<=1000):Calls Tryz.prog 104 [vh,vu].toArray w (cd w (is (.bool (decide (l=r))))):=by
 refine bN Tryz.func104 rfl Tryz.ntmps104 rfl λf h s=>bJ ac 1 h rfl λf h=>ah (cw ac 1 h rfl λf h=>bT h (hR.keep s.ext) aD1 rfl rfl λf h=>al ac 1 h rfl λf h=>bT h (hS.keep s.ext) aD1 rfl rfl λf h=>e9 ac 1 h rfl λf h=>cr h rfl (λhc=>?_) (λhc=>?_))
 ·replace hc:=hc
  refine bJ ac 1 h rfl λf h=>rt (aA rfl h s rfl ((by show _=_;rw [ar6 (λe=>by subst e;simp at hc)])))
 ·have hl9:l.length=r.length:=by have:=hc;simp at this;omega
  refine kt (ah (cw ac 1 h rfl λf h=>bT h (hR.keep s.ext) aD1 rfl rfl λf h=>e9 ac 1 h rfl λf h=>av9 (aw1 (λnn aa ww=>∃ k:Nat,Sl 26 aa [(0,vh),(1,vu),(11,vh),(12,.int .i64 (l.length:Int)),(13,.int .i64 (k:Int))]/\St w [] ww/\nn=l.length - k/\k<=l.length/\∀ j,j<k->l.getD j bz=r.getD j bz) (l.length - (0)) ⟨0,h.only ⟨rfl,rfl,rfl,rfl,aD rfl (by omega),trivial⟩,s.as trivial,rfl,at8 _,λj hj=>az2 hj (ax1 _)⟩ ?_)))
  rintro _ f w1 ⟨k,h,s,hnn,hp0,hp1⟩
  refine bJ ac 1 h rfl λf h=>ah (dA h rfl (λhc=>?_) (λhc=>?_))
  ·refine kt (ah (av9 (bJ ac 2 h rfl λf h=>ah (cQ 9 h (by kernel_rfl) ?_))))
   have hka:k<l.length:=by omega
   have hkb:k<r.length:=by omega
   refine ar ac 2 h rfl λf h=>av h (bg (hR.keep s.ext) (k) aD1 ed (h.ev rfl) (h.ev rfl) (by omega) (by omega)) rfl λf h=>aE ((hR.keep s.ext).el (k) (by omega) (by decide) (D:=ay (l.getD k bz)) (fu l k hka)) h aY rfl (ai _) rfl λf h=>ar ac 2 h rfl λf h=>av h (bg (hS.keep s.ext) (k) aD1 ed (h.ev rfl) (h.ev rfl) (by omega) (by omega)) rfl λf h=>aE ((hS.keep s.ext).el (k) (by omega) (by decide) (D:=ay (r.getD k bz)) (fu r k hkb)) h aY rfl (ai _) rfl λf h=>av h (ge (uW _ _) (by kernel_rfl) (by decide) (h.ev rfl) (h.ev rfl) (decide ((l.getD k bz)=r.getD k bz)) (jC _ _)) rfl λf h=>bK s λw1 s=>nt (cr h rfl (λhc=>?_) (λhc=>?_))
   ·refine bJ ac 1 h rfl λf h=>av8 (bh (aU (aU (bh (aU (aA rfl h s rfl ((by show _=_;rw [ar6 (λe=>by subst e;simp at hc)]))))))))
   ·refine wpIn_skip (bo (aK (aG (am h (bY (h.ev rfl) (h.ev rfl) (by omega)) rfl λf h=>e9 ac 1 h rfl λf h=>?_))))
    exact ⟨_,by omega,⟨k+1,h.only ⟨rfl,rfl,rfl,rfl,aD rfl (by omega),trivial⟩,St.as s trivial,rfl,by omega,H8 hp1 (by simpa using hc)⟩⟩
  ·refine aw0 (ba (ba (cj (aK (bJ ac 1 h rfl λf h=>av8 (aA rfl h s rfl ((by show _=_;rw [ar7 (OA hl9 (λj hj=>hp1 j (by omega)))]))))))))
theorem yi (a b:Nd) (u1 u2 v1 v2:Value) (w:World) (hA1:br w u1 33 a.sc.length (ap a.sc)) (hA2:br w u2 33 a.fg.length (ap a.fg)) (hB1:br w v1 33 b.sc.length (ap b.sc)) (hB2:br w v2 33 b.fg.length (ap b.fg)) (ha1:a.sc.length<=1000) (ha2:a.fg.length<=1000) (hb1:b.sc.length<=1000) (hb2:b.fg.length<=1000):Calls Tryz.prog 60 [.agg (aP a.me a.pr u1 u2),.agg (aP b.me b.pr v1 v2)].toArray w (cd w (is (.bool (gM a b)))):=by
 refine bN Tryz.func60 rfl Tryz.ntmps60 rfl λf h s=>qr (aZ (aP a.me a.pr u1 u2) h s rfl rfl rfl λf w1 b2 h s=>aZ (aP b.me b.pr v1 v2) h s rfl rfl rfl λf w1 b3 h s=>e9 ac 1 h rfl λf h=>ah ?_)
 cases e0:(decide (a.me=b.me):Bool)
 ·refine rs ac 1 h rfl λf h=>az (aF.subL (aF.of_own s 1 rfl) 0 33 (D:=ay a.me) (cN _ _ _ _)) h aY rfl (ai _) rfl λf h=>al ac 1 h rfl λf h=>az (aF.subL (aF.of_own s 0 rfl) 0 33 (D:=ay b.me) (cN _ _ _ _)) h aY rfl (ai _) rfl λf h=>am h (a8 (.bool false) (dS (uW _ _) (by kernel_rfl) (by decide) (h.ev rfl) (h.ev rfl) (decide (a.me=b.me)) (jC _ _)) (ar8 Value.bool e0)) rfl λf h=>e9 ac 22 h rfl λf h=>av8 (aA rfl h s rfl (by show _=_;rw [aa8 e0]))
 ·skip
  cases e1:(decide (a.pr=b.pr):Bool)
  ·refine rs ac 1 h rfl λf h=>az (aF.subL (aF.of_own s 1 rfl) 0 33 (D:=ay a.me) (cN _ _ _ _)) h aY rfl (ai _) rfl λf h=>al ac 1 h rfl λf h=>az (aF.subL (aF.of_own s 0 rfl) 0 33 (D:=ay b.me) (cN _ _ _ _)) h aY rfl (ai _) rfl λf h=>am h (a8 (.bool true) (dS (uW _ _) (by kernel_rfl) (by decide) (h.ev rfl) (h.ev rfl) (decide (a.me=b.me)) (jC _ _)) (ar8 Value.bool e0)) rfl λf h=>al ac 2 h rfl λf h=>bF h rfl (az (aF.subL (aF.of_own s 1 rfl) 33 33 (D:=ay a.pr) (fm _ _ _ _)) h aY rfl (ai _) rfl λf h=>al ac 1 h rfl λf h=>bF h rfl (az (aF.subL (aF.of_own s 0 rfl) 33 33 (D:=ay b.pr) (fm _ _ _ _)) h aY rfl (ai _) rfl λf h=>bF h rfl (am h (a8 (.bool false) (dS (uW _ _) (by kernel_rfl) (by decide) (h.ev rfl) (h.ev rfl) (decide (a.pr=b.pr)) (jC _ _)) (ar8 Value.bool e1)) rfl λf h=>e9 ac 16 h rfl λf h=>av8 (aA rfl h s rfl (by show _=_;rw [ag7 e1])))))
  ·skip
   refine rs ac 1 h rfl λf h=>az (aF.subL (aF.of_own s 1 rfl) 0 33 (D:=ay a.me) (cN _ _ _ _)) h aY rfl (ai _) rfl λf h=>al ac 1 h rfl λf h=>az (aF.subL (aF.of_own s 0 rfl) 0 33 (D:=ay b.me) (cN _ _ _ _)) h aY rfl (ai _) rfl λf h=>am h (a8 (.bool true) (dS (uW _ _) (by kernel_rfl) (by decide) (h.ev rfl) (h.ev rfl) (decide (a.me=b.me)) (jC _ _)) (ar8 Value.bool e0)) rfl λf h=>al ac 2 h rfl λf h=>bF h rfl (az (aF.subL (aF.of_own s 1 rfl) 33 33 (D:=ay a.pr) (fm _ _ _ _)) h aY rfl (ai _) rfl λf h=>al ac 1 h rfl λf h=>bF h rfl (az (aF.subL (aF.of_own s 0 rfl) 33 33 (D:=ay b.pr) (fm _ _ _ _)) h aY rfl (ai _) rfl λf h=>bF h rfl (am h (a8 (.bool true) (dS (uW _ _) (by kernel_rfl) (by decide) (h.ev rfl) (h.ev rfl) (decide (a.pr=b.pr)) (jC _ _)) (ar8 Value.bool e1)) rfl λf h=>al ac 3 h rfl λf h=>bF h rfl (ag (V:=u1) (ae (aF.of_own s 1 rfl) 66 (gc _ _ _ _)) h c7 rfl rfl λf h=>al ac 1 h rfl λf h=>bF h rfl (ag (V:=v1) (ae (aF.of_own s 0 rfl) 66 (gc _ _ _ _)) h c7 rfl rfl λf h=>bF h rfl (eC h s J6 (AB a.sc b.sc u1 v1 _ (hA1.keep s.ext) (hB1.keep s.ext) ha1 hb1) rfl rfl (λe2 f w1 h s=>?_) (λe2 f w1 h s=>?_)))))))
   ·refine e9 ac 9 h rfl λf h=>av8 (aA rfl h s rfl (by show _=_;rw [ah4 e2]))
   ·refine al ac 3 h rfl λf h=>bF h rfl (ag (V:=u2) (ae (aF.of_own s 1 rfl) 67 (ik _ _ _ _)) h c7 rfl rfl λf h=>al ac 1 h rfl λf h=>bF h rfl (ag (V:=v2) (ae (aF.of_own s 0 rfl) 67 (ik _ _ _ _)) h c7 rfl rfl λf h=>bF h rfl (dM h s J6 (AB a.fg b.fg u2 v2 _ (hA2.keep s.ext) (hB2.keep s.ext) ha2 hb2) rfl rfl λf w1 h s=>e9 ac 2 h rfl λf h=>av8 (aA rfl h s rfl (by show _=_;rw [ae9 e0 e1 e2])))))
theorem E3 (L K:List N3) (vo vp:Value) (w:World) (hO:kB w vo L) (hL:L.length<=40) (hP:kB w vp K) (hK:K.length<=40) (hbL:RwB L) (hbK:RwB K):Calls Tryz.prog 25 [.agg #[vo],.agg #[vp]].toArray w (cd w (is (.bool (uL (nds L) (nds K))))):=by
 refine bN Tryz.func25 rfl Tryz.ntmps25 rfl λf h s=>qr (aZ (#[vo]) h s rfl rfl rfl λf w1 b2 h s=>aZ (#[vp]) h s rfl rfl rfl λf w1 b3 h s=>e9 ac 1 h rfl λf h=>ah (cw ac 1 h rfl λf h=>ag (V:=vo) (ae (aF.of_own s 1 rfl) 0 rfl) h ew rfl rfl λf h=>bT h (hO.1.keep s.ext) aC0 rfl rfl λf h=>al ac 1 h rfl λf h=>ag (V:=vp) (ae (aF.of_own s 0 rfl) 0 rfl) h ew rfl rfl λf h=>bT h (hP.1.keep s.ext) aC0 rfl rfl λf h=>e9 ac 1 h rfl λf h=>cr h rfl (λhc=>?_) (λhc=>?_)))
 ·have hne:¬ (nds L).length=(nds K).length:=by rw [av6,av6];intro e9;exact(ar4 hc) (by omega)
  refine bJ ac 1 h rfl λf h=>rt (aA rfl h s rfl (by show _=_;rw [FA hne]))
 ·have hle:L.length=K.length:=by have:=ar5 hc;omega
  refine kt (ah (cw ac 1 h rfl λf h=>ag (V:=vo) (ae (aF.of_own s 1 rfl) 0 rfl) h ew rfl rfl λf h=>bT h (hO.1.keep s.ext) aC0 rfl rfl λf h=>e9 ac 1 h rfl λf h=>av9 (aw1 (λnn aa ww=>∃ k:Nat,Sl 32 aa [(0,.agg #[vo]),(1,.agg #[vp]),(2,.pointer (some ⟨b2,0,none⟩)),(3,.pointer (some ⟨b3,0,none⟩)),(15,.int .i64 (L.length:Int)),(16,.int .i64 (k:Int))]/\St w [.blk b3 (.cells (#[vp]) 24),.blk b2 (.cells (#[vo]) 24)] ww/\nn=L.length - k/\k<=L.length/\∀ j,j<k->gM (L.getD j z3).1 (K.getD j z3).1=true) (L.length - (0)) ⟨0,h.only ⟨rfl,rfl,rfl,rfl,rfl,aD rfl (by omega),trivial⟩,s.as ⟨rfl,rfl,trivial⟩,rfl,at8 _,λj hj=>az2 hj (ax1 _)⟩ ?_)))
  rintro _ f w1 ⟨k,h,s,hnn,hp0,hp1⟩
  refine bJ ac 1 h rfl λf h=>ah (dA h rfl (λhc=>?_) (λhc=>?_))
  ·refine kt (ah (av9 (qr ?_)))
   have hkl:k<L.length:=by omega
   have hkk:k<K.length:=by omega
   have hx9:=hbL.each _ (bU hkl)
   have hy9:=hbK.each _ (bU hkk)
   refine e9 ac 2 h rfl λf h=>ah ?_
   cases hl9:(gM (L.getD k z3).1 (K.getD k z3).1:Bool)
   ·refine cQ 12 h (by kernel_rfl) (ar ac 1 h rfl λf h=>ao (V:=vo) (ae (aF.of_own s 1 rfl) 0 rfl) h ew rfl rfl λf h=>ar ac 1 h rfl λf h=>av h (bg (hO.1.keep s.ext) (k) aC0 mt (h.ev rfl) (h.ev rfl) (rfl) (by omega)) rfl λf h=>aE ((hO.1.keep s.ext).el (k) (by omega) (by decide) (D:=aP (L.getD k z3).1.me (L.getD k z3).1.pr (L.getD k z3).2.1 (L.getD k z3).2.2) (eE L k hkl)) h bS rfl (aq _ _ _ _) rfl λf h=>ar ac 1 h rfl λf h=>ao (V:=vp) (ae (aF.of_own s 0 rfl) 0 rfl) h ew rfl rfl λf h=>ar ac 1 h rfl λf h=>av h (bg (hP.1.keep s.ext) (k) aC0 mt (h.ev rfl) (h.ev rfl) (rfl) (by omega)) rfl λf h=>aE ((hP.1.keep s.ext).el (k) (by omega) (by decide) (D:=aP (K.getD k z3).1.me (K.getD k z3).1.pr (K.getD k z3).2.1 (K.getD k z3).2.2) (eE K k hkk)) h bS rfl (aq _ _ _ _) rfl λf h=>bj h RP (λw9 hE9=>a6 (.bool false) (yi (L.getD k z3).1 (K.getD k z3).1 (L.getD k z3).2.1 (L.getD k z3).2.2 (K.getD k z3).2.1 (K.getD k z3).2.2 w9 (((hO.2 _ (bU hkl)).1).keep (s.ext.trans hE9)) (((hO.2 _ (bU hkl)).2).keep (s.ext.trans hE9)) (((hP.2 _ (bU hkk)).1).keep (s.ext.trans hE9)) (((hP.2 _ (bU hkk)).2).keep (s.ext.trans hE9)) (by omega) (by omega) (by omega) (by omega)) (ar8 Value.bool hl9)) rfl rfl λf h=>ar ac 1 h rfl λf h=>bK s λw1 s=>gh h rfl (bJ ac 1 h rfl λf h=>av8 (bh (aU (aU (bh (aU (aA rfl h s rfl (by show _=_;rw [Hy hkl hkk hl9])))))))))
   ·refine cQ 12 h (by kernel_rfl) (ar ac 1 h rfl λf h=>ao (V:=vo) (ae (aF.of_own s 1 rfl) 0 rfl) h ew rfl rfl λf h=>ar ac 1 h rfl λf h=>av h (bg (hO.1.keep s.ext) (k) aC0 mt (h.ev rfl) (h.ev rfl) (rfl) (by omega)) rfl λf h=>aE ((hO.1.keep s.ext).el (k) (by omega) (by decide) (D:=aP (L.getD k z3).1.me (L.getD k z3).1.pr (L.getD k z3).2.1 (L.getD k z3).2.2) (eE L k hkl)) h bS rfl (aq _ _ _ _) rfl λf h=>ar ac 1 h rfl λf h=>ao (V:=vp) (ae (aF.of_own s 0 rfl) 0 rfl) h ew rfl rfl λf h=>ar ac 1 h rfl λf h=>av h (bg (hP.1.keep s.ext) (k) aC0 mt (h.ev rfl) (h.ev rfl) (rfl) (by omega)) rfl λf h=>aE ((hP.1.keep s.ext).el (k) (by omega) (by decide) (D:=aP (K.getD k z3).1.me (K.getD k z3).1.pr (K.getD k z3).2.1 (K.getD k z3).2.2) (eE K k hkk)) h bS rfl (aq _ _ _ _) rfl λf h=>bj h RP (λw9 hE9=>a6 (.bool true) (yi (L.getD k z3).1 (K.getD k z3).1 (L.getD k z3).2.1 (L.getD k z3).2.2 (K.getD k z3).2.1 (K.getD k z3).2.2 w9 (((hO.2 _ (bU hkl)).1).keep (s.ext.trans hE9)) (((hO.2 _ (bU hkl)).2).keep (s.ext.trans hE9)) (((hP.2 _ (bU hkk)).1).keep (s.ext.trans hE9)) (((hP.2 _ (bU hkk)).2).keep (s.ext.trans hE9)) (by omega) (by omega) (by omega) (by omega)) (ar8 Value.bool hl9)) rfl rfl λf h=>ar ac 1 h rfl λf h=>bK s λw1 s=>oW h rfl (wpIn_skip (bo (aK (aG (am h (bY (h.ev rfl) (h.ev rfl) (by omega)) rfl λf h=>e9 ac 1 h rfl λf h=>?_))))))
    exact ⟨_,by omega,⟨k+1,h.only ⟨rfl,rfl,rfl,rfl,rfl,aD rfl (by omega),trivial⟩,St.as s ⟨rfl,rfl,trivial⟩,rfl,by omega,Vq hp1 hl9⟩⟩
  ·refine aw0 (ba (ba (cj (aK (bJ ac 1 h rfl λf h=>av8 (aA rfl h s rfl (by show _=_;rw [FO hle (λj hj=>hp1 j (by omega))])))))))
end Go.Proofs.YtkhepdpfdhdlaaaGreatDoor
