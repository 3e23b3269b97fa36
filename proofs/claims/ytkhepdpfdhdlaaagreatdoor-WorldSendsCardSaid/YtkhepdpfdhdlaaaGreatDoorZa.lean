/- Package chord and what it stands on, so far as it is wanted: what each function answers. -/
import Derived.Test.YtkhepdpfdhdlaaaGreatDoorCon
import Derived.Test.YtkhepdpfdhdlaaaGreatDoorSn
set_option linter.unusedVariables false
set_option linter.unusedSimpArgs false
set_option linter.unusedSectionVars false
namespace Go.Proofs.YtkhepdpfdhdlaaaGreatDoor
open Go.RowKit
theorem jO (vo:Value) (B9:List Own) (w0 w:World) (s:St w0 B9 w):Calls Tryz.prog 64 [.agg #[vo]].toArray w (λe w9=>∃ r,e=.returned r/\∃ bn,r=.func (.func 108) #[] #[.pointer (some ⟨bn,0,none⟩)]/\St w0 (.blk bn (.cells #[vo] 24)::B9) w9):=by
 refine dG Tryz.func64 rfl Tryz.ntmps64 rfl [(0,.agg #[vo])] (by simp) λf h=>?_
 refine qr (bh (#[vo]) h s rfl rfl rfl λf w1 b1 h s=>e9 ac 1 h rfl λf h=>qr (ai h (dz [.pointer (some ⟨b1,0,none⟩)] (kT h rfl)) rfl λf h=>e9 ac 1 h rfl λf h=>Y8 (d6 rfl h rfl (⟨_,rfl,b1,rfl,s⟩))))
theorem ir (m:Nat) (hm:m<=1000) (vo:Value) (xs:List Value) (wr:World) (hV:bp wr vo 68 m xs) (lp bx:Nat) (q:Nat->Bool) (GG:Nat->Own->Prop) (g0:Own) (w0 w:World) (s:St w0 [.blk bx (.cells #[vo] 24),g0] w) (hg0:GG 0 g0) (hY:∀ (d:Nat) (B9:List Own) (w9:World) (i:Nat) (g:Own),d<m->(∀ j,j<d->q j=false)->GG d g->St w0 B9 w9->B9[i]? = some g->ld Tryz.prog lp [Value.pointer (some (bI vo (d*68)))].toArray w9 (λv w2=>v=.bool (!q d)/\∃ g',GG (d+1) g'/\St w0 (B9.set i g') w2)):Calls Tryz.prog 108 [.func (.yield lp) #[] #[],.pointer (some ⟨bx,0,none⟩)].toArray w (λe w9=>(∃ v,e=.returned v)/\∃ d g,GG d g/\St w0 ([.blk bx (.cells #[vo] 24)]++[g]) w9/\d<=m/\(∀ j,j+1<d->q j=false)/\(lq q d=false->d=m)):=by
 refine dG Tryz.func108 rfl Tryz.ntmps108 rfl [(0,.func (.yield lp) #[] #[]),(1,.pointer (some ⟨bx,0,none⟩))] (by simp) λf h=>?_
 refine cu ac 1 h rfl λf h=>ag (V:=vo) (ae (aJ.of_own s 0 rfl) 0 rfl) h eG rfl rfl λf h=>ce h (hV) Z8 rfl rfl λf h=>e9 ac 1 h rfl λf h=>Y9 (Zb (λnn aa ww=>∃ d:Nat,∃ gg:Own,Sl 18 aa [(0,.func (.yield lp) #[] #[]),(1,.pointer (some ⟨bx,0,none⟩)),(6,.int .i64 (m:Int)),(7,.int .i64 (d:Int))]/\St w0 [.blk bx (.cells (#[vo]) 24),(gg)] ww/\nn=m - d/\d<=m/\GG d gg/\∀ j,j<d->q j=false) (m - (0)) ⟨0,g0,h.only ⟨rfl,rfl,rfl,av rfl (by omega),trivial⟩,s.as ⟨rfl,rfl,trivial⟩,rfl,YO _,hg0,λj hj=>ZF hj (Zl _)⟩ ?_)
 rintro _ f w1 ⟨d,gg,h,s,hnn,hp0,hp1,hp2⟩
 refine bF ac 1 h rfl λf h=>ah (dq h rfl (λhc=>?_) (λhc=>?_))
 ·refine kt (ah (Y9 (qr ?_)))
  have hdl:d<m:=by omega
  refine e9 ac 2 h rfl λf h=>ah ?_
  cases hq:(q d:Bool)
  ·refine rs ac 2 h rfl λf h=>ag (V:=vo) (ae (aJ.of_own s 0 rfl) 0 rfl) h eG rfl rfl λf h=>ap ac 1 h rfl λf h=>ai h (bz (hV) (d) Z8 r4 (h.ev rfl) (h.ev rfl) (by omega) (by omega)) rfl λf h=>ik (V:=.bool true) (G:=GG (d+1)) [.pointer (some (bI vo (d*68)))] 1 h rfl rfl (by have h9:=hY d _ _ 1 gg hdl hp2 hp1 s rfl;rw [hq] at h9;exact h9) rfl ?_;intro f w1 g1 hg1 h s
   refine e9 ac 1 h rfl λf h=>m4 h rfl (wpIn_skip (bw (aO (aG (ai h (bS (h.ev rfl) (h.ev rfl) (by omega)) rfl λf h=>e9 ac 1 h rfl λf h=>?_)))))
   exact ⟨_,by omega,⟨d+1,g1,h.only ⟨rfl,rfl,rfl,av rfl (by omega),trivial⟩,St.as s ⟨rfl,rfl,trivial⟩,rfl,by omega,hg1,gX hp2 hq⟩⟩
  ·refine rs ac 2 h rfl λf h=>ag (V:=vo) (ae (aJ.of_own s 0 rfl) 0 rfl) h eG rfl rfl λf h=>ap ac 1 h rfl λf h=>ai h (bz (hV) (d) Z8 r4 (h.ev rfl) (h.ev rfl) (by omega) (by omega)) rfl λf h=>ik (V:=.bool false) (G:=GG (d+1)) [.pointer (some (bI vo (d*68)))] 1 h rfl rfl (by have h9:=hY d _ _ 1 gg hdl hp2 hp1 s rfl;rw [hq] at h9;exact h9) rfl ?_;intro f w1 g1 hg1 h s
   refine e9 ac 1 h rfl λf h=>dQ h rfl (Y8 (bo (aV (aV (bo ?_)))))
   exact uS rfl h (⟨⟨_,rfl⟩,d+1,g1,hg1,s,by omega,λj hj=>hp2 j (by omega),λh9=>ZF (hq.symm.trans h9) (by decide)⟩)
 ·refine Za (a7 (a7 (cd ?_)))
  exact gP rfl h (⟨⟨_,rfl⟩,d,gg,hp1,s,hp0,λj hj=>hp2 j (by omega),λ_=>by omega⟩)
theorem iC (L:List N3) (vo:Value) (w:World) (hO:kC w vo L) (hL:L.length<=40):Calls Tryz.prog 27 [.agg #[vo]].toArray w (bW w (λv w'=>cq w' w.heap.size 69 33 v (aI L).length (aw (aI L)))):=by
 refine gF Tryz.func27 rfl Tryz.ntmps27 rfl [(0,.agg #[vo])] (by simp) λf h=>?_
 have s:=St.start w
 refine qr (bh (#[vo]) h s rfl rfl rfl λf w1 b1 h s=>e9 ac 1 h rfl λf h=>qr (aS (#[.slice none 0 0]) h s Qp rfl rfl λf w1 b3 h s=>nt (ah (qr (al 1 h s cv rfl rfl (rfl) rfl λf h=>?_)))))
 replace s:=s.nilSl 69 33
 refine dI [.agg #[vo]] h vQ (jO vo _ _ _ s) rfl rfl ?_;rintro f w1 r ⟨bn,rfl,s⟩ h
 refine nt (Y9 (gC (λd A9=>∃ v8:Value,A9=[.sl v8 69 33 (aI (L.take d)).length (aw (aI (L.take d))),.blk b3 (.cells #[v8] 70),.blk b1 (.cells #[vo] 24)]) [.sl (Value.slice none 0 0) 69 33 (aI (L.take 0)).length (aw (aI (L.take 0))),.blk b3 (.cells #[(Value.slice none 0 0)] 70),.blk b1 (.cells #[vo] 24)] [.blk bn (.cells #[vo] 24)] (L.length) (λ_=>false) (λd=>[Value.pointer (some (bI vo (d*68)))]) h s rfl oD (List.Perm.refl _) (⟨_,rfl⟩) (λ_=>rfl) ?_ ?_ ?_ ?_))
 ·intro lp w2 GG g0 hg0 s2 hY;exact ir L.length (by omega) vo _ _ hO.1 lp bn (λ_=>false) GG g0 w w2 s2 hg0 hY
 ·intro lp D9 d9 rc R9 A9 w2 hd9 hq9 hJ9 s
  obtain ⟨v8,rfl⟩:=hJ9
  have h:=Sl.round1 (p:=7) (V:=.pointer (some (bI vo (d9*68)))) h rfl
  have hdl9:=hd9
  refine re ac 1 h rfl λf h=>⟨_,s,λw3 s=>?_⟩
  refine Y9 ?_
  replace s:=s.bring 2 rfl
  replace s:St w (.sl v8 69 33 (aI (L.take d9)).length (aw (aI (L.take d9)))::.blk lp (.loop (rc .busy))::.blk D9 (.deferred (some []))::.blk b3 (.cells (#[v8]) 70)::.blk b1 (.cells (#[vo]) 24)::R9) _:=s
  refine eu 1 7 [[],[],[1],[1,2],[1,2,3],[1,2,3,4],[0,1,2,3,4,5],[0,1,2,3,4,5,6]] [[],[],[],[],[],[],[5,8],[]] [[_]] [.v v8,.v _,.v _,.v (.pointer (some (bI vo (d9*68+0)))),.v (.agg (az (L.getD d9 z3).1.me)),.m (λv=>[.sl (v 5) 69 33 1 (az (L.getD d9 z3).1.me).toList]),.m (λv=>[.sl (v 6) 69 33 (aI (L.take (d9+1))).length (aw (aI (L.take (d9+1))))]),.n] _ h s rfl (by kernel_rfl) (by kernel_rfl) (by kernel_rfl) (cp ?_ (fB ac h rfl rfl rfl (fB ac h rfl rfl rfl (cp ?_ (cp ?_ (cp ?_ (cp ?_ (trivial)))))))) [0,1,2,3,4,6] (by kernel_rfl) ?_
  ·intro f9 w2 vl4 E9 hs9 hd9 hl hF s
   have h:=cG [(3,_)] h hs9 hd9 ⟨fh hl 3 (by kernel_rfl) (h.holds 3 _ rfl),trivial⟩
   refine kP 2 h s eO rfl rfl (rfl) rfl λf h=>ay ⟨_,bk 8 h rfl rfl,rfl,s⟩
  ·intro f9 w2 vl4 E9 hs9 hd9 hl hF s
   have h:=cG [(10,_)] h hs9 hd9 ⟨bg hl 10 2 (by kernel_rfl) (hF 2 (by decide)),trivial⟩
   refine ai h (aW fu (h.ev rfl) ((hO.1.keep s.ext).some (by omega))) rfl λf h=>ay ⟨_,bk 11 h rfl rfl,rfl,s⟩
  ·intro f9 w2 vl4 E9 hs9 hd9 hl hF s
   have h:=cG [(11,_)] h hs9 hd9 ⟨bg hl 11 3 (by kernel_rfl) (hF 3 (by decide)),trivial⟩
   refine aB (bp.elF (hO.1.keep s.ext) (d9) 0 33 (by omega) (by decide) (C:=bJ (L.getD d9 z3).1.me (L.getD d9 z3).1.pr (L.getD d9 z3).2.1 (L.getD d9 z3).2.2) (gz L d9 hdl9) (D:=az (L.getD d9 z3).1.me) (fY _ _ _ _)) h bH rfl (am _) rfl λf h=>ay ⟨_,bk 12 h rfl rfl,rfl,s⟩
  ·intro f9 w2 vl4 E9 hs9 hd9 hl hF s
   have h:=cG [(12,_)] h hs9 hd9 ⟨bg hl 12 4 (by kernel_rfl) (hF 4 (by decide)),trivial⟩
   refine cT (vs:=[.agg (az (L.getD d9 z3).1.me)]) [.tmp 12] h s aa8 ny rfl rfl (Fu _) rfl rfl rfl λf w1 v13 h s=>?_
   replace s:=s.resl (m:=1) (ys:=(az (L.getD d9 z3).1.me).toList) 0 rfl rfl (zV _)
   exact ay ⟨_,bk 13 h rfl rfl,trivial,s⟩
  ·intro f9 w2 vl4 E9 hs9 hd9 hl hF s
   have e8:f9.tmps.getD 8 undef=v8:=(du hl 8 0 (by kernel_rfl) (by kernel_rfl)).trans (hF 0 (by decide))
   have e13:f9.tmps.getD 13 undef=(vl4 5):=du hl 13 5 (by kernel_rfl) (by kernel_rfl)
   have h:=cU [(8,v8),(13,(vl4 5))] (hs9.trans h.size) (hd9.trans h.defers) (holds_lk ⟨e8,e13,trivial⟩)
   refine ei 1 0 h s aa8 ny rfl rfl rfl rfl (by decide) (cz _) (by rw [Y6,Y5];unfold maxLen;omega) (by rw [Y6,Y5];omega) rfl λf w1 v14 h s=>?_
   replace s:=s.pick _ (YN _ _)
   replace s:=s.resl (m:=(aI (L.take (d9+1))).length) (ys:=aw (aI (L.take (d9+1)))) 0 rfl (by rw [xe hdl9,Yy];rfl) (by rw [xe hdl9,Kr])
   exact ay ⟨_,bk 14 h rfl rfl,trivial,s⟩
  intro f w1 vl4 hs9 hd9 hv hr hF s
  replace hv:=λi d h9=>hv i d (show Nat.blt i 7=true from h9)
  replace h:=dN 7 (ops:=_) [(8,_),(9,_),(10,_),(11,_),(12,_),(13,(vl4 5)),(14,(vl4 6))] h hs9 hd9 hr ⟨(hv 0 8 rfl rfl).trans (hF 0 rfl),(hv 1 9 rfl rfl).trans (hF 1 rfl),(hv 2 10 rfl rfl).trans (hF 2 rfl),(hv 3 11 rfl rfl).trans (hF 3 rfl),(hv 4 12 rfl rfl).trans (hF 4 rfl),hv 5 13 rfl rfl,hv 6 14 rfl rfl,trivial⟩ (by kernel_rfl)
  replace s:St w (.sl (vl4 6) 69 33 (aI (L.take (d9+1))).length (aw (aI (L.take (d9+1))))::.blk lp (.loop (rc .busy))::.blk D9 (.deferred (some []))::.blk b3 (.cells (#[v8]) 70)::.blk b1 (.cells (#[vo]) 24)::R9) _:=s
  refine aR 3 h s eO rfl rfl rfl (by simp) (bA (s.getSl 0 rfl)) λw1 s=>ay (bw ?_)
  replace s:=s.bring 2 rfl
  replace s:=s.bring 2 rfl
  replace s:St w (.blk lp (.loop (rc .busy))::.blk D9 (.deferred (some []))::.sl (vl4 6) 69 33 (aI (L.take (d9+1))).length (aw (aI (L.take (d9+1))))::.blk b3 (.cells (#[(vl4 6)]) 70)::.blk b1 (.cells (#[vo]) 24)::R9) _:=s
  refine ⟨rfl,_,⟨(vl4 6),rfl⟩,s.pick _ ?_⟩
  exact Yo _ (List.Sublist.refl _)
 ·intro D9 A9 w2 hJ9 hq9 s
  obtain ⟨v8,rfl⟩:=hJ9
  replace h:Sl _ {f with defers:={target:=.collected D9,args:=#[]}::f.defers} _ [{target:=.collected D9,args:=#[]}]:=⟨h.size,by rw [h.defers],h.holds⟩
  rw [List.take_length] at s
  refine bw (aO (qr (kP 3 h s eO rfl rfl (rfl) rfl λf h=>e9 ac 1 h rfl λf h=>Y8 ?_)))
  exact Dz 0 rfl h s rfl rfl (λw9 s9=>s9.getSl 2 rfl)
 ·intro D9 d9 A9 w2 hd9 hqd9 hq9 hJ9 s
  cases hqd9
theorem yI (l:List Mb) (vh:Value) (g9:Nat) (caps:List Value) (p:Mb->Bool) (w:World) (hR:bp w vh 33 l.length (aw l)) (hln:l.length<=1000) (hg:Fnc Tryz.prog g9) (hp:∀ w9,Ext w w9->∀ x∈l,Calls Tryz.prog g9 (.agg (az x)::caps).toArray w9 (bW w9 (is (.bool (p x))))):Calls Tryz.prog 181 [vh,.func (.func g9) #[] caps.toArray].toArray w (bW w (λv _=>∃ r:Int,v=.int .i64 r/\((r = -1/\∀ x∈l,p x=false)∨∃ k:Nat,∃ hk:k<l.length,r=(k:Int)/\p l[k]=true))):=by
 refine bG Tryz.func181 rfl Tryz.ntmps181 rfl λf h s=>bF ac 1 h rfl λf h=>ah (cu ac 1 h rfl λf h=>ce h (hR.keep s.ext) aa8 rfl rfl λf h=>e9 ac 1 h rfl λf h=>Y9 (Zb (λnn aa ww=>∃ k:Nat,Sl 19 aa [(0,vh),(1,.func (.func g9) #[] caps.toArray),(6,vh),(7,.int .i64 (l.length:Int)),(8,.int .i64 (k:Int))]/\St w [] ww/\nn=l.length - k/\k<=l.length/\∀ i (hi:i<l.length),i<k->p l[i]=false) (l.length - (0)) ⟨0,h.only ⟨rfl,rfl,rfl,rfl,av rfl (by omega),trivial⟩,s.as trivial,rfl,YO _,λi hi h9=>ZF h9 (Zl _)⟩ ?_))
 rintro _ f w1 ⟨k,h,s,hnn,hp0,hp1⟩
 refine bF ac 1 h rfl λf h=>ah (dq h rfl (λhc=>?_) (λhc=>?_))
 ·refine kt (ah (Y9 (bF ac 2 h rfl λf h=>qr ?_)))
  have hkl:k<l.length:=by omega
  refine ap ac 3 h rfl λf h=>ai h (bz (hR.keep s.ext) (k) aa8 fp (h.ev rfl) (h.ev rfl) (by omega) (by omega)) rfl λf h=>aB ((hR.keep s.ext).el (k) (by omega) (by decide) (D:=az l[k]) (Mw l k hkl)) h bH rfl (am _) rfl λf h=>fP [.agg (az l[k])] (caps:=caps) h s hg rfl (hp _ s.ext _ (Zq hkl)) rfl rfl ?_;intro f w1 v9 hT hE h s;obtain rfl:=hT
  refine nt (cA h rfl (λhc=>?_) (λhc=>?_))
  ·refine bF ac 2 h rfl λf h=>Y8 (bo (aV (aV (bo (aV (au rfl h s rfl (⟨_,rfl,.inr ⟨k,hkl,rfl,hc⟩⟩)))))))
  ·refine wpIn_skip (bw (aO (aG (ai h (bS (h.ev rfl) (h.ev rfl) (by omega)) rfl λf h=>e9 ac 1 h rfl λf h=>?_))))
   exact ⟨_,by omega,⟨k+1,h.only ⟨rfl,rfl,rfl,rfl,av rfl (by omega),trivial⟩,St.as s trivial,rfl,by omega,wK (λy=>p y=false) hp1 hkl hc⟩⟩
 ·refine Za (a7 (a7 (cd (aO (bF ac 1 h rfl λf h=>Y8 (au rfl h s rfl (⟨_,rfl,.inl ⟨rfl,λx hx=>(by obtain ⟨i,hi,e⟩:=Zr hx;rw [← e];exact hp1 i hi (by omega))⟩⟩)))))))
theorem kK (l:List Mb) (vh:Value) (g9:Nat) (caps:List Value) (p:Mb->Bool) (w:World) (hR:bp w vh 33 l.length (aw l)) (hln:l.length<=1000) (hg:Fnc Tryz.prog g9) (hp:∀ w9,Ext w w9->∀ x∈l,Calls Tryz.prog g9 (.agg (az x)::caps).toArray w9 (bW w9 (is (.bool (p x))))):Calls Tryz.prog 105 [vh,.func (.func g9) #[] caps.toArray].toArray w (bW w (is (.bool (l.any p)))):=by
 refine bG Tryz.func105 rfl Tryz.ntmps105 rfl λf h s=>bF ac 1 h rfl λf h=>cu ac 2 h rfl λf h=>bB h s Oe (yI l vh g9 caps p _ (hR.keep s.ext) hln hg (λw9 h9=>hp w9 (s.ext.trans h9))) rfl rfl ?_;rintro f w1 v9 ⟨r9,rfl,hr⟩ hE h s
 refine lL ac (.bool (l.any p)) h rfl (Yu Value.bool (IN hr)) rfl λf h=>e9 ac 1 h rfl λf h=>Y8 (au rfl h s rfl (rfl))
theorem xf (x:Int) (w:World):Calls Tryz.prog 183 [.int .i64 x].toArray w (bW w (is (.bool false))):=by
 refine bG Tryz.func183 rfl Tryz.ntmps183 rfl λf h s=>bF ac 1 h rfl λf h=>cu ac 2 h rfl λf h=>lL ac (.bool false) h rfl (by simp) rfl λf h=>e9 ac 1 h rfl λf h=>Y8 (au rfl h s rfl (rfl))
theorem jN (x y:Int) (w:World):Calls Tryz.prog 107 [.int .i64 x,.int .i64 y].toArray w (bW w (is (.int .i64 (cc x y)))):=by
 refine bG Tryz.func107 rfl Tryz.ntmps107 rfl λf h s=>bF ac 1 h rfl λf h=>cu ac 1 h rfl λf h=>da h s E0 (xf _ _) rfl rfl λf w1 h s=>e9 ac 1 h rfl λf h=>cu ac 1 h rfl λf h=>da h s E0 (xf _ _) rfl rfl λf w1 h s=>e9 ac 1 h rfl λf h=>ah (bF ac 1 h rfl λf h=>qC h rfl (ah (bF ac 1 h rfl λf h=>qC h rfl (ah (bF ac 3 h rfl λf h=>cA h rfl (λhc=>?_) (λhc=>?_))))))
 ·have hc:=Yq hc
  refine bF ac 1 h rfl λf h=>rt (au rfl h s rfl (by show _=_;unfold cc;rw [if_pos hc]))
 ·have hc1:=Yr hc
  refine kt (ah (bF ac 3 h rfl λf h=>dq h rfl (λhc=>?_) (λhc=>?_)))
  ·refine bF ac 1 h rfl λf h=>rt (au rfl h s rfl (by show _=_;unfold cc;rw [if_neg (by omega),if_pos (by omega)]))
  ·refine kt (bF ac 1 h rfl λf h=>Y8 (au rfl h s rfl (by show _=_;unfold cc;rw [if_neg (by omega),if_neg (by omega)])))
theorem qt (x y:Mb) (w:World):Calls Tryz.prog 63 [.agg (az x),.agg (az y)].toArray w (bW w (is (.int .i64 (cc x.1 y.1)))):=by
 refine bG Tryz.func63 rfl Tryz.ntmps63 rfl λf h s=>qr (bh ((az x)) h s rfl rfl rfl λf w1 b2 h s=>bh ((az y)) h s rfl rfl rfl λf w1 b3 h s=>e9 ac 1 h rfl λf h=>cu ac 1 h rfl λf h=>ag (ae (aJ.of_own s 1 rfl) 0 (cg _)) h bs rfl rfl λf h=>ap ac 1 h rfl λf h=>ag (ae (aJ.of_own s 0 rfl) 0 (cg _)) h bs rfl rfl λf h=>da h s pL (jN _ _ _) rfl rfl λf w1 h s=>e9 ac 1 h rfl λf h=>Y8 (au rfl h s rfl (rfl)))
theorem sS (l:List Mb) (vh:Value) (w:World) (hR:bp w vh 33 l.length (aw l)) (hln:l.length<=1000):Calls Tryz.prog 62 [vh,.func (.func 63) #[] #[]].toArray w (bW w (is (.bool (qI l)))):=by
 refine bG Tryz.func62 rfl Tryz.ntmps62 rfl λf h s=>bF ac 1 h rfl λf h=>ah (cu ac 1 h rfl λf h=>ce h (hR.keep s.ext) aa8 rfl rfl λf h=>ai h (eI (h.ev rfl) (h.ev rfl) (by omega)) rfl λf h=>e9 ac 1 h rfl λf h=>Y9 (Zb (λnn aa ww=>∃ k:Nat,Sl 25 aa [(0,vh),(1,.func (.func 63) #[] #[]),(5,.int .i64 ((k:Int) - 1))]/\St w [] ww/\nn=k/\k<=l.length/\∀ j,k<=j->0<j->j<l.length->kX l j=false) ((l.length)) ⟨l.length,h.only ⟨rfl,rfl,av rfl (by omega),trivial⟩,s.as trivial,rfl,YM _,λj h1 _ h2=>ZF h2 (by omega)⟩ ?_))
 rintro _ f w1 ⟨k,h,s,hnn,hp0,hp1⟩
 refine ah (bF ac 2 h rfl λf h=>dq h rfl (λhc=>?_) (λhc=>?_))
 ·refine kt (ah (Y9 (ah ?_)))
  cases hq:(kX l (k - 1):Bool)
  ·refine dF 12 h (by kernel_rfl) ?_
   have h0:=hc
   have hk1:0<k - 1:=by omega
   refine aq ac 3 h rfl λf h=>ar h (bz (hR.keep s.ext) (k - 1) aa8 fp (h.ev rfl) (h.ev rfl) (by omega) (by omega)) rfl λf h=>aY ((hR.keep s.ext).el (k - 1) (by omega) (by decide) (D:=az (l.getD (k - 1) bE)) (fL l (k - 1) (by omega))) h bH rfl (am _) rfl λf h=>aq ac 2 h rfl λf h=>ar h (eI (h.ev rfl) (h.ev rfl) (by omega)) rfl λf h=>ar h (bz (hR.keep s.ext) (k - 1 - 1) aa8 fp (h.ev rfl) (h.ev rfl) (by omega) (by omega)) rfl λf h=>aY ((hR.keep s.ext).el (k - 1 - 1) (by omega) (by decide) (D:=az (l.getD (k - 1 - 1) bE)) (fL l (k - 1 - 1) (by omega))) h bH rfl (am _) rfl λf h=>uP [.agg (az (l.getD (k - 1) bE)),.agg (az (l.getD (k - 1 - 1) bE))] (caps:=[]) h EV rfl (λw9 h9=>qt _ _ w9) rfl rfl ?_;intro f h
   refine jf ac h rfl ((YE.2 (iK _ _)).trans hq) λf h=>bQ s λw1 s=>yV h rfl (wpIn_skip (bw (aO (rs ac 1 h rfl λf h=>ai h (eI (h.ev rfl) (h.ev rfl) (by omega)) rfl λf h=>e9 ac 1 h rfl λf h=>?_))))
   exact ⟨_,by omega,⟨k - 1,h.only ⟨rfl,rfl,av rfl (by omega),trivial⟩,St.as s trivial,rfl,by omega,HX hp1 (by omega) hq⟩⟩
  ·refine dF 12 h (by kernel_rfl) ?_
   have h0:=hc
   have hk1:0<k - 1:=by omega
   refine aq ac 3 h rfl λf h=>ar h (bz (hR.keep s.ext) (k - 1) aa8 fp (h.ev rfl) (h.ev rfl) (by omega) (by omega)) rfl λf h=>aY ((hR.keep s.ext).el (k - 1) (by omega) (by decide) (D:=az (l.getD (k - 1) bE)) (fL l (k - 1) (by omega))) h bH rfl (am _) rfl λf h=>aq ac 2 h rfl λf h=>ar h (eI (h.ev rfl) (h.ev rfl) (by omega)) rfl λf h=>ar h (bz (hR.keep s.ext) (k - 1 - 1) aa8 fp (h.ev rfl) (h.ev rfl) (by omega) (by omega)) rfl λf h=>aY ((hR.keep s.ext).el (k - 1 - 1) (by omega) (by decide) (D:=az (l.getD (k - 1 - 1) bE)) (fL l (k - 1 - 1) (by omega))) h bH rfl (am _) rfl λf h=>uP [.agg (az (l.getD (k - 1) bE)),.agg (az (l.getD (k - 1 - 1) bE))] (caps:=[]) h EV rfl (λw9 h9=>qt _ _ w9) rfl rfl ?_;intro f h
   refine je ac h rfl ((YE.2 (iK _ _)).trans hq) λf h=>bQ s λw1 s=>ie h rfl (bF ac 1 h rfl λf h=>Y8 (bo (aV (aV (bo (aV (au rfl h s rfl (by show _=_;rw [wI (by omega) hk1 hq]))))))))
 ·refine Za (a7 (a7 (cd (aO (bF ac 1 h rfl λf h=>Y8 (au rfl h s rfl (by show _=_;rw [pz (λj h1 h2=>hp1 j (by omega) h1 h2)])))))))
theorem Ce (n:Nat) (hn:n<=1000) (w:World):Calls Tryz.prog 235 [.slice none 0 0,.int .i64 (n:Int)].toArray w (bW w (λv w'=>cq w' w.heap.size 69 33 v 0 [])):=by
 refine bG Tryz.func235 rfl Tryz.ntmps235 rfl λf h s=>bF ac 1 h rfl λf h=>ah (cu ac 1 h rfl λf h=>kw ac h rfl (Ys (by omega)) λf h=>f7 h rfl (ah (cu ac 2 h rfl λf h=>ai h (pd aa8 (h.ev rfl)) rfl λf h=>ap ac 1 h rfl λf h=>ai h (pj aa8 (h.ev rfl)) rfl λf h=>ai h (bq (.int .i64 0) (eI (h.ev rfl) (h.ev rfl) (by omega)) (rfl)) rfl λf h=>ai h (bq (.int .i64 (n:Int)) (eI (h.ev rfl) (h.ev rfl) (by omega)) (Yu (Value.int .i64) (by omega))) rfl λf h=>e9 ac 1 h rfl λf h=>bF ac 2 h rfl λf h=>dq h rfl (λhc=>?_) (λhc=>?_))))
 ·refine rs ac 2 h rfl λf h=>ai h (pd aa8 (h.ev rfl)) rfl λf h=>ai h (sh aa8 fp (h.ev rfl) (h.ev rfl)) rfl λf h=>ap ac 1 h rfl λf h=>qf (n:=n) (base:=w.heap.size) h aa8 Z5 ny rfl rfl (by omega) (by omega) (by omega) (YM _) rfl λf w1 v22 xs9 h hE9 hO9=>?_
  replace s:=s.sl_new hE9 hO9
  refine ap ac 1 h rfl λf h=>ai h (pj aa8 (h.ev rfl)) rfl λf h=>ai h (qS hO9 aa8 fp (h.ev rfl) (h.ev rfl)) rfl λf h=>e9 ac 1 h rfl λf h=>bF ac 2 h rfl λf h=>Y8 (au rfl h s rfl (hO9.cut0))
 ·refine kt (bF ac 2 h rfl λf h=>Y8 (au rfl h s rfl (dT _ _ _ _)))
theorem vC (vh:Value) (us:List Value) (ls:List (List Mb)) (hls:us.length=ls.length) (htot:ls.flatten.length<=1000) (hvn:us.length<=1000) (w:World) (hv:bp w vh 1 us.length us) (hr:∀ k,k<us.length->bp w (us.getD k undef) 33 (ls.getD k []).length (aw (ls.getD k []))):Calls Tryz.prog 187 [vh].toArray w (bW w (λv w'=>cq w' w.heap.size 69 33 v ls.flatten.length (aw ls.flatten))):=by
 refine bG Tryz.func187 rfl Tryz.ntmps187 rfl λf h s=>bF ac 1 h rfl λf h=>bF ac 1 h rfl λf h=>ah (cu ac 1 h rfl λf h=>ce h (hv.keep s.ext) ac3 rfl rfl λf h=>e9 ac 1 h rfl λf h=>Y9 (Zb (λnn aa ww=>∃ k:Nat,Sl 36 aa [(0,vh),(3,.int .i64 (((ls.take k).flatten.length:Nat):Int)),(9,vh),(10,.int .i64 (us.length:Int)),(11,.int .i64 (k:Int))]/\St w [] ww/\nn=us.length - k/\k<=us.length) (us.length - (0)) ⟨0,h.only ⟨rfl,av rfl rfl,rfl,rfl,av rfl (by omega),trivial⟩,s.as trivial,rfl,YO _⟩ ?_))
 rintro _ f w1 ⟨k,h,s,hnn,hp0⟩
 refine bF ac 1 h rfl λf h=>ah (dq h rfl (λhc=>?_) (λhc=>?_))
 ·refine kt (ah (Y9 (qr ?_)))
  have hkl:k<us.length:=by omega
  refine ai h (bz (hv.keep s.ext) (k) ac3 Nm (h.ev rfl) (h.ev rfl) (by omega) (by omega)) rfl λf h=>ag ((hv.keep s.ext).el1 (k) (V:=us.getD k undef) (Bn hkl)) h eO rfl rfl λf h=>e9 ac 1 h rfl λf h=>cu ac 2 h rfl λf h=>ce h ((hr k hkl).keep s.ext) aa8 rfl rfl λf h=>?_
  have hk1:=oQ ls k (by omega)
  have hk2:=Bd ls (k+1)
  refine ai h (bS (h.ev rfl) (h.ev rfl) (by omega)) rfl λf h=>e9 ac 1 h rfl λf h=>cu ac 1 h rfl λf h=>kw ac h rfl (Ys (by omega)) λf h=>yV h rfl (wpIn_skip (bw (aO (aG (ai h (bS (h.ev rfl) (h.ev rfl) (by omega)) rfl λf h=>e9 ac 1 h rfl λf h=>?_)))))
  exact ⟨_,by omega,⟨k+1,h.only ⟨rfl,av rfl (by omega),rfl,rfl,av rfl (by omega),trivial⟩,St.as s trivial,rfl,by omega⟩⟩
 ·refine Za (a7 (a7 (cd (aO (qr ?_)))))
  obtain rfl:k=us.length:=by omega
  refine lL ac (.int .i64 ((ls.flatten.length:Nat):Int)) h rfl (by rw [hls,List.take_length]) rfl λf h=>bB h s QH (Ce ls.flatten.length (by omega) _) rfl rfl ?_;intro f w1 v24 hT hE h sq;replace s:=s.sl_new hE hT
  refine e9 ac 1 h rfl λf h=>ah (cu ac 1 h rfl λf h=>ce h (hv.keep s.ext) ac3 rfl rfl λf h=>e9 ac 1 h rfl λf h=>Y9 (Zb (λnn aa ww=>∃ i:Nat,∃ vb:Value,Sl 36 aa [(0,vh),(6,vb),(25,vh),(26,.int .i64 (us.length:Int)),(27,.int .i64 (i:Int))]/\St w [.sl vb 69 33 (ls.take i).flatten.length (aw (ls.take i).flatten)] ww/\nn=us.length - i/\i<=us.length) (us.length - (0)) ⟨0,v24,h.only ⟨rfl,rfl,rfl,rfl,av rfl (by omega),trivial⟩,s.as ⟨ge rfl rfl,trivial⟩,rfl,YO _⟩ ?_))
  rintro _ f w1 ⟨i,vb,h,s,hnn,hp0⟩
  refine bF ac 1 h rfl λf h=>ah (dq h rfl (λhc=>?_) (λhc=>?_))
  ·refine kt (ah (Y9 (qr ?_)))
   have hkl:i<us.length:=by omega
   have hk1:=oQ ls i (by omega)
   have hk2:=Bd ls (i+1)
   refine ai h (bz (hv.keep s.ext) (i) ac3 Nm (h.ev rfl) (h.ev rfl) (by omega) (by omega)) rfl λf h=>ag ((hv.keep s.ext).el1 (i) (V:=us.getD i undef) (Bn hkl)) h eO rfl rfl λf h=>e9 ac 1 h rfl λf h=>rs ac 2 h rfl λf h=>jm 0 ((hr i hkl).keep s.ext) h s aa8 ny rfl rfl rfl (mn _) (by unfold maxLen;omega) (by omega) rfl λf w1 v33 h s=>ap ac 1 h rfl λf h=>ay (bw (aO (aG (ai h (bS (h.ev rfl) (h.ev rfl) (by omega)) rfl λf h=>e9 ac 1 h rfl λf h=>?_))))
   exact ⟨_,by omega,⟨i+1,v33,h.only ⟨rfl,rfl,rfl,rfl,av rfl (by omega),trivial⟩,St.as s ⟨ge (oQ ls i (by omega)) (zA ls i (by omega)),trivial⟩,rfl,by omega⟩⟩
  ·refine Za (a7 (a7 (cd (aO (bF ac 2 h rfl λf h=>Y8 (au rfl h s rfl (wX (by omega) (s.getSl 0 rfl))))))))
theorem zz (a9:Option Addr) (n9 c9:Nat) (B9:List Own) (w0 w:World) (s:St w0 B9 w):Calls Tryz.prog 186 [.slice a9 n9 c9].toArray w (λe w9=>∃ r,e=.returned r/\∃ bv,r=.func (.func 234) #[] #[.pointer (some ⟨bv,0,none⟩)]/\St w0 (.blk bv (.cells #[.slice a9 n9 c9] 70)::B9) w9):=by
 refine dG Tryz.func186 rfl Tryz.ntmps186 rfl [(0,.slice a9 n9 c9)] (by simp) λf h=>?_
 refine qr (bh (#[.slice a9 n9 c9]) h s rfl rfl rfl λf w1 b1 h s=>e9 ac 1 h rfl λf h=>qr (ai h (dz [.pointer (some ⟨b1,0,none⟩)] (kT h rfl)) rfl λf h=>e9 ac 1 h rfl λf h=>Y8 (d6 rfl h rfl (⟨_,rfl,b1,rfl,s⟩))))
theorem wY (l:List Mb) (vh:Value) (B9:List Own) (w0 w:World) (s:St w0 B9 w) (hR:bp w vh 33 l.length (aw l)):Calls Tryz.prog 186 [vh].toArray w (λe w9=>∃ r,e=.returned r/\∃ bv,r=.func (.func 234) #[] #[.pointer (some ⟨bv,0,none⟩)]/\St w0 (.blk bv (.cells #[vh] 70)::B9) w9):=by
 obtain ⟨a,c,rfl⟩:=hR.len
 exact zz a _ c B9 w0 w s
theorem pU (n:Nd) (vs vf:Value) (w:World) (hRs:bp w vs 33 n.sc.length (aw n.sc)) (hRf:bp w vf 33 n.fg.length (aw n.fg)) (hns:n.sc.length<=400) (hnf:n.fg.length<=400):Calls Tryz.prog 113 [.agg (bJ n.me n.pr vs vf)].toArray w (bW w (λv w9=>∃ bv vk,v=.func (.func 234) #[] #[.pointer (some ⟨bv,0,none⟩)]/\St w [.blk bv (.cells #[vk] 70),.sl vk 69 33 (aM n).length (aw (aM n))] w9)):=by
 refine bG Tryz.func113 rfl Tryz.ntmps113 rfl λf h s=>qr (bh (bJ n.me n.pr vs vf) h s rfl rfl rfl λf w1 b1 h s=>e9 ac 1 h rfl λf h=>cu ac 1 h rfl λf h=>aB (aJ.subL (aJ.of_own s 0 rfl) 33 33 (D:=az n.pr) (xY _ _ _ _)) h bH rfl (am _) rfl λf h=>cT (vs:=[.agg (az n.pr)]) [.tmp 4] h s aa8 ny rfl rfl (Fu _) rfl rfl rfl λf w1 v5 h s=>?_)
 replace s:=s.resl (m:=[n.pr].length) (ys:=aw [n.pr]) 0 rfl rfl (by rw [zV,gU])
 refine ap ac 1 h rfl λf h=>ag (V:=vs) (ae (aJ.of_own s 1 rfl) 66 (mx _ _ _ _)) h eO rfl rfl λf h=>ap ac 1 h rfl λf h=>ag (V:=vf) (ae (aJ.of_own s 1 rfl) 67 (pw _ _ _ _)) h eO rfl rfl λf h=>cT (vs:=[v5,vs,vf]) [.tmp 5,.tmp 7,.tmp 9] h s ac3 Uq rfl rfl (by intro v hv;simp only [YH,YK,or_false] at hv;rcases hv with rfl|rfl|rfl;exact iD (bp.of_own (s.getSl 0 rfl));exact iD hRs;exact iD hRf) rfl rfl rfl λf w1 v10 h s=>?_
 replace s:=s.resl (m:=3) (ys:=[v5,vs,vf]) 0 rfl rfl (by simp [gK (bp.of_own (s.getSl 1 rfl)),gK hRs,gK hRf])
 refine bB h s P6 (vC v10 [v5,vs,vf] [[n.pr],n.sc,n.fg] rfl (by rw [kW];simp only [Yy,Y0,Y1];omega) (by show 3<=1000;omega) _ (bp.of_own (s.getSl 0 rfl)) (Eh (bp.of_own (s.getSl 1 rfl)) (hRs.keep s.ext) (hRf.keep s.ext))) rfl rfl ?_;intro f w1 v11 hT hE h sq;replace s:=s.sl_new hE (hT.seq (m:=(aM n).length) (ys:=aw (aM n)) (by rw [kW];rfl) (by rw [kW];rfl))
 refine dI [v11] h Qf (wY (aM n) v11 _ _ _ s (bp.of_own (s.getSl 0 rfl))) rfl rfl ?_;rintro f w1 r ⟨bv,rfl,s⟩ h
 refine e9 ac 1 h rfl λf h=>Y8 (au rfl h s rfl (⟨bv,v11,rfl,(s.sel [0,1] rfl (by decide))⟩))
theorem qd (l:List Mb) (hln:l.length<=1000) (vh:Value) (lp bx:Nat) (q:Nat->Bool) (GG:Nat->Own->Prop) (g0:Own) (w0 w:World) (s:St w0 [.blk bx (.cells #[vh] 70),.sl vh 69 33 l.length (aw l),g0] w) (hg0:GG 0 g0) (hY:∀ (d:Nat) (B9:List Own) (w9:World) (i:Nat) (g:Own),d<l.length->(∀ j,j<d->q j=false)->GG d g->St w0 B9 w9->B9[i]? = some g->ld Tryz.prog lp [Value.agg (az (l.getD d bE))].toArray w9 (λv w2=>v=.bool (!q d)/\∃ g',GG (d+1) g'/\St w0 (B9.set i g') w2)):Calls Tryz.prog 234 [.func (.yield lp) #[] #[],.pointer (some ⟨bx,0,none⟩)].toArray w (λe w9=>(∃ v,e=.returned v)/\∃ d g,GG d g/\St w0 ([.blk bx (.cells #[vh] 70),.sl vh 69 33 l.length (aw l)]++[g]) w9/\d<=l.length/\(∀ j,j+1<d->q j=false)/\(lq q d=false->d=l.length)):=by
 refine dG Tryz.func234 rfl Tryz.ntmps234 rfl [(0,.func (.yield lp) #[] #[]),(1,.pointer (some ⟨bx,0,none⟩))] (by simp) λf h=>?_
 refine qr (kP 0 h s eO rfl rfl (rfl) rfl λf h=>jB 1 h s aa8 rfl rfl rfl λf h=>e9 ac 1 h rfl λf h=>Y9 (Zb (λnn aa ww=>∃ d:Nat,∃ gg:Own,Sl 16 aa [(0,.func (.yield lp) #[] #[]),(1,.pointer (some ⟨bx,0,none⟩)),(5,vh),(6,.int .i64 (l.length:Int)),(7,.int .i64 (d:Int))]/\St w0 [.blk bx (.cells (#[vh]) 70),.sl vh 69 33 l.length (aw l),(gg)] ww/\nn=l.length - d/\d<=l.length/\GG d gg/\∀ j,j<d->q j=false) (l.length - (0)) ⟨0,g0,h.only ⟨rfl,rfl,rfl,rfl,av rfl (by omega),trivial⟩,s.as ⟨rfl,rfl,rfl,trivial⟩,rfl,YO _,hg0,λj hj=>ZF hj (Zl _)⟩ ?_))
 rintro _ f w1 ⟨d,gg,h,s,hnn,hp0,hp1,hp2⟩
 refine bF ac 1 h rfl λf h=>ah (dq h rfl (λhc=>?_) (λhc=>?_))
 ·refine kt (ah (Y9 (qr ?_)))
  have hdl:d<l.length:=by omega
  refine ai h (bz (bp.of_own (s.getSl 1 rfl)) (d) aa8 fp (h.ev rfl) (h.ev rfl) (by omega) (by omega)) rfl λf h=>aB ((bp.of_own (s.getSl 1 rfl)).el (d) (by omega) (by decide) (D:=az (l.getD d bE)) (fL l d hdl)) h bH rfl (am _) rfl λf h=>aS (az bE) h s gI rfl rfl λf w1 b4 h s=>ak 0 h s bH rfl rfl rfl (am _) (am _) (cz _) λw1 s=>nt (ah ?_)
  cases hq:(q d:Bool)
  ·refine rs ac 1 h rfl λf h=>al 0 h s bH rfl rfl (am _) rfl λf h=>ik (V:=.bool true) (G:=GG (d+1)) [.agg (az (l.getD d bE))] 3 h rfl rfl (by have h9:=hY d _ _ 3 gg hdl hp2 hp1 s rfl;rw [hq] at h9;exact h9) rfl ?_;intro f w1 g1 hg1 h s
   refine e9 ac 1 h rfl λf h=>m4 h rfl (wpIn_skip (bw (aO (aG (ai h (bS (h.ev rfl) (h.ev rfl) (by omega)) rfl λf h=>e9 ac 1 h rfl λf h=>?_)))))
   exact ⟨_,by omega,⟨d+1,g1,h.only ⟨rfl,rfl,rfl,rfl,av rfl (by omega),trivial⟩,St.as (s.pick _ (YJ [_] _)) ⟨rfl,rfl,rfl,trivial⟩,rfl,by omega,hg1,gX hp2 hq⟩⟩
  ·refine rs ac 1 h rfl λf h=>al 0 h s bH rfl rfl (am _) rfl λf h=>ik (V:=.bool false) (G:=GG (d+1)) [.agg (az (l.getD d bE))] 3 h rfl rfl (by have h9:=hY d _ _ 3 gg hdl hp2 hp1 s rfl;rw [hq] at h9;exact h9) rfl ?_;intro f w1 g1 hg1 h s
   refine e9 ac 1 h rfl λf h=>dQ h rfl (Y8 (bo (aV (aV (bo ?_)))))
   exact uS rfl h (⟨⟨_,rfl⟩,d+1,g1,hg1,s.pick _ (YN _ _),by omega,λj hj=>hp2 j (by omega),λh9=>ZF (hq.symm.trans h9) (by decide)⟩)
 ·refine Za (a7 (a7 (cd ?_)))
  exact gP rfl h (⟨⟨_,rfl⟩,d,gg,hp1,s,hp0,λj hj=>hp2 j (by omega),λ_=>by omega⟩)
theorem kq (L:List N3) (vo:Value) (no:Int) (w:World) (hO:kC w vo L) (hL:L.length<=40):Calls Tryz.prog 114 [.agg #[vo],.int .i64 no].toArray w (bW w (is (za vo L no))):=by
 refine gF Tryz.func114 rfl Tryz.ntmps114 rfl [(0,.agg #[vo]),(1,.int .i64 no)] (by simp) λf h=>?_
 have s:=St.start w
 refine qr (bh (#[vo]) h s rfl rfl rfl λf w1 b2 h s=>bh (#[.int .i64 no]) h s rfl rfl rfl λf w1 b3 h s=>aS (#[.pointer none]) h s K5 rfl rfl λf w1 b4 h s=>nt (ah (qr (al 2 h s cv rfl rfl (rfl) rfl λf h=>dI [.agg #[vo]] h vQ (jO vo _ _ _ s) rfl rfl ?_))));rintro f w1 r ⟨bn,rfl,s⟩ h
 refine nt (Y9 (gC (λd A9=>A9=[.blk b4 (.cells #[Uk vo (qL L no) d] 101),.blk b3 (.cells #[.int .i64 no] 3),.blk b2 (.cells #[vo] 24)]) [.blk b4 (.cells #[.pointer none] 101),.blk b3 (.cells #[.int .i64 no] 3),.blk b2 (.cells #[vo] 24)] [.blk bn (.cells #[vo] 24)] (L.length) (qL L no) (λd=>[Value.pointer (some (bI vo (d*68)))]) h s rfl oD (List.Perm.refl _) (rfl) (λ_=>rfl) ?_ ?_ ?_ ?_))
 ·intro lp w2 GG g0 hg0 s2 hY;exact ir L.length (by omega) vo _ _ hO.1 lp bn (qL L no) GG g0 w w2 s2 hg0 hY
 ·intro lp D9 d9 rc R9 A9 w2 hd9 hq9 hJ9 s
  obtain rfl:=hJ9
  have h:=Sl.round1 (p:=8) (V:=.pointer (some (bI vo (d9*68)))) h rfl
  have hdl9:=hd9
  refine re ac 1 h rfl λf h=>⟨_,s,λw3 s=>?_⟩
  refine Y9 (ah ?_)
  refine dF 7 h (by kernel_rfl) (aq ac 2 h rfl λf h=>ar h (aW fu (h.ev rfl) ((hO.1.keep s.ext).some (by omega))) rfl λf h=>ar h (aW lR (h.ev rfl) ((hO.1.keep s.ext).some (by omega))) rfl λf h=>ao (V:=.int .i64 (L.getD d9 z3).1.me.1) (cX (hO.1.keep s.ext) (d9*68+0) (A6 L d9 hdl9)) h bs rfl rfl λf h=>eU 3 h s bs rfl rfl (rfl) rfl λf h=>HH ac (qL L no d9) h rfl (rfl) (λhq f h=>?_) (λhq f h=>?_))
  ·refine bQ s λw1 s=>yV h rfl (wpIn_skip (bw ?_))
   replace s:=s.recell (D:=#[Uk vo (qL L no) (d9+1)]) 2 rfl (by rw [Lm hq9];show _=#[bif qL L no d9 then _ else _];rw [hq];rfl)
   refine ⟨by first|exact hq|rfl,_,rfl,s.pick _ ?_⟩
   exact Yo _ (List.Sublist.refl _)
  ·refine bQ s λw1 s=>ie h rfl (cu ac 1 h rfl λf h=>aR 2 h s uR rfl rfl rfl (by simp) (rfl) λw1 s=>nt (Y8 (bo ?_)))
   replace s:=s.recell (D:=#[Uk vo (qL L no) (d9+1)]) 2 rfl (by show _=#[bif qL L no d9 then _ else _];rw [hq];rfl)
   refine ⟨by first|exact hq|rfl,_,rfl,s.pick _ ?_⟩
   exact Yo _ (List.Sublist.refl _)
 ·intro D9 A9 w2 hJ9 hq9 s
  obtain rfl:=hJ9
  replace h:Sl _ {f with defers:={target:=.collected D9,args:=#[]}::f.defers} _ [{target:=.collected D9,args:=#[]}]:=⟨h.size,by rw [h.defers],h.holds⟩
  refine bw (aO (qr (aR 2 h s uR rfl rfl rfl (by simp) (rfl) λw1 s=>nt (Y8 ?_))))
  exact fQ 2 0 rfl h s uR rfl rfl rfl rfl rfl (λw9=>(SX hq9).symm)
 ·intro D9 d9 A9 w2 hd9 hqd9 hq9 hJ9 s
  obtain rfl:=hJ9
  replace h:Sl _ {f with defers:={target:=.collected D9,args:=#[]}::f.defers} _ [{target:=.collected D9,args:=#[]}]:=⟨h.size,by rw [h.defers],h.holds⟩
  refine bo (aV ?_)
  exact fQ 2 0 rfl h s uR rfl rfl rfl rfl rfl (λw9=>Q7 hd9 hq9 hqd9)
theorem rY (n:Nd) (vs vf:Value) (L:List N3) (vo:Value) (w:World) (hRs:bp w vs 33 n.sc.length (aw n.sc)) (hRf:bp w vf 33 n.fg.length (aw n.fg)) (hns:n.sc.length<=400) (hnf:n.fg.length<=400) (hO:kC w vo L) (hL:L.length<=40):Calls Tryz.prog 66 [.agg (bJ n.me n.pr vs vf),.agg #[vo]].toArray w (bW w (is (.bool !((aM n).any (k9 L))))):=by
 have hkl9:(aM n).length<=1000:=by simp only [aM,Yy,Y0];omega
 refine gF Tryz.func66 rfl Tryz.ntmps66 rfl [(0,.agg (bJ n.me n.pr vs vf)),(1,.agg #[vo])] (by simp) λf h=>?_
 have s:=St.start w
 refine qr (bh (bJ n.me n.pr vs vf) h s rfl rfl rfl λf w1 b2 h s=>bh (#[vo]) h s rfl rfl rfl λf w1 b3 h s=>aS (#[.bool false]) h s AI rfl rfl λf w1 b4 h s=>nt (ah (qr (al 2 h s fU rfl rfl (bN _ _ _ _) rfl λf h=>bB h s HV (pU n vs vf _ (hRs.keep s.ext) (hRf.keep s.ext) (by omega) (by omega)) rfl rfl ?_))));rintro f w1 r9 ⟨bv,vk,rfl,hS⟩ hE h sq;replace s:=s.add hS;clear hS
 refine nt (Y9 (gC (λd A9=>A9=[.blk b4 (.cells #[.bool false] 4),.blk b3 (.cells #[vo] 24),.blk b2 (.cells (bJ n.me n.pr vs vf) 72)]) [.blk b4 (.cells #[.bool false] 4),.blk b3 (.cells #[vo] 24),.blk b2 (.cells (bJ n.me n.pr vs vf) 72)] [.blk bv (.cells #[vk] 70),.sl vk 69 33 (aM n).length (aw (aM n))] ((aM n).length) (UQ n L) (λd=>[Value.agg (az ((aM n).getD d bE))]) h s rfl H0 (List.Perm.refl _) (rfl) (λ_=>rfl) ?_ ?_ ?_ ?_))
 ·intro lp w2 GG g0 hg0 s2 hY;exact qd (aM n) hkl9 vk lp bv (UQ n L) GG g0 w w2 s2 hg0 hY
 ·intro lp D9 d9 rc R9 A9 w2 hd9 hq9 hJ9 s
  obtain rfl:=hJ9
  have h:=Sl.round1 (p:=9) (V:=.agg (az ((aM n).getD d9 bE))) h rfl
  have hdl9:=hd9
  refine aG (aS (az bE) h s gI rfl rfl λf w1 b5 h s=>ak 0 h s bH rfl rfl rfl (am _) (am _) (cz _) λw1 s=>nt (⟨_,s.perm (ZB (l₁:=[_])),λw3 s=>?_⟩))
  refine Y9 (ah ?_)
  cases p0:(decide (eY L ((aM n).getD d9 bE).1<L.length):Bool)
  ·refine aG (al 4 h s cv rfl rfl (rfl) rfl λf h=>ap ac 1 h rfl λf h=>ag (ae (aJ.of_own s 1 rfl) 0 (cg _)) h bs rfl rfl λf h=>da h s sG (aX (.pointer none) (kq L vo ((aM n).getD d9 bE).1 _ (hO.keep s.ext) hL) (FB (Yr p0))) rfl rfl λf w1 h s=>e9 ac 1 h rfl λf h=>ah (dF 10 h (by kernel_rfl) (aq ac 1 h rfl λf h=>ar h (bq (.bool false) (gY aa9 (h.ev rfl) (h.ev rfl)) (rfl)) rfl λf h=>aq ac 8 h rfl λf h=>bQ s λw1 s=>yV h rfl (wpIn_skip (bw (⟨(WH p0),_,rfl,s.pick _ ?_⟩))))))
   exact Yo _ (Yp _ (List.Sublist.refl _))
  ·refine aG (al 4 h s cv rfl rfl (rfl) rfl λf h=>ap ac 1 h rfl λf h=>ag (ae (aJ.of_own s 1 rfl) 0 (cg _)) h bs rfl rfl λf h=>da h s sG (aX (.pointer (some (bI vo (eY L ((aM n).getD d9 bE).1*68)))) (kq L vo ((aM n).getD d9 bE).1 _ (hO.keep s.ext) hL) (EE (Yq p0))) rfl rfl λf w1 h s=>e9 ac 1 h rfl λf h=>ah ?_)
   cases p1:(decide ((L.getD (eY L ((aM n).getD d9 bE).1) z3).1.me=((aM n).getD d9 bE)):Bool)
   ·refine dF 10 h (by kernel_rfl) ?_
    have hp9:=Yq p0
    refine aq ac 1 h rfl λf h=>ar h (bq (.bool true) (gY aa9 (h.ev rfl) (h.ev rfl)) (rfl)) rfl λf h=>aq ac 3 h rfl λf h=>a6 h rfl (ar h (aW fu (h.ev rfl) ((hO.1.keep s.ext).some (by omega))) rfl λf h=>a6 h rfl (aY (bp.elF (hO.1.keep s.ext) (eY L ((aM n).getD d9 bE).1) 0 33 (by omega) (by decide) (C:=bJ (L.getD (eY L ((aM n).getD d9 bE).1) z3).1.me (L.getD (eY L ((aM n).getD d9 bE).1) z3).1.pr (L.getD (eY L ((aM n).getD d9 bE).1) z3).2.1 (L.getD (eY L ((aM n).getD d9 bE).1) z3).2.2) (gz L _ hp9) (D:=az (L.getD (eY L ((aM n).getD d9 bE).1) z3).1.me) (fY _ _ _ _)) h bH rfl (am _) rfl λf h=>a6 h rfl (ba 1 h s bH rfl rfl (am _) rfl λf h=>a6 h rfl (ar h (bq (.bool true) (n7 (LU _ _) (by kernel_rfl) (by decide) (h.ev rfl) (h.ev rfl) (decide ((L.getD (eY L ((aM n).getD d9 bE).1) z3).1.me=((aM n).getD d9 bE))) (tI _ _)) (by rw [p1];rfl)) rfl λf h=>aq ac 1 h rfl λf h=>bQ s λw1 s=>ie h rfl (qr (aR 3 h s cI rfl rfl rfl (by simp) (rfl) λw1 s=>nt (Y8 (bo (⟨((R3 p0).trans (by rw [p1];rfl)),_,rfl,s.pick _ ?_⟩)))))))))
    exact Yo _ (Yp _ (List.Sublist.refl _))
   ·refine dF 10 h (by kernel_rfl) ?_
    have hp9:=Yq p0
    refine aq ac 1 h rfl λf h=>ar h (bq (.bool true) (gY aa9 (h.ev rfl) (h.ev rfl)) (rfl)) rfl λf h=>aq ac 3 h rfl λf h=>a6 h rfl (ar h (aW fu (h.ev rfl) ((hO.1.keep s.ext).some (by omega))) rfl λf h=>a6 h rfl (aY (bp.elF (hO.1.keep s.ext) (eY L ((aM n).getD d9 bE).1) 0 33 (by omega) (by decide) (C:=bJ (L.getD (eY L ((aM n).getD d9 bE).1) z3).1.me (L.getD (eY L ((aM n).getD d9 bE).1) z3).1.pr (L.getD (eY L ((aM n).getD d9 bE).1) z3).2.1 (L.getD (eY L ((aM n).getD d9 bE).1) z3).2.2) (gz L _ hp9) (D:=az (L.getD (eY L ((aM n).getD d9 bE).1) z3).1.me) (fY _ _ _ _)) h bH rfl (am _) rfl λf h=>a6 h rfl (ba 1 h s bH rfl rfl (am _) rfl λf h=>a6 h rfl (ar h (bq (.bool false) (n7 (LU _ _) (by kernel_rfl) (by decide) (h.ev rfl) (h.ev rfl) (decide ((L.getD (eY L ((aM n).getD d9 bE).1) z3).1.me=((aM n).getD d9 bE))) (tI _ _)) (by rw [p1];rfl)) rfl λf h=>aq ac 1 h rfl λf h=>bQ s λw1 s=>yV h rfl (wpIn_skip (bw (⟨((R3 p0).trans (by rw [p1];rfl)),_,rfl,s.pick _ ?_⟩)))))))
    exact Yo _ (Yp _ (List.Sublist.refl _))
 ·intro D9 A9 w2 hJ9 hq9 s
  obtain rfl:=hJ9
  replace h:Sl _ {f with defers:={target:=.collected D9,args:=#[]}::f.defers} _ [{target:=.collected D9,args:=#[]}]:=⟨h.size,by rw [h.defers],h.holds⟩
  refine bw (aO (qr (aR 3 h s cI rfl rfl rfl (by simp) (rfl) λw1 s=>nt (Y8 ?_))))
  exact fQ 3 0 rfl h s cI rfl rfl rfl rfl rfl (λw9=>by show _=_;rw [Jn hq9];rfl)
 ·intro D9 d9 A9 w2 hd9 hqd9 hq9 hJ9 s
  obtain rfl:=hJ9
  replace h:Sl _ {f with defers:={target:=.collected D9,args:=#[]}::f.defers} _ [{target:=.collected D9,args:=#[]}]:=⟨h.size,by rw [h.defers],h.holds⟩
  refine bo (aV ?_)
  exact fQ 3 0 rfl h s cI rfl rfl rfl rfl rfl (λw9=>by show _=_;rw [Lk hd9 hqd9];rfl)
theorem qV (x:Int) (w:World):Calls Tryz.prog 294 [.int .u8 x].toArray w (bW w (is (.bool false))):=by
 refine bG Tryz.func294 rfl Tryz.ntmps294 rfl λf h s=>bF ac 1 h rfl λf h=>cu ac 2 h rfl λf h=>lL ac (.bool false) h rfl (by simp) rfl λf h=>e9 ac 1 h rfl λf h=>Y8 (au rfl h s rfl (rfl))
theorem Ib (x y:Int) (w:World):Calls Tryz.prog 238 [.int .u8 x,.int .u8 y].toArray w (bW w (is (.int .i64 (cc x y)))):=by
 refine bG Tryz.func238 rfl Tryz.ntmps238 rfl λf h s=>bF ac 1 h rfl λf h=>cu ac 1 h rfl λf h=>da h s FG (qV _ _) rfl rfl λf w1 h s=>e9 ac 1 h rfl λf h=>cu ac 1 h rfl λf h=>da h s FG (qV _ _) rfl rfl λf w1 h s=>e9 ac 1 h rfl λf h=>ah (bF ac 1 h rfl λf h=>qC h rfl (ah (bF ac 1 h rfl λf h=>qC h rfl (ah (bF ac 3 h rfl λf h=>cA h rfl (λhc=>?_) (λhc=>?_))))))
 ·have hc:=Yq hc
  refine bF ac 1 h rfl λf h=>rt (au rfl h s rfl (by show _=_;unfold cc;rw [if_pos hc]))
 ·have hc1:=Yr hc
  refine kt (ah (bF ac 3 h rfl λf h=>dq h rfl (λhc=>?_) (λhc=>?_)))
  ·refine bF ac 1 h rfl λf h=>rt (au rfl h s rfl (by show _=_;unfold cc;rw [if_neg (by omega),if_pos hc]))
  ·refine kt (bF ac 1 h rfl λf h=>Y8 (au rfl h s rfl (by show _=_;unfold cc;rw [if_neg (by omega),if_neg (by omega)])))
theorem Ch (L:List N3) (hL:L.length<=1000) (a9:Option Addr) (n9 c9:Nat) (w:World) (hR:bp w (.slice a9 n9 c9) 68 L.length (aK L)) (ho:∀ x∈L,BT w x):Calls Tryz.prog 49 [.slice a9 n9 c9].toArray w (bW w (λv w'=>cq w' w.heap.size 72 68 v L.length (aK L))):=by
 refine bG Tryz.func49 rfl Tryz.ntmps49 rfl λf h s=>bF ac 1 h rfl λf h=>ah (ah ?_)
 cases hn:(a9.isNone:Bool)
 ·refine rs ac 1 h rfl λf h=>ai h (bq (.bool false) (bR Z8 (h.ev rfl) (h.ev rfl)) (Yu Value.bool hn)) rfl λf h=>f7 h rfl (qr (ej (base:=w.heap.size) h Z8 rh (YM _) rfl λf w2 v5 h hE3 e5=>ap ac 1 h rfl λf h=>dh (base:=w.heap.size) e5 (hR.keep hE3) h Z8 rh rfl rfl hE3.le (sj ho) (by unfold maxLen;omega) (by omega) rfl λf w3 v7 h hE4 e7=>?_))
  replace s:=s.sl_new (hE3.trans hE4) e7
  refine e9 ac 1 h rfl λf h=>Y8 (au rfl h s rfl (s.getSl 0 rfl))
 ·refine rs ac 1 h rfl λf h=>ai h (bq (.bool true) (bR Z8 (h.ev rfl) (h.ev rfl)) (Yu Value.bool hn)) rfl λf h=>ie h rfl (bF ac 1 h rfl λf h=>rt (au rfl h s rfl (by obtain rfl:=yk hn hR;exact dT _ _ _ _)))
theorem pN (L:List N3) (hL:L.length<=1000) (v9:Value) (w:World) (hR:bp w v9 68 L.length (aK L)) (ho:∀ x∈L,BT w x):Calls Tryz.prog 49 [v9].toArray w (bW w (λv w'=>cq w' w.heap.size 72 68 v L.length (aK L))):=by
 obtain ⟨a,c,rfl⟩:=hR.len
 exact Ch L hL a _ c w hR ho
theorem B4 (l:List Mb) (hln:l.length<=1000) (a9:Option Addr) (n9 c9:Nat) (w:World) (hR:bp w (.slice a9 n9 c9) 33 l.length (aw l)):Calls Tryz.prog 50 [.slice a9 n9 c9].toArray w (bW w (λv w'=>cq w' w.heap.size 69 33 v l.length (aw l))):=by
 refine bG Tryz.func50 rfl Tryz.ntmps50 rfl λf h s=>bF ac 1 h rfl λf h=>ah (ah ?_)
 cases hn:(a9.isNone:Bool)
 ·refine rs ac 1 h rfl λf h=>ai h (bq (.bool false) (bR aa8 (h.ev rfl) (h.ev rfl)) (Yu Value.bool hn)) rfl λf h=>f7 h rfl (qr (ej (base:=w.heap.size) h aa8 ny (YM _) rfl λf w2 v5 h hE3 e5=>ap ac 1 h rfl λf h=>dh (base:=w.heap.size) e5 (hR.keep hE3) h aa8 ny rfl rfl hE3.le (mn _) (by unfold maxLen;omega) (by omega) rfl λf w3 v7 h hE4 e7=>?_))
  replace s:=s.sl_new (hE3.trans hE4) e7
  refine e9 ac 1 h rfl λf h=>Y8 (au rfl h s rfl (s.getSl 0 rfl))
 ·refine rs ac 1 h rfl λf h=>ai h (bq (.bool true) (bR aa8 (h.ev rfl) (h.ev rfl)) (Yu Value.bool hn)) rfl λf h=>ie h rfl (bF ac 1 h rfl λf h=>rt (au rfl h s rfl (by obtain rfl:=zm hn hR;exact dT _ _ _ _)))
theorem iT (l:List Mb) (hln:l.length<=1000) (v9:Value) (w:World) (hR:bp w v9 33 l.length (aw l)):Calls Tryz.prog 50 [v9].toArray w (bW w (λv w'=>cq w' w.heap.size 69 33 v l.length (aw l))):=by
 obtain ⟨a,c,rfl⟩:=hR.len
 exact B4 l hln a _ c w hR
set_option maxHeartbeats 1000000 in
theorem rD (L:List N3) (vo:Value) (m:Mb) (w:World) (hO:kC w vo L) (hL:L.length<=40) (hb:RwB L):Calls Tryz.prog 126 [.agg #[vo],.agg (az m)].toArray w (bW w (is (.bool (Do L m)))):=by
 refine gF Tryz.func126 rfl Tryz.ntmps126 rfl [(0,.agg #[vo]),(1,.agg (az m))] (by simp) λf h=>?_
 have s:=St.start w
 refine qr (bh (#[vo]) h s rfl rfl rfl λf w1 b2 h s=>bh ((az m)) h s rfl rfl rfl λf w1 b3 h s=>aS (#[.bool false]) h s AI rfl rfl λf w1 b4 h s=>nt (ah (qr (al 2 h s cv rfl rfl (rfl) rfl λf h=>dI [.agg #[vo]] h vQ (jO vo _ _ _ s) rfl rfl ?_))));rintro f w1 r ⟨bn,rfl,s⟩ h
 refine nt (Y9 (gC (λd A9=>A9=[.blk b4 (.cells #[.bool (lq (nX L m) d)] 4),.blk b3 (.cells (az m) 69),.blk b2 (.cells #[vo] 24)]) [.blk b4 (.cells #[.bool false] 4),.blk b3 (.cells (az m) 69),.blk b2 (.cells #[vo] 24)] [.blk bn (.cells #[vo] 24)] (L.length) (nX L m) (λd=>[Value.pointer (some (bI vo (d*68)))]) h s rfl oD (List.Perm.refl _) (rfl) (λ_=>rfl) ?_ ?_ ?_ ?_))
 ·intro lp w2 GG g0 hg0 s2 hY;exact ir L.length (by omega) vo _ _ hO.1 lp bn (nX L m) GG g0 w w2 s2 hg0 hY
 ·intro lp D9 d9 rc R9 A9 w2 hd9 hq9 hJ9 s
  obtain rfl:=hJ9
  have h:=Sl.round1 (p:=9) (V:=.pointer (some (bI vo (d9*68)))) h rfl
  have hdl9:=hd9
  replace s:=s.recell (D:=#[.bool false]) 2 rfl (by rw [z6 hq9])
  have hx9:=hb.each _ (cF hdl9)
  have hkx:(aM (L.getD d9 z3).1).length<=1000:=by simp only [aM,Yy,Y0];omega
  refine re ac 1 h rfl λf h=>⟨_,s,λw3 s=>?_⟩
  refine Y9 (ah (ah ?_))
  refine dF 18 h (by kernel_rfl) (aq ac 2 h rfl λf h=>ar h (aW fu (h.ev rfl) ((hO.1.keep s.ext).some (by omega))) rfl λf h=>ar h (aW lR (h.ev rfl) ((hO.1.keep s.ext).some (by omega))) rfl λf h=>ao (V:=.int .i64 (L.getD d9 z3).1.me.1) (cX (hO.1.keep s.ext) (d9*68+0) (A6 L d9 hdl9)) h bs rfl rfl λf h=>aq ac 1 h rfl λf h=>ao (ae (aJ.of_own s 3 rfl) 0 (cg _)) h bs rfl rfl λf h=>IV ac h rfl (λe0 f h=>?_) (λe0 f h=>?_))
  ·skip
   cases e1:(decide ((L.getD d9 z3).1.me.2=m.2):Bool)
   ·refine aq ac 3 h rfl λf h=>a6 h rfl (ar h (aW fu (h.ev rfl) ((hO.1.keep s.ext).some (by omega))) rfl λf h=>a6 h rfl (ar h (aW sN (h.ev rfl) ((hO.1.keep s.ext).some (by omega))) rfl λf h=>a6 h rfl (aY (bp.elF (hO.1.keep s.ext) (d9) 1 32 (by omega) (by decide) (C:=bJ (L.getD d9 z3).1.me (L.getD d9 z3).1.pr (L.getD d9 z3).2.1 (L.getD d9 z3).2.2) (gz L d9 hdl9) (D:=aA (L.getD d9 z3).1.me.2) (wZ _ _ _ _)) h cJ rfl (by first|exact aF _|exact aE _ _) rfl λf h=>aq ac 1 h rfl λf h=>a6 h rfl (aY (aJ.subL (aJ.of_own s 3 rfl) 1 32 (D:=aA (_)) (fl _)) h cJ rfl (by first|exact aF _|exact aE _ _) rfl λf h=>a6 h rfl (ar h (bq (.bool false) (dn fW (h.ev rfl) (h.ev rfl)) (Yu Value.bool e1)) rfl λf h=>aq ac 1 h rfl λf h=>bQ s λw1 s=>f7 h rfl (cu ac 2 h rfl λf h=>aB ((hO.1.keep s.ext).el (d9) (by omega) (by decide) (D:=bJ (L.getD d9 z3).1.me (L.getD d9 z3).1.pr (L.getD d9 z3).2.1 (L.getD d9 z3).2.2) (gz L d9 hdl9)) h fU rfl (bN _ _ _ _) rfl λf h=>bB h s HV (pU (L.getD d9 z3).1 (L.getD d9 z3).2.1 (L.getD d9 z3).2.2 _ ((hO.2 _ (cF hdl9)).1.keep s.ext) ((hO.2 _ (cF hdl9)).2.keep s.ext) (by omega) (by omega)) rfl rfl ?_))))));rintro f w1 r9 ⟨bv,vk,rfl,hS⟩ hE h sq;replace s:=s.add hS;clear hS
    refine nt (Y9 (DK (λd A8=>A8=(.blk lp (.loop (rc .busy))::.blk D9 (.deferred (some []))::.blk b4 (.cells #[.bool (lq (λj=>mB m ((aM (L.getD d9 z3).1).getD j bE)) d)] 4)::.blk b3 (.cells (az m) 69)::.blk b2 (.cells #[vo] 24)::R9)) (.blk lp (.loop (rc .busy))::.blk D9 (.deferred (some []))::.blk b4 (.cells #[.bool false] 4)::.blk b3 (.cells (az m) 69)::.blk b2 (.cells #[vo] 24)::R9) [.blk bv (.cells #[vk] 70),.sl vk 69 33 (aM (L.getD d9 z3).1).length (aw (aM (L.getD d9 z3).1))] ((aM (L.getD d9 z3).1).length) (λj=>mB m ((aM (L.getD d9 z3).1).getD j bE)) (λd=>[Value.agg (az ((aM (L.getD d9 z3).1).getD d bE))]) h s rfl H0 2 rfl (List.Perm.refl _) (rfl) (λ_=>rfl) ?_ ?_ ?_ ?_))
    ·intro lp2 w2 GG g0 hg0 s2 hY;exact qd (aM (L.getD d9 z3).1) hkx vk lp2 bv (λj=>mB m ((aM (L.getD d9 z3).1).getD j bE)) GG g0 w w2 s2 hg0 hY
    ·intro lp2 d8 rc2 R8 A8 w2 hd8 hq8 hJ8 s
     obtain rfl:=hJ8
     have h:=Sl.round1 (p:=32) (V:=.agg (az ((aM (L.getD d9 z3).1).getD d8 bE))) h rfl
     replace s:=s.recell (D:=#[.bool false]) 3 rfl (by rw [z6 hq8])
     refine aG (aS (az bE) h s gI rfl rfl λf w1 b6 h s=>ak 0 h s bH rfl rfl rfl (am _) (am _) (cz _) λw1 s=>nt (⟨_,s.perm (ZB (l₁:=[_])),λw3 s=>?_⟩))
     refine Y9 (ah ?_)
     refine rs ac 1 h rfl λf h=>ag (ae (aJ.of_own s 1 rfl) 0 (cg _)) h bs rfl rfl λf h=>ap ac 1 h rfl λf h=>ag (ae (aJ.of_own s 5 rfl) 0 (cg _)) h bs rfl rfl λf h=>kB ac h rfl (λf0 f h=>?_) (λf0 f h=>?_)
     ·refine e9 ac 5 h rfl λf h=>m4 h rfl (wpIn_skip (bw ?_))
      replace s:=s.recell (D:=#[.bool (lq (λj=>mB m ((aM (L.getD d9 z3).1).getD j bE)) (d8+1))]) 4 rfl (by show _=#[Value.bool (mB m ((aM (L.getD d9 z3).1).getD d8 bE))];rw [show mB m ((aM (L.getD d9 z3).1).getD d8 bE)=false from by unfold mB;rw [f0];rfl])
      refine ⟨(by show mB m _=_;unfold mB;rw [f0];rfl),_,rfl,s.pick _ ?_⟩
      exact Yo _ (Yp _ (List.Sublist.refl _))
     ·skip
      cases f1:(decide (((aM (L.getD d9 z3).1).getD d8 bE)=m):Bool)
      ·refine ap ac 1 h rfl λf h=>bX h rfl (al 1 h s bH rfl rfl (am _) rfl λf h=>bX h rfl (al 5 h s bH rfl rfl (am _) rfl λf h=>bX h rfl (ai h (bq (.bool true) (n7 (LU _ _) (by kernel_rfl) (by decide) (h.ev rfl) (h.ev rfl) (decide (((aM (L.getD d9 z3).1).getD d8 bE)=m)) (tI _ _)) (by rw [f1];rfl)) rfl λf h=>e9 ac 1 h rfl λf h=>dQ h rfl (qr (aR 4 h s cI rfl rfl rfl (by simp) (rfl) λw1 s=>nt (Y8 (bo ?_)))))))
       replace s:=s.recell (D:=#[.bool (lq (λj=>mB m ((aM (L.getD d9 z3).1).getD j bE)) (d8+1))]) 4 rfl (by show _=#[Value.bool (mB m ((aM (L.getD d9 z3).1).getD d8 bE))];rw [show mB m ((aM (L.getD d9 z3).1).getD d8 bE)=true from by unfold mB;rw [f0,f1];rfl];rfl)
       refine ⟨(by show mB m _=_;unfold mB;rw [f0,f1];rfl),_,rfl,s.pick _ ?_⟩
       exact Yo _ (Yp _ (List.Sublist.refl _))
      ·refine ap ac 1 h rfl λf h=>bX h rfl (al 1 h s bH rfl rfl (am _) rfl λf h=>bX h rfl (al 5 h s bH rfl rfl (am _) rfl λf h=>bX h rfl (ai h (bq (.bool false) (n7 (LU _ _) (by kernel_rfl) (by decide) (h.ev rfl) (h.ev rfl) (decide (((aM (L.getD d9 z3).1).getD d8 bE)=m)) (tI _ _)) (by rw [f1];rfl)) rfl λf h=>e9 ac 1 h rfl λf h=>m4 h rfl (wpIn_skip (bw ?_)))))
       replace s:=s.recell (D:=#[.bool (lq (λj=>mB m ((aM (L.getD d9 z3).1).getD j bE)) (d8+1))]) 4 rfl (by show _=#[Value.bool (mB m ((aM (L.getD d9 z3).1).getD d8 bE))];rw [show mB m ((aM (L.getD d9 z3).1).getD d8 bE)=false from by unfold mB;rw [f0,f1];rfl])
       refine ⟨(by show mB m _=_;unfold mB;rw [f0,f1];rfl),_,rfl,s.pick _ ?_⟩
       exact Yo _ (Yp _ (List.Sublist.refl _))
    ·intro A8 w2 hJ8 hq8 s
     obtain rfl:=hJ8
     refine bw (bw ?_)
     have hb9:=S7 (m:=m) e0 e1 (YM _) hq8
     replace s:=s.recell (D:=#[.bool (lq (nX L m) (d9+1))]) 4 rfl (by rw [z6 hq8];show #[Value.bool false]=#[Value.bool (nX L m d9)];rw [hb9])
     refine ⟨S7 e0 e1 (YM _) hq8,_,rfl,s.pick _ ?_⟩
     exact Yp _ (Yp _ (Yo _ (List.Sublist.refl _)))
    ·intro d8 A8 w2 hd8 hqd8 hq8 hJ8 s
     obtain rfl:=hJ8
     refine bo (bo ?_)
     have hb9:nX L m d9=true:=Tf hd8 hqd8
     replace s:=s.recell (D:=#[.bool (lq (nX L m) (d9+1))]) 4 rfl (by show #[Value.bool (mB m ((aM (L.getD d9 z3).1).getD d8 bE))]=#[Value.bool (nX L m d9)];rw [hb9,show mB m ((aM (L.getD d9 z3).1).getD d8 bE)=true from hqd8])
     refine ⟨Tf hd8 hqd8,_,rfl,s.pick _ ?_⟩
     exact Yp _ (Yp _ (Yo _ (List.Sublist.refl _)))
   ·refine aq ac 3 h rfl λf h=>a6 h rfl (ar h (aW fu (h.ev rfl) ((hO.1.keep s.ext).some (by omega))) rfl λf h=>a6 h rfl (ar h (aW sN (h.ev rfl) ((hO.1.keep s.ext).some (by omega))) rfl λf h=>a6 h rfl (aY (bp.elF (hO.1.keep s.ext) (d9) 1 32 (by omega) (by decide) (C:=bJ (L.getD d9 z3).1.me (L.getD d9 z3).1.pr (L.getD d9 z3).2.1 (L.getD d9 z3).2.2) (gz L d9 hdl9) (D:=aA (L.getD d9 z3).1.me.2) (wZ _ _ _ _)) h cJ rfl (by first|exact aF _|exact aE _ _) rfl λf h=>aq ac 1 h rfl λf h=>a6 h rfl (aY (aJ.subL (aJ.of_own s 3 rfl) 1 32 (D:=aA (_)) (fl _)) h cJ rfl (by first|exact aF _|exact aE _ _) rfl λf h=>a6 h rfl (ar h (bq (.bool true) (dn fW (h.ev rfl) (h.ev rfl)) (Yu Value.bool e1)) rfl λf h=>aq ac 1 h rfl λf h=>bQ s λw1 s=>ie h rfl (qr (aR 2 h s cI rfl rfl rfl (by simp) (rfl) λw1 s=>nt (rt (bo ?_)))))))))
    have hb9:nX L m d9=true:=Ti e1
    replace s:=s.recell (D:=#[.bool (lq (nX L m) (d9+1))]) 2 rfl (by show #[Value.bool true]=#[Value.bool (nX L m d9)];rw [hb9])
    refine ⟨Ti e1,_,rfl,s.pick _ ?_⟩
    exact Yo _ (List.Sublist.refl _)
  ·refine aq ac 10 h rfl λf h=>bQ s λw1 s=>ie h rfl (qr (aR 2 h s cI rfl rfl rfl (by simp) (rfl) λw1 s=>nt (rt (bo ?_))))
   have hb9:nX L m d9=true:=NK e0
   replace s:=s.recell (D:=#[.bool (lq (nX L m) (d9+1))]) 2 rfl (by show #[Value.bool true]=#[Value.bool (nX L m d9)];rw [hb9])
   refine ⟨NK e0,_,rfl,s.pick _ ?_⟩
   exact Yo _ (List.Sublist.refl _)
 ·intro D9 A9 w2 hJ9 hq9 s
  obtain rfl:=hJ9
  replace h:Sl _ {f with defers:={target:=.collected D9,args:=#[]}::f.defers} _ [{target:=.collected D9,args:=#[]}]:=⟨h.size,by rw [h.defers],h.holds⟩
  refine bw (aO (qr (aR 2 h s cI rfl rfl rfl (by simp) (rfl) λw1 s=>nt (Y8 ?_))))
  exact fQ 2 0 rfl h s cI rfl rfl rfl rfl rfl (λw9=>(Yu Value.bool (VO (YM _) hq9)).symm)
 ·intro D9 d9 A9 w2 hd9 hqd9 hq9 hJ9 s
  obtain rfl:=hJ9
  replace h:Sl _ {f with defers:={target:=.collected D9,args:=#[]}::f.defers} _ [{target:=.collected D9,args:=#[]}]:=⟨h.size,by rw [h.defers],h.holds⟩
  refine bo (aV ?_)
  exact fQ 2 0 rfl h s cI rfl rfl rfl rfl rfl (λw9=>Yu Value.bool (hqd9.trans (RJ hd9 hqd9).symm))
set_option maxHeartbeats 1000000 in
theorem nK (L:List N3) (vo:Value) (w:World) (hO:kC w vo L) (hL:L.length<=40) (hb:RwB L):Calls Tryz.prog 127 [.agg #[vo]].toArray w (bW w (XJ w 72 (nds L))):=by
 refine gF Tryz.func127 rfl Tryz.ntmps127 rfl [(0,.agg #[vo])] (by simp) λf h=>?_
 have s:=St.start w
 refine qr (bh (#[vo]) h s rfl rfl rfl λf w1 b1 h s=>aS (#[aj]) h s yH rfl rfl λf w1 b2 h s=>nt (cu ac 1 h rfl λf h=>ag (V:=vo) (ae (aJ.of_own s 1 rfl) 0 rfl) h eG rfl rfl λf h=>bB h s M5 (pN L (by omega) vo _ (hO.1.keep s.ext) (λx hx=>(hO.2 x hx).keep s.ext)) rfl rfl ?_));intro f w1 v6 hT hE h sq;replace s:=s.sl_new hE hT
 refine ap ac 1 h rfl λf h=>aR 2 h s eG rfl rfl rfl (by show 0<1;decide) (bA (s.getSl 0 rfl)) λw1 s=>?_
 replace s:=s.recell (D:=#[v6]) 2 rfl rfl
 refine nt (ah (qr ?_))
 replace s:=s.grp0 (S:=jM (L.take 0)) (λ_ x hx=>by simp at hx)
 refine al 3 h s cv rfl rfl (rfl) rfl λf h=>dI [.agg #[v6]] h vQ (jO v6 _ _ _ s) rfl rfl ?_;rintro f w1 r ⟨bn,rfl,s⟩ h
 refine nt (Y9 (gC (λd A9=>∃ (Kd:List N3) (kd:List Nat),(nds Kd=nds L/\∀ j,d<=j->Kd.getD j z3=L.getD j z3)/\A9=[.grp kd (jM (Kd.take d)),.sl v6 72 68 Kd.length (aK Kd),.blk b2 (.cells (#[aj]) 24),.blk b1 (.cells #[v6] 24)]) [.grp [] (jM (L.take 0)),.sl v6 72 68 L.length (aK L),.blk b2 (.cells (#[aj]) 24),.blk b1 (.cells #[v6] 24)] [.blk bn (.cells #[v6] 24)] (L.length) (λ_=>false) (λd=>[Value.pointer (some (bI v6 (d*68)))]) h s rfl oD (List.Perm.refl _) (⟨L,[],⟨rfl,λj _=>rfl⟩,rfl⟩) (λ_=>rfl) ?_ ?_ ?_ ?_))
 ·intro lp w2 GG g0 hg0 s2 hY;exact ir L.length (by omega) v6 _ _ (bp.of_own (s.getSl 2 rfl)) lp bn (λ_=>false) GG g0 w w2 s2 hg0 hY
 ·intro lp D9 d9 rc R9 A9 w2 hd9 hq9 hJ9 s
  obtain ⟨Kd,kd,⟨hkn,hkj⟩,rfl⟩:=hJ9
  have h:=Sl.round1 (p:=10) (V:=.pointer (some (bI v6 (d9*68)))) h rfl
  have hdl9:=hd9
  have hlk:Kd.length=L.length:=by have h9:=Yu List.length hkn;simpa [nds] using h9
  have hdk:d9<Kd.length:=by omega
  have hxd:Kd.getD d9 z3=L.getD d9 z3:=hkj d9 (YM _)
  have hx9:=hb.each _ (cF hdl9)
  refine re ac 1 h rfl λf h=>⟨_,s,λw3 s=>?_⟩
  refine Y9 (cu ac 3 h rfl λf h=>ai h (aW l4 (h.ev rfl) ((bp.of_own (s.getSl 3 rfl)).some (by omega))) rfl λf h=>ag (V:=(Kd.getD d9 z3).2.1) (cX (bp.of_own (s.getSl 3 rfl)) (d9*68+66) (Fi Kd d9 hdk)) h eO rfl rfl λf h=>bB h s A4 (iT (L.getD d9 z3).1.sc (by omega) (Kd.getD d9 z3).2.1 _ (by rw [hxd];exact(hO.2 _ (cF hdl9)).1.keep s.ext)) rfl rfl ?_);intro f w1 v16 hT hE h sq;replace s:=s.sl_new hE hT
  refine ap ac 1 h rfl λf h=>ai h (aW l4 (h.ev rfl) ((bp.of_own (s.getSl 4 rfl)).some (by omega))) rfl λf h=>dX 4 h s eO rfl rfl rfl (by omega) (bA (s.getSl 0 rfl)) (show (aK Kd).set (d9*68+66) v16=aK (Kd.set d9 ((⟨(Kd.getD d9 z3).1.me,(Kd.getD d9 z3).1.pr,(Kd.getD d9 z3).1.sc,(Kd.getD d9 z3).1.fg⟩,v16,(Kd.getD d9 z3).2.2):N3)) from xK hdk _ _) λw1 s=>nt (rs ac 3 h rfl λf h=>ai h (aW lX (h.ev rfl) ((bp.of_own (s.getSl 4 rfl)).some (by omega))) rfl λf h=>ag (V:=(Kd.getD d9 z3).2.2) (cX (bp.of_own (s.getSl 4 rfl)) (d9*68+67) ((EN _ d9 (by rw [List.length_set];exact hdk)).trans (by rw [qo hdk]))) h eO rfl rfl λf h=>bB h s A4 (iT (L.getD d9 z3).1.fg (by omega) (Kd.getD d9 z3).2.2 _ (by rw [hxd];exact(hO.2 _ (cF hdl9)).2.keep s.ext)) rfl rfl ?_);intro f w1 v24 hT hE h sq;replace s:=s.sl_new hE hT
  refine ap ac 1 h rfl λf h=>ai h (aW lX (h.ev rfl) ((bp.of_own (s.getSl 5 rfl)).some (by omega))) rfl λf h=>dX 5 h s eO rfl rfl rfl (by omega) (bA (s.getSl 0 rfl)) (show (aK (Kd.set d9 ((⟨(Kd.getD d9 z3).1.me,(Kd.getD d9 z3).1.pr,(Kd.getD d9 z3).1.sc,(Kd.getD d9 z3).1.fg⟩,v16,(Kd.getD d9 z3).2.2):N3))).set (d9*68+67) v24=aK (Kd.set d9 ((⟨(Kd.getD d9 z3).1.me,(Kd.getD d9 z3).1.pr,(Kd.getD d9 z3).1.sc,(Kd.getD d9 z3).1.fg⟩,v16,v24):N3)) from (vM (by rw [List.length_set];exact hdk) _ (Kd.getD d9 z3).1.fg).trans (by rw [qo hdk,xR])) λw1 s=>?_
  replace s:=s.resl (m:=(Kd.set d9 ((⟨(Kd.getD d9 z3).1.me,(Kd.getD d9 z3).1.pr,(Kd.getD d9 z3).1.sc,(Kd.getD d9 z3).1.fg⟩,v16,v24):N3)).length) (ys:=aK (Kd.set d9 ((⟨(Kd.getD d9 z3).1.me,(Kd.getD d9 z3).1.pr,(Kd.getD d9 z3).1.sc,(Kd.getD d9 z3).1.fg⟩,v16,v24):N3))) 5 rfl (by rw [List.length_set]) rfl
  refine ay (bw ?_)
  replace s:=s.bring 4 rfl
  replace s:=s.bring 1 rfl
  replace s:=s.bring 2 rfl
  replace s:St w (.sl v16 69 33 (L.getD d9 z3).1.sc.length (aw (L.getD d9 z3).1.sc)::.sl v24 69 33 (L.getD d9 z3).1.fg.length (aw (L.getD d9 z3).1.fg)::(.grp kd (jM (Kd.take d9)))::.blk lp (.loop (rc .busy))::.blk D9 (.deferred (some []))::.sl v6 72 68 (Kd.set d9 ((⟨(Kd.getD d9 z3).1.me,(Kd.getD d9 z3).1.pr,(Kd.getD d9 z3).1.sc,(Kd.getD d9 z3).1.fg⟩,v16,v24):N3)).length (aK (Kd.set d9 ((⟨(Kd.getD d9 z3).1.me,(Kd.getD d9 z3).1.pr,(Kd.getD d9 z3).1.sc,(Kd.getD d9 z3).1.fg⟩,v16,v24):N3)))::.blk b2 (.cells (#[aj]) 24)::.blk b1 (.cells (#[v6]) 24)::R9) _:=s
  obtain ⟨kn,s⟩:=s.grpR (S':=jM ((Kd.set d9 ((⟨(Kd.getD d9 z3).1.me,(Kd.getD d9 z3).1.pr,(Kd.getD d9 z3).1.sc,(Kd.getD d9 z3).1.fg⟩,v16,v24):N3)).take (d9+1))) (λw9 h1 h2 h3=>AJ hdk h3 ⟨by rw [← hxd] at h1;exact h1,by rw [← hxd] at h2;exact h2⟩)
  replace s:=s.bring 2 rfl
  replace s:=s.bring 2 rfl
  replace s:St w (.blk lp (.loop (rc .busy))::.blk D9 (.deferred (some []))::(.grp kn (jM ((Kd.set d9 ((⟨(Kd.getD d9 z3).1.me,(Kd.getD d9 z3).1.pr,(Kd.getD d9 z3).1.sc,(Kd.getD d9 z3).1.fg⟩,v16,v24):N3)).take (d9+1))))::.sl v6 72 68 (Kd.set d9 ((⟨(Kd.getD d9 z3).1.me,(Kd.getD d9 z3).1.pr,(Kd.getD d9 z3).1.sc,(Kd.getD d9 z3).1.fg⟩,v16,v24):N3)).length (aK (Kd.set d9 ((⟨(Kd.getD d9 z3).1.me,(Kd.getD d9 z3).1.pr,(Kd.getD d9 z3).1.sc,(Kd.getD d9 z3).1.fg⟩,v16,v24):N3)))::.blk b2 (.cells (#[aj]) 24)::.blk b1 (.cells (#[v6]) 24)::R9) _:=s
  refine ⟨rfl,_,⟨(Kd.set d9 ((⟨(Kd.getD d9 z3).1.me,(Kd.getD d9 z3).1.pr,(Kd.getD d9 z3).1.sc,(Kd.getD d9 z3).1.fg⟩,v16,v24):N3)),kn,⟨Ba hkn rfl hdk,λj hj=>(Na (by omega) _).trans (hkj j (by omega))⟩,rfl⟩,s.pick _ ?_⟩
  exact Yo _ (List.Sublist.refl _)
 ·intro D9 A9 w2 hJ9 hq9 s
  obtain ⟨Kd,kd,⟨hkn,hkj⟩,rfl⟩:=hJ9
  replace h:Sl _ {f with defers:={target:=.collected D9,args:=#[]}::f.defers} _ [{target:=.collected D9,args:=#[]}]:=⟨h.size,by rw [h.defers],h.holds⟩
  have hlk:Kd.length=L.length:=by have h9:=Yu List.length hkn;simpa [nds] using h9
  rw [show Kd.take L.length=Kd from YU (by omega)] at s
  refine bw (aO (qr (al 5 h s cv rfl rfl (rfl) rfl λf h=>ak 4 h s cv rfl rfl rfl (rfl) (rfl) (fe (bA (s.getSl 3 rfl))) λw1 s=>nt (Y8 ?_))))
  exact Fh 4 0 rfl h s cv rfl rfl rfl rfl (rfl) (λw9 s9=>⟨v6,Kd,kd,rfl,hkn,s9.sel [3,2] rfl (by decide)⟩)
 ·intro D9 d9 A9 w2 hd9 hqd9 hq9 hJ9 s
  cases hqd9
theorem Cq (x y:N3) (w:World):Calls Tryz.prog 129 [.agg (bJ x.1.me x.1.pr x.2.1 x.2.2),.agg (bJ y.1.me y.1.pr y.2.1 y.2.2)].toArray w (bW w (is (.int .i64 (cc x.1.me.1 y.1.me.1)))):=by
 refine bG Tryz.func129 rfl Tryz.ntmps129 rfl λf h s=>qr (bh (bJ x.1.me x.1.pr x.2.1 x.2.2) h s rfl rfl rfl λf w1 b2 h s=>bh (bJ y.1.me y.1.pr y.2.1 y.2.2) h s rfl rfl rfl λf w1 b3 h s=>e9 ac 1 h rfl λf h=>cu ac 1 h rfl λf h=>aB (aJ.subL (aJ.of_own s 1 rfl) 0 33 (D:=az x.1.me) (fY _ _ _ _)) h bH rfl (am _) rfl λf h=>ap ac 1 h rfl λf h=>aB (aJ.subL (aJ.of_own s 0 rfl) 0 33 (D:=az y.1.me) (fY _ _ _ _)) h bH rfl (am _) rfl λf h=>da h s EV (qt _ _ _) rfl rfl λf w1 h s=>e9 ac 1 h rfl λf h=>Y8 (au rfl h s rfl (rfl)))
theorem wj (L:List N3) (hL:L.length<=1000) (ho:∀ x∈L,x.2.1.oneCell'=true/\x.2.2.oneCell'=true) (hd:L.Pairwise λa b=>a.1.me.1≠b.1.me.1) (v:Value) (B9:List Own) (w0 w:World) (s:St w0 (.sl v 72 68 L.length (aK L)::B9) w):
 Calls Tryz.prog 128 [v,.func (.func 129) #[] #[]].toArray w (λe w'=>∃ r,e=.returned r/\∃ K:List N3,K.Perm L/\(K.Pairwise λa b=>a.1.me.1<b.1.me.1)/\St w0 (.sl v 72 68 K.length (aK K)::B9) w'):=by
 by_cases h0:L.length=0
 ·have hl:L=[]:=List.eq_nil_of_length_eq_zero h0
  subst hl
  obtain ⟨a,c,rfl⟩:=dA (s.getSl 0 rfl)
  refine(Go.Proofs.AnyF.slices_SortFunc_none (P:=Tryz.prog) (ρ:=Tryz.layN_ren) Tryz.layN a c (.func (.func 129) #[] #[]) w).mono ?_
  rintro e w' ⟨rfl,rfl⟩
  exact ⟨_,rfl,[],List.Perm.refl _,List.Pairwise.nil,s⟩
 ·obtain ⟨l,hl⟩:∃ l,l=N9 L ho:=⟨_,rfl⟩
  have hm:l.map (·.1)=L:=by rw [hl];exact xB L ho
  have hln:l.length=L.length:=by rw [hl];exact Gi L ho
  have hc:aK L=gk l:=by rw [pG,hm]
  rw [hc,← hln] at s
  obtain ⟨g,cap,rfl,hlt,hgo,hH,hst⟩:=FF s rfl (by omega)
  have hcon:=Go.Proofs.AnyQ.slices_SortFunc (P:=Tryz.prog) (ρ:=Tryz.layN_ren) Tryz.layN 68 Tryz.isAgg72 Tryz.sizeOf72 pQ n4 HG (λx y:nW=>cc x.1.1.me.1 y.1.1.me.1) He 129 #[] g 0 cap l.toArray w (enters_of Tryz.func129 (by kernel_rfl) rfl) (λm os dk _ x y=>by
   have h9:=Cq x.1 y.1 (Go.Proofs.sortWorldK pQ 68 w g 0 m dk os)
   refine h9.mono ?_
   rintro e w' ⟨v,rfl,hv,hE⟩
   obtain rfl:=hv
   exact ⟨rfl,ut hE⟩) hH hlt (by rw [List.size_toArray];omega)
  refine hcon.mono ?_
  rintro e w' ⟨rfl,d',n,os,hp,hs,rfl⟩
  have hsz:d'.size=l.length:=by rw [hp.1,List.size_toArray]
  have s2:=hst n os d' hsz
  obtain ⟨h1,h2⟩:=CZ (l:=l) (by rw [← hm] at hd;exact G5.1 hd) hp hs
  have hKl:(d'.toList.map (·.1)).length=l.length:=by rw [Y6,YD,hsz]
  refine ⟨_,rfl,d'.toList.map (·.1),?_,G5.2 h2,?_⟩
  ·rw [← hm];exact h1.map _
  ·rw [pG] at s2;rw [hKl];exact s2
end Go.Proofs.YtkhepdpfdhdlaaaGreatDoor
