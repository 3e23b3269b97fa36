/- Package chord: what its functions answer. -/
import Derived.Test.YthmlflaiidhoiaaGreatDoorSn
set_option linter.unusedVariables false
namespace Go.Proofs.YthmlflaiidhoiaaGreatDoor
open Go.RowKit
theorem jH (vo:Value) (B9:List Own) (w0 w:World) (s:St w0 B9 w):Calls Tryz.prog 33 [.agg #[vo]].toArray w (λe w9=>∃ r,e=.returned r/\∃ bn,r=.func (.func 81) #[] #[.pointer (some ⟨bn,0,none⟩)]/\St w0 (.blk bn (.cells #[vo] 24)::B9) w9):=by
 refine c7 Tryz.func33 rfl Tryz.ntmps33 rfl [(0,.agg #[vo])] (by simp) λf h=>?_
 refine qr (aV (#[vo]) h s rfl rfl rfl λf w1 b1 h s=>e9 ac 1 h rfl λf h=>qr (ai h (cO [.pointer (some ⟨b1,0,none⟩)] (ke h rfl)) rfl λf h=>e9 ac 1 h rfl λf h=>aL3 (dK rfl h rfl (⟨_,rfl,b1,rfl,s⟩))))
theorem iD (m:Nat) (hm:m<=1000) (vo:Value) (xs:List Value) (wr:World) (hV:bs wr vo 68 m xs) (lp bx:Nat) (q:Nat->Bool) (GG:Nat->Own->Prop) (g0:Own) (w0 w:World) (s:St w0 [.blk bx (.cells #[vo] 24),g0] w) (hg0:GG 0 g0) (hY:∀ (d:Nat) (B9:List Own) (w9:World) (i:Nat) (g:Own),d<m->(∀ j,j<d->q j=false)->GG d g->St w0 B9 w9->B9[i]? = some g->l9 Tryz.prog lp [Value.pointer (some (bO vo (d*68)))].toArray w9 (λv w2=>v=.bool (!q d)/\∃ g',GG (d+1) g'/\St w0 (B9.set i g') w2)):Calls Tryz.prog 81 [.func (.yield lp) #[] #[],.pointer (some ⟨bx,0,none⟩)].toArray w (λe w9=>(∃ v,e=.returned v)/\∃ d g,GG d g/\St w0 ([.blk bx (.cells #[vo] 24)]++[g]) w9/\d<=m/\(∀ j,j+1<d->q j=false)/\(lq q d=false->d=m)):=by
 refine c7 Tryz.func81 rfl Tryz.ntmps81 rfl [(0,.func (.yield lp) #[] #[]),(1,.pointer (some ⟨bx,0,none⟩))] (by simp) λf h=>?_
 refine bU ac 1 h rfl λf h=>ag (V:=vo) (ae (aJ.of_own s 0 rfl) 0 rfl) h fE rfl rfl λf h=>ck h (hV) aR5 rfl rfl λf h=>e9 ac 1 h rfl λf h=>aL4 (aL6 (λnn aa ww=>∃ d:Nat,∃ gg:Own,Sl 18 aa [(0,.func (.yield lp) #[] #[]),(1,.pointer (some ⟨bx,0,none⟩)),(6,.int .i64 (m:Int)),(7,.int .i64 (d:Int))]/\St w0 [.blk bx (.cells (#[vo]) 24),(gg)] ww/\nn=m - d/\d<=m/\GG d gg/\∀ j,j<d->q j=false) (m - (0)) ⟨0,g0,h.only ⟨rfl,rfl,rfl,ao rfl (by omega),trivial⟩,s.as ⟨rfl,rfl,trivial⟩,rfl,aJ3 _,hg0,λj hj=>aO7 hj (aM6 _)⟩ ?_)
 rintro _ f w1 ⟨d,gg,h,s,hnn,hp0,hp1,hp2⟩
 refine bE ac 1 h rfl λf h=>ah (cB h rfl (λhc=>?_) (λhc=>?_))
 ·refine kt (ah (aL4 (qr ?_)))
  have hdl:d<m:=by omega
  refine e9 ac 2 h rfl λf h=>ah ?_
  cases hq:(q d:Bool)
  ·refine rs ac 2 h rfl λf h=>ag (V:=vo) (ae (aJ.of_own s 0 rfl) 0 rfl) h fE rfl rfl λf h=>am ac 1 h rfl λf h=>ai h (bj (hV) (d) aR5 ms (h.ev rfl) (h.ev rfl) (by omega) (by omega)) rfl λf h=>iR (V:=.bool true) (G:=GG (d+1)) [.pointer (some (bO vo (d*68)))] 1 h rfl rfl (by have h9:=hY d _ _ 1 gg hdl hp2 hp1 s rfl;rw [hq] at h9;exact h9) rfl ?_;intro f w1 g1 hg1 h s
   refine e9 ac 1 h rfl λf h=>kQ h rfl (wpIn_skip (aW (aD (aw (ai h (bo (h.ev rfl) (h.ev rfl) (by omega)) rfl λf h=>e9 ac 1 h rfl λf h=>?_)))))
   exact ⟨_,by omega,⟨d+1,g1,h.only ⟨rfl,rfl,rfl,ao rfl (by omega),trivial⟩,St.as s ⟨rfl,rfl,trivial⟩,rfl,by omega,hg1,fF hp2 hq⟩⟩
  ·refine rs ac 2 h rfl λf h=>ag (V:=vo) (ae (aJ.of_own s 0 rfl) 0 rfl) h fE rfl rfl λf h=>am ac 1 h rfl λf h=>ai h (bj (hV) (d) aR5 ms (h.ev rfl) (h.ev rfl) (by omega) (by omega)) rfl λf h=>iR (V:=.bool false) (G:=GG (d+1)) [.pointer (some (bO vo (d*68)))] 1 h rfl rfl (by have h9:=hY d _ _ 1 gg hdl hp2 hp1 s rfl;rw [hq] at h9;exact h9) rfl ?_;intro f w1 g1 hg1 h s
   refine e9 ac 1 h rfl λf h=>dG h rfl (aL3 (bA (aS (aS (bA ?_)))))
   exact sG rfl h (⟨⟨_,rfl⟩,d+1,g1,hg1,s,by omega,λj hj=>hp2 j (by omega),λh9=>aO7 (hq.symm.trans h9) (by decide)⟩)
 ·refine aL5 (aO (aO (bS ?_)))
  exact cX rfl h (⟨⟨_,rfl⟩,d,gg,hp1,s,hp0,λj hj=>hp2 j (by omega),λ_=>by omega⟩)
theorem hQ (L:List N3) (vo:Value) (w:World) (hO:kr w vo L) (hL:L.length<=40):Calls Tryz.prog 18 [.agg #[vo]].toArray w (cb w (λv w'=>cF w' w.heap.size 60 33 v (aN L).length (aq (aN L)))):=by
 refine go Tryz.func18 rfl Tryz.ntmps18 rfl [(0,.agg #[vo])] (by simp) λf h=>?_
 have s:=St.start w
 refine qr (aV (#[vo]) h s rfl rfl rfl λf w1 b1 h s=>e9 ac 1 h rfl λf h=>qr (aK (#[.slice none 0 0]) h s XJ rfl rfl λf w1 b3 h s=>nt (ah (qr (ak 1 h s bN rfl rfl (rfl) rfl λf h=>?_)))))
 replace s:=s.nilSl 60 33
 refine cM [.agg #[vo]] h ub (jH vo _ _ _ s) rfl rfl ?_;rintro f w1 r ⟨bn,rfl,s⟩ h
 refine nt (aL4 (gr (λd A9=>∃ v8:Value,A9=[.sl v8 60 33 (aN (L.take d)).length (aq (aN (L.take d))),.blk b3 (.cells #[v8] 61),.blk b1 (.cells #[vo] 24)]) [.sl (Value.slice none 0 0) 60 33 (aN (L.take 0)).length (aq (aN (L.take 0))),.blk b3 (.cells #[(Value.slice none 0 0)] 61),.blk b1 (.cells #[vo] 24)] [.blk bn (.cells #[vo] 24)] (L.length) (λ_=>false) (λd=>[Value.pointer (some (bO vo (d*68)))]) h s rfl uA (List.Perm.refl _) (⟨_,rfl⟩) (λ_=>rfl) ?_ ?_ ?_ ?_))
 ·intro lp w2 GG g0 hg0 s2 hY;exact iD L.length (by omega) vo _ _ hO.1 lp bn (λ_=>false) GG g0 w w2 s2 hg0 hY
 ·intro lp D9 d9 rc R9 A9 w2 hd9 hq9 hJ9 s
  obtain ⟨v8,rfl⟩:=hJ9
  have h:=Sl.round1 (p:=7) (V:=.pointer (some (bO vo (d9*68)))) h rfl
  have hdl9:=hd9
  refine re ac 1 h rfl λf h=>⟨_,s,λw3 s=>?_⟩
  refine aL4 ?_
  replace s:=s.bring 2 rfl
  refine fC 1 7 [[],[],[1],[1,2],[1,2,3],[1,2,3,4],[0,1,2,3,4,5],[0,1,2,3,4,5,6]] [[],[],[],[],[],[],[5,8],[]] [[_]] [.v v8,.v _,.v _,.v (.pointer (some (bO vo (d9*68+0)))),.v (.agg (ar (L.getD d9 z3).1.me)),.m (λv=>[.sl (v 5) 60 33 1 (ar (L.getD d9 z3).1.me).toList]),.m (λv=>[.sl (v 6) 60 33 (aN (L.take (d9+1))).length (aq (aN (L.take (d9+1))))]),.n] _ h s rfl (by kernel_rfl) (by kernel_rfl) (by kernel_rfl) (cm ?_ (gL ac h rfl rfl rfl (gL ac h rfl rfl rfl (cm ?_ (cm ?_ (cm ?_ (cm ?_ (trivial)))))))) [0,1,2,3,4,6] (by kernel_rfl) ?_
  ·intro f9 w2 vl4 E9 hs9 hd9 hl hF s
   have h:=cq [(3,_)] h hs9 hd9 ⟨fu hl 3 (by kernel_rfl) (h.holds 3 _ rfl),trivial⟩
   refine cz 2 h s dS rfl rfl (rfl) rfl λf h=>az ⟨_,br 8 h rfl rfl,rfl,s⟩
  ·intro f9 w2 vl4 E9 hs9 hd9 hl hF s
   have h:=cq [(10,_)] h hs9 hd9 ⟨a7 hl 10 2 (by kernel_rfl) (hF 2 (by decide)),trivial⟩
   refine ai h (bq f5 (h.ev rfl) ((hO.1.keep s.ext).some (by omega))) rfl λf h=>az ⟨_,br 11 h rfl rfl,rfl,s⟩
  ·intro f9 w2 vl4 E9 hs9 hd9 hl hF s
   have h:=cq [(11,_)] h hs9 hd9 ⟨a7 hl 11 3 (by kernel_rfl) (hF 3 (by decide)),trivial⟩
   refine ap (bs.elF (hO.1.keep s.ext) (d9) 0 33 (by omega) (by decide) (C:=bu (L.getD d9 z3).1.me (L.getD d9 z3).1.pr (L.getD d9 z3).2.1 (L.getD d9 z3).2.2) (g5 L d9 hdl9) (D:=ar (L.getD d9 z3).1.me) (dE _ _ _ _)) h aQ rfl (aj _) rfl λf h=>az ⟨_,br 12 h rfl rfl,rfl,s⟩
  ·intro f9 w2 vl4 E9 hs9 hd9 hl hF s
   have h:=cq [(12,_)] h hs9 hd9 ⟨a7 hl 12 4 (by kernel_rfl) (hF 4 (by decide)),trivial⟩
   refine cf (vs:=[.agg (ar (L.getD d9 z3).1.me)]) [.tmp 12] h s aS2 je rfl rfl (rx _) rfl rfl rfl λf w1 v13 h s=>?_
   replace s:=s.resl (m:=1) (ys:=(ar (L.getD d9 z3).1.me).toList) 0 rfl rfl (j3 _)
   exact az ⟨_,br 13 h rfl rfl,trivial,s⟩
  ·intro f9 w2 vl4 E9 hs9 hd9 hl hF s
   have h:=cq [(8,_),(13,_)] h hs9 hd9 ⟨a7 hl 8 0 (by kernel_rfl) (hF 0 (by decide)),ff hl 13 5 (by kernel_rfl) (by kernel_rfl),trivial⟩
   refine dD 1 0 h s aS2 je rfl rfl rfl rfl (by decide) (bD _) (by rw [aL1,aL0];unfold maxLen;omega) (by rw [aL1,aL0];omega) rfl λf w1 v14 h s=>?_
   replace s:=s.pick _ (aJ2 _ _)
   replace s:=s.resl (m:=(aN (L.take (d9+1))).length) (ys:=aq (aN (L.take (d9+1)))) 0 rfl (by rw [Bk hdl9,aH7];rfl) (by rw [Bk hdl9,zk])
   exact az ⟨_,br 14 h rfl rfl,trivial,s⟩
  intro f w1 vl4 hs9 hd9 hv hr hF s
  replace hv:=λi d h9=>hv i d (show Nat.blt i 7=true from h9)
  replace h:=ew 7 (ops:=_) [(8,_),(9,_),(10,_),(11,_),(12,_),(13,(vl4 5)),(14,(vl4 6))] h hs9 hd9 hr ⟨(hv 0 8 rfl rfl).trans (hF 0 rfl),(hv 1 9 rfl rfl).trans (hF 1 rfl),(hv 2 10 rfl rfl).trans (hF 2 rfl),(hv 3 11 rfl rfl).trans (hF 3 rfl),(hv 4 12 rfl rfl).trans (hF 4 rfl),hv 5 13 rfl rfl,hv 6 14 rfl rfl,trivial⟩ (by kernel_rfl)
  replace s:St w (.sl (vl4 6) 60 33 (aN (L.take (d9+1))).length (aq (aN (L.take (d9+1))))::.blk lp (.loop (rc .busy))::.blk D9 (.deferred (some []))::.blk b3 (.cells (#[v8]) 61)::.blk b1 (.cells (#[vo]) 24)::R9) _:=s
  refine aM 3 h s dS rfl rfl rfl (by simp) (bk (s.getSl 0 rfl)) λw1 s=>az (aW ?_)
  replace s:=s.bring 2 rfl
  replace s:=s.bring 2 rfl
  refine ⟨rfl,_,⟨(vl4 6),rfl⟩,s.pick _ ?_⟩
  exact aG7 _ (List.Sublist.refl _)
 ·intro D9 A9 w2 hJ9 hq9 s
  obtain ⟨v8,rfl⟩:=hJ9
  replace h:Sl _ {f with defers:={target:=.collected D9,args:=#[]}::f.defers} _ [{target:=.collected D9,args:=#[]}]:=⟨h.size,by rw [h.defers],h.holds⟩
  rw [List.take_length] at s
  refine aW (aD (qr (cz 3 h s dS rfl rfl (rfl) rfl λf h=>e9 ac 1 h rfl λf h=>aL3 ?_)))
  exact sZ 0 rfl h s rfl rfl (λw9 s9=>s9.getSl 2 rfl)
 ·intro D9 d9 A9 w2 hd9 hqd9 hq9 hJ9 s
  cases hqd9
theorem Eh (l:List Mb) (vh:Value) (g9:Nat) (caps:List Value) (p:Mb->Bool) (w:World) (hR:bs w vh 33 l.length (aq l)) (hln:l.length<=1000) (hg:Fnc Tryz.prog g9) (hp:∀ w9,Ext w w9->∀ x∈l,Calls Tryz.prog g9 (.agg (ar x)::caps).toArray w9 (cb w9 (is (.bool (p x))))):Calls Tryz.prog 139 [vh,.func (.func g9) #[] caps.toArray].toArray w (cb w (λv _=>∃ r:Int,v=.int .i64 r/\((r = -1/\∀ x∈l,p x=false)∨∃ k:Nat,∃ hk:k<l.length,r=(k:Int)/\p l[k]=true))):=by
 refine bK Tryz.func139 rfl Tryz.ntmps139 rfl λf h s=>bE ac 1 h rfl λf h=>ah (bU ac 1 h rfl λf h=>ck h (hR.keep s.ext) aS2 rfl rfl λf h=>e9 ac 1 h rfl λf h=>aL4 (aL6 (λnn aa ww=>∃ k:Nat,Sl 19 aa [(0,vh),(1,.func (.func g9) #[] caps.toArray),(6,vh),(7,.int .i64 (l.length:Int)),(8,.int .i64 (k:Int))]/\St w [] ww/\nn=l.length - k/\k<=l.length/\∀ i (hi:i<l.length),i<k->p l[i]=false) (l.length - (0)) ⟨0,h.only ⟨rfl,rfl,rfl,rfl,ao rfl (by omega),trivial⟩,s.as trivial,rfl,aJ3 _,λi hi h9=>aO7 h9 (aM6 _)⟩ ?_))
 rintro _ f w1 ⟨k,h,s,hnn,hp0,hp1⟩
 refine bE ac 1 h rfl λf h=>ah (cB h rfl (λhc=>?_) (λhc=>?_))
 ·refine kt (ah (aL4 (bE ac 2 h rfl λf h=>qr ?_)))
  have hkl:k<l.length:=by omega
  refine am ac 3 h rfl λf h=>ai h (bj (hR.keep s.ext) (k) aS2 dX (h.ev rfl) (h.ev rfl) (by omega) (by omega)) rfl λf h=>ap ((hR.keep s.ext).el (k) (by omega) (by decide) (D:=ar l[k]) (Kl l k hkl)) h aQ rfl (aj _) rfl λf h=>cJ [.agg (ar l[k])] (caps:=caps) h s hg rfl (hp _ s.ext _ (aN1 hkl)) rfl rfl ?_;intro f w1 v9 hT hE h s;obtain rfl:=hT
  refine nt (bV h rfl (λhc=>?_) (λhc=>?_))
  ·refine bE ac 2 h rfl λf h=>aL3 (bA (aS (aS (bA (aS (av rfl h s rfl (⟨_,rfl,.inr ⟨k,hkl,rfl,hc⟩⟩)))))))
  ·refine wpIn_skip (aW (aD (aw (ai h (bo (h.ev rfl) (h.ev rfl) (by omega)) rfl λf h=>e9 ac 1 h rfl λf h=>?_))))
   exact ⟨_,by omega,⟨k+1,h.only ⟨rfl,rfl,rfl,rfl,ao rfl (by omega),trivial⟩,St.as s trivial,rfl,by omega,tU (λy=>p y=false) hp1 hkl hc⟩⟩
 ·refine aL5 (aO (aO (bS (aD (bE ac 1 h rfl λf h=>aL3 (av rfl h s rfl (⟨_,rfl,.inl ⟨rfl,λx hx=>(by obtain ⟨i,hi,e⟩:=aN2 hx;rw [← e];exact hp1 i hi (by omega))⟩⟩)))))))
theorem nK (l:List Mb) (vh:Value) (g9:Nat) (caps:List Value) (p:Mb->Bool) (w:World) (hR:bs w vh 33 l.length (aq l)) (hln:l.length<=1000) (hg:Fnc Tryz.prog g9) (hp:∀ w9,Ext w w9->∀ x∈l,Calls Tryz.prog g9 (.agg (ar x)::caps).toArray w9 (cb w9 (is (.bool (p x))))):Calls Tryz.prog 85 [vh,.func (.func g9) #[] caps.toArray].toArray w (cb w (is (.bool (l.any p)))):=by
 refine bK Tryz.func85 rfl Tryz.ntmps85 rfl λf h s=>bE ac 1 h rfl λf h=>bU ac 2 h rfl λf h=>aY h s MX (Eh l vh g9 caps p _ (hR.keep s.ext) hln hg (λw9 h9=>hp w9 (s.ext.trans h9))) rfl rfl ?_;rintro f w1 v9 ⟨r9,rfl,hr⟩ hE h s
 refine gW ac (.bool (l.any p)) h rfl (aH3 Value.bool (PB hr)) rfl λf h=>e9 ac 1 h rfl λf h=>aL3 (av rfl h s rfl (rfl))
theorem BT (x:Int) (w:World):Calls Tryz.prog 203 [.int .i64 x].toArray w (cb w (is (.bool false))):=by
 refine bK Tryz.func203 rfl Tryz.ntmps203 rfl λf h s=>bE ac 1 h rfl λf h=>bU ac 2 h rfl λf h=>gW ac (.bool false) h rfl (by simp) rfl λf h=>e9 ac 1 h rfl λf h=>aL3 (av rfl h s rfl (rfl))
theorem mo (x y:Int) (w:World):Calls Tryz.prog 129 [.int .i64 x,.int .i64 y].toArray w (cb w (is (.int .i64 (cH x y)))):=by
 refine bK Tryz.func129 rfl Tryz.ntmps129 rfl λf h s=>bE ac 1 h rfl λf h=>bU ac 1 h rfl λf h=>dF h s MV (BT _ _) rfl rfl λf w1 h s=>e9 ac 1 h rfl λf h=>bU ac 1 h rfl λf h=>dF h s MV (BT _ _) rfl rfl λf w1 h s=>e9 ac 1 h rfl λf h=>ah (bE ac 1 h rfl λf h=>nH h rfl (ah (bE ac 1 h rfl λf h=>nH h rfl (ah (bE ac 3 h rfl λf h=>bV h rfl (λhc=>?_) (λhc=>?_))))))
 ·have hc:=aG9 hc
  refine bE ac 1 h rfl λf h=>rt (av rfl h s rfl (by show _=_;unfold cH;rw [if_pos hc]))
 ·have hc1:=aH0 hc
  refine kt (ah (bE ac 3 h rfl λf h=>cB h rfl (λhc=>?_) (λhc=>?_)))
  ·refine bE ac 1 h rfl λf h=>rt (av rfl h s rfl (by show _=_;unfold cH;rw [if_neg (by omega),if_pos (by omega)]))
  ·refine kt (bE ac 1 h rfl λf h=>aL3 (av rfl h s rfl (by show _=_;unfold cH;rw [if_neg (by omega),if_neg (by omega)])))
theorem tD (x y:Mb) (w:World):Calls Tryz.prog 78 [.agg (ar x),.agg (ar y)].toArray w (cb w (is (.int .i64 (cH x.1 y.1)))):=by
 refine bK Tryz.func78 rfl Tryz.ntmps78 rfl λf h s=>qr (aV ((ar x)) h s rfl rfl rfl λf w1 b2 h s=>aV ((ar y)) h s rfl rfl rfl λf w1 b3 h s=>e9 ac 1 h rfl λf h=>bU ac 1 h rfl λf h=>ag (ae (aJ.of_own s 1 rfl) 0 (cp _)) h bJ rfl rfl λf h=>am ac 1 h rfl λf h=>ag (ae (aJ.of_own s 0 rfl) 0 (cp _)) h bJ rfl rfl λf h=>dF h s uk (mo _ _ _) rfl rfl λf w1 h s=>e9 ac 1 h rfl λf h=>aL3 (av rfl h s rfl (rfl)))
theorem ya (l:List Mb) (vh:Value) (w:World) (hR:bs w vh 33 l.length (aq l)) (hln:l.length<=1000):Calls Tryz.prog 77 [vh,.func (.func 78) #[] #[]].toArray w (cb w (is (.bool (vK l)))):=by
 refine bK Tryz.func77 rfl Tryz.ntmps77 rfl λf h s=>bE ac 1 h rfl λf h=>ah (bU ac 1 h rfl λf h=>ck h (hR.keep s.ext) aS2 rfl rfl λf h=>ai h (gj (h.ev rfl) (h.ev rfl) (by omega)) rfl λf h=>e9 ac 1 h rfl λf h=>aL4 (aL6 (λnn aa ww=>∃ k:Nat,Sl 25 aa [(0,vh),(1,.func (.func 78) #[] #[]),(5,.int .i64 ((k:Int) - 1))]/\St w [] ww/\nn=k/\k<=l.length/\∀ j,k<=j->0<j->j<l.length->nZ l j=false) ((l.length)) ⟨l.length,h.only ⟨rfl,rfl,ao rfl (by omega),trivial⟩,s.as trivial,rfl,aJ1 _,λj h1 _ h2=>aO7 h2 (by omega)⟩ ?_))
 rintro _ f w1 ⟨k,h,s,hnn,hp0,hp1⟩
 refine ah (bE ac 2 h rfl λf h=>cB h rfl (λhc=>?_) (λhc=>?_))
 ·refine kt (ah (aL4 (ah ?_)))
  cases hq:(nZ l (k - 1):Bool)
  ·refine dJ 12 h (by kernel_rfl) ?_
   have h0:=hc
   have hk1:0<k - 1:=by omega
   refine ay ac 3 h rfl λf h=>aF h (bj (hR.keep s.ext) (k - 1) aS2 dX (h.ev rfl) (h.ev rfl) (by omega) (by omega)) rfl λf h=>bh ((hR.keep s.ext).el (k - 1) (by omega) (by decide) (D:=ar (l.getD (k - 1) bH)) (eM l (k - 1) (by omega))) h aQ rfl (aj _) rfl λf h=>ay ac 2 h rfl λf h=>aF h (gj (h.ev rfl) (h.ev rfl) (by omega)) rfl λf h=>aF h (bj (hR.keep s.ext) (k - 1 - 1) aS2 dX (h.ev rfl) (h.ev rfl) (by omega) (by omega)) rfl λf h=>bh ((hR.keep s.ext).el (k - 1 - 1) (by omega) (by decide) (D:=ar (l.getD (k - 1 - 1) bH)) (eM l (k - 1 - 1) (by omega))) h aQ rfl (aj _) rfl λf h=>jP [.agg (ar (l.getD (k - 1) bH)),.agg (ar (l.getD (k - 1 - 1) bH))] (caps:=[]) h Jt rfl (λw9 h9=>tD _ _ w9) rfl rfl ?_;intro f h
   refine vB ac h rfl ((aI3.2 (kL _ _)).trans hq) λf h=>bY s λw1 s=>wV h rfl (wpIn_skip (aW (aD (rs ac 1 h rfl λf h=>ai h (gj (h.ev rfl) (h.ev rfl) (by omega)) rfl λf h=>e9 ac 1 h rfl λf h=>?_))))
   exact ⟨_,by omega,⟨k - 1,h.only ⟨rfl,rfl,ao rfl (by omega),trivial⟩,St.as s trivial,rfl,by omega,NB hp1 (by omega) hq⟩⟩
  ·refine dJ 12 h (by kernel_rfl) ?_
   have h0:=hc
   have hk1:0<k - 1:=by omega
   refine ay ac 3 h rfl λf h=>aF h (bj (hR.keep s.ext) (k - 1) aS2 dX (h.ev rfl) (h.ev rfl) (by omega) (by omega)) rfl λf h=>bh ((hR.keep s.ext).el (k - 1) (by omega) (by decide) (D:=ar (l.getD (k - 1) bH)) (eM l (k - 1) (by omega))) h aQ rfl (aj _) rfl λf h=>ay ac 2 h rfl λf h=>aF h (gj (h.ev rfl) (h.ev rfl) (by omega)) rfl λf h=>aF h (bj (hR.keep s.ext) (k - 1 - 1) aS2 dX (h.ev rfl) (h.ev rfl) (by omega) (by omega)) rfl λf h=>bh ((hR.keep s.ext).el (k - 1 - 1) (by omega) (by decide) (D:=ar (l.getD (k - 1 - 1) bH)) (eM l (k - 1 - 1) (by omega))) h aQ rfl (aj _) rfl λf h=>jP [.agg (ar (l.getD (k - 1) bH)),.agg (ar (l.getD (k - 1 - 1) bH))] (caps:=[]) h Jt rfl (λw9 h9=>tD _ _ w9) rfl rfl ?_;intro f h
   refine nD ac h rfl ((aI3.2 (kL _ _)).trans hq) λf h=>bY s λw1 s=>iY h rfl (bE ac 1 h rfl λf h=>aL3 (bA (aS (aS (bA (aS (av rfl h s rfl (by show _=_;rw [BC (by omega) hk1 hq]))))))))
 ·refine aL5 (aO (aO (bS (aD (bE ac 1 h rfl λf h=>aL3 (av rfl h s rfl (by show _=_;rw [uD (λj h1 h2=>hp1 j (by omega) h1 h2)])))))))
theorem G2 (n:Nat) (hn:n<=1000) (w:World):Calls Tryz.prog 244 [.slice none 0 0,.int .i64 (n:Int)].toArray w (cb w (λv w'=>cF w' w.heap.size 60 33 v 0 [])):=by
 refine bK Tryz.func244 rfl Tryz.ntmps244 rfl λf h s=>bE ac 1 h rfl λf h=>ah (bU ac 1 h rfl λf h=>lj ac h rfl (aH1 (by omega)) λf h=>gS h rfl (ah (bU ac 2 h rfl λf h=>ai h (lz aS2 (h.ev rfl)) rfl λf h=>am ac 1 h rfl λf h=>ai h (k7 aS2 (h.ev rfl)) rfl λf h=>ai h (bz (.int .i64 0) (gj (h.ev rfl) (h.ev rfl) (by omega)) (rfl)) rfl λf h=>ai h (bz (.int .i64 (n:Int)) (gj (h.ev rfl) (h.ev rfl) (by omega)) (aH3 (Value.int .i64) (by omega))) rfl λf h=>e9 ac 1 h rfl λf h=>bE ac 2 h rfl λf h=>cB h rfl (λhc=>?_) (λhc=>?_))))
 ·refine rs ac 2 h rfl λf h=>ai h (lz aS2 (h.ev rfl)) rfl λf h=>ai h (pw aS2 dX (h.ev rfl) (h.ev rfl)) rfl λf h=>am ac 1 h rfl λf h=>md (n:=n) (base:=w.heap.size) h aS2 aR2 je rfl rfl (by omega) (by omega) (by omega) (aJ1 _) rfl λf w1 v22 xs9 h hE9 hO9=>?_
  replace s:=s.sl_new hE9 hO9
  refine am ac 1 h rfl λf h=>ai h (k7 aS2 (h.ev rfl)) rfl λf h=>ai h (nN hO9 aS2 dX (h.ev rfl) (h.ev rfl)) rfl λf h=>e9 ac 1 h rfl λf h=>bE ac 2 h rfl λf h=>aL3 (av rfl h s rfl (hO9.cut0))
 ·refine kt (bE ac 2 h rfl λf h=>aL3 (av rfl h s rfl (eh _ _ _ _)))
theorem AB (vh:Value) (us:List Value) (ls:List (List Mb)) (hls:us.length=ls.length) (htot:ls.flatten.length<=1000) (hvn:us.length<=1000) (w:World) (hv:bs w vh 1 us.length us) (hr:∀ k,k<us.length->bs w (us.getD k undef) 33 (ls.getD k []).length (aq (ls.getD k []))):Calls Tryz.prog 207 [vh].toArray w (cb w (λv w'=>cF w' w.heap.size 60 33 v ls.flatten.length (aq ls.flatten))):=by
 refine bK Tryz.func207 rfl Tryz.ntmps207 rfl λf h s=>bE ac 1 h rfl λf h=>bE ac 1 h rfl λf h=>ah (bU ac 1 h rfl λf h=>ck h (hv.keep s.ext) aU2 rfl rfl λf h=>e9 ac 1 h rfl λf h=>aL4 (aL6 (λnn aa ww=>∃ k:Nat,Sl 36 aa [(0,vh),(3,.int .i64 (((ls.take k).flatten.length:Nat):Int)),(9,vh),(10,.int .i64 (us.length:Int)),(11,.int .i64 (k:Int))]/\St w [] ww/\nn=us.length - k/\k<=us.length) (us.length - (0)) ⟨0,h.only ⟨rfl,ao rfl rfl,rfl,rfl,ao rfl (by omega),trivial⟩,s.as trivial,rfl,aJ3 _⟩ ?_))
 rintro _ f w1 ⟨k,h,s,hnn,hp0⟩
 refine bE ac 1 h rfl λf h=>ah (cB h rfl (λhc=>?_) (λhc=>?_))
 ·refine kt (ah (aL4 (qr ?_)))
  have hkl:k<us.length:=by omega
  refine ai h (bj (hv.keep s.ext) (k) aU2 S8 (h.ev rfl) (h.ev rfl) (by omega) (by omega)) rfl λf h=>ag ((hv.keep s.ext).el1 (k) (V:=us.getD k undef) (r6 hkl)) h dS rfl rfl λf h=>e9 ac 1 h rfl λf h=>bU ac 2 h rfl λf h=>ck h ((hr k hkl).keep s.ext) aS2 rfl rfl λf h=>?_
  have hk1:=ve ls k (by omega)
  have hk2:=Fx ls (k+1)
  refine ai h (bo (h.ev rfl) (h.ev rfl) (by omega)) rfl λf h=>e9 ac 1 h rfl λf h=>bU ac 1 h rfl λf h=>lj ac h rfl (aH1 (by omega)) λf h=>wV h rfl (wpIn_skip (aW (aD (aw (ai h (bo (h.ev rfl) (h.ev rfl) (by omega)) rfl λf h=>e9 ac 1 h rfl λf h=>?_)))))
  exact ⟨_,by omega,⟨k+1,h.only ⟨rfl,ao rfl (by omega),rfl,rfl,ao rfl (by omega),trivial⟩,St.as s trivial,rfl,by omega⟩⟩
 ·refine aL5 (aO (aO (bS (aD (qr ?_)))))
  obtain rfl:k=us.length:=by omega
  refine gW ac (.int .i64 ((ls.flatten.length:Nat):Int)) h rfl (by rw [hls,List.take_length]) rfl λf h=>aY h s W0 (G2 ls.flatten.length (by omega) _) rfl rfl ?_;intro f w1 v24 hT hE h sq;replace s:=s.sl_new hE hT
  refine e9 ac 1 h rfl λf h=>ah (bU ac 1 h rfl λf h=>ck h (hv.keep s.ext) aU2 rfl rfl λf h=>e9 ac 1 h rfl λf h=>aL4 (aL6 (λnn aa ww=>∃ i:Nat,∃ vb:Value,Sl 36 aa [(0,vh),(6,vb),(25,vh),(26,.int .i64 (us.length:Int)),(27,.int .i64 (i:Int))]/\St w [.sl vb 60 33 (ls.take i).flatten.length (aq (ls.take i).flatten)] ww/\nn=us.length - i/\i<=us.length) (us.length - (0)) ⟨0,v24,h.only ⟨rfl,rfl,rfl,rfl,ao rfl (by omega),trivial⟩,s.as ⟨eC rfl rfl,trivial⟩,rfl,aJ3 _⟩ ?_))
  rintro _ f w1 ⟨i,vb,h,s,hnn,hp0⟩
  refine bE ac 1 h rfl λf h=>ah (cB h rfl (λhc=>?_) (λhc=>?_))
  ·refine kt (ah (aL4 (qr ?_)))
   have hkl:i<us.length:=by omega
   have hk1:=ve ls i (by omega)
   have hk2:=Fx ls (i+1)
   refine ai h (bj (hv.keep s.ext) (i) aU2 S8 (h.ev rfl) (h.ev rfl) (by omega) (by omega)) rfl λf h=>ag ((hv.keep s.ext).el1 (i) (V:=us.getD i undef) (r6 hkl)) h dS rfl rfl λf h=>e9 ac 1 h rfl λf h=>rs ac 2 h rfl λf h=>jT 0 ((hr i hkl).keep s.ext) h s aS2 je rfl rfl rfl (pI _) (by unfold maxLen;omega) (by omega) rfl λf w1 v33 h s=>am ac 1 h rfl λf h=>az (aW (aD (aw (ai h (bo (h.ev rfl) (h.ev rfl) (by omega)) rfl λf h=>e9 ac 1 h rfl λf h=>?_))))
   exact ⟨_,by omega,⟨i+1,v33,h.only ⟨rfl,rfl,rfl,rfl,ao rfl (by omega),trivial⟩,St.as s ⟨eC (ve ls i (by omega)) (Dq ls i (by omega)),trivial⟩,rfl,by omega⟩⟩
  ·refine aL5 (aO (aO (bS (aD (bE ac 2 h rfl λf h=>aL3 (av rfl h s rfl (Cd (by omega) (s.getSl 0 rfl))))))))
theorem Db (a9:Option Addr) (n9 c9:Nat) (B9:List Own) (w0 w:World) (s:St w0 B9 w):Calls Tryz.prog 206 [.slice a9 n9 c9].toArray w (λe w9=>∃ r,e=.returned r/\∃ bv,r=.func (.func 243) #[] #[.pointer (some ⟨bv,0,none⟩)]/\St w0 (.blk bv (.cells #[.slice a9 n9 c9] 61)::B9) w9):=by
 refine c7 Tryz.func206 rfl Tryz.ntmps206 rfl [(0,.slice a9 n9 c9)] (by simp) λf h=>?_
 refine qr (aV (#[.slice a9 n9 c9]) h s rfl rfl rfl λf w1 b1 h s=>e9 ac 1 h rfl λf h=>qr (ai h (cO [.pointer (some ⟨b1,0,none⟩)] (ke h rfl)) rfl λf h=>e9 ac 1 h rfl λf h=>aL3 (dK rfl h rfl (⟨_,rfl,b1,rfl,s⟩))))
theorem qV (l:List Mb) (vh:Value) (B9:List Own) (w0 w:World) (s:St w0 B9 w) (hR:bs w vh 33 l.length (aq l)):Calls Tryz.prog 206 [vh].toArray w (λe w9=>∃ r,e=.returned r/\∃ bv,r=.func (.func 243) #[] #[.pointer (some ⟨bv,0,none⟩)]/\St w0 (.blk bv (.cells #[vh] 61)::B9) w9):=by
 obtain ⟨a,c,rfl⟩:=hR.len
 exact Db a _ c B9 w0 w s
theorem sJ (n:Nd) (vs vf:Value) (w:World) (hRs:bs w vs 33 n.sc.length (aq n.sc)) (hRf:bs w vf 33 n.fg.length (aq n.fg)) (hns:n.sc.length<=400) (hnf:n.fg.length<=400):Calls Tryz.prog 134 [.agg (bu n.me n.pr vs vf)].toArray w (cb w (λv w9=>∃ bv vk,v=.func (.func 243) #[] #[.pointer (some ⟨bv,0,none⟩)]/\St w [.blk bv (.cells #[vk] 61),.sl vk 60 33 (bp n).length (aq (bp n))] w9)):=by
 refine bK Tryz.func134 rfl Tryz.ntmps134 rfl λf h s=>qr (aV (bu n.me n.pr vs vf) h s rfl rfl rfl λf w1 b1 h s=>e9 ac 1 h rfl λf h=>bU ac 1 h rfl λf h=>ap (aJ.subL (aJ.of_own s 0 rfl) 33 33 (D:=ar n.pr) (di _ _ _ _)) h aQ rfl (aj _) rfl λf h=>cf (vs:=[.agg (ar n.pr)]) [.tmp 4] h s aS2 je rfl rfl (rx _) rfl rfl rfl λf w1 v5 h s=>?_)
 replace s:=s.resl (m:=[n.pr].length) (ys:=aq [n.pr]) 0 rfl rfl (by rw [j3,fO])
 refine am ac 1 h rfl λf h=>ag (V:=vs) (ae (aJ.of_own s 1 rfl) 66 (gn _ _ _ _)) h dS rfl rfl λf h=>am ac 1 h rfl λf h=>ag (V:=vf) (ae (aJ.of_own s 1 rfl) 67 (kv _ _ _ _)) h dS rfl rfl λf h=>cf (vs:=[v5,vs,vf]) [.tmp 5,.tmp 7,.tmp 9] h s aU2 af6 rfl rfl (by intro v hv;simp only [aI6,aI9,or_false] at hv;rcases hv with rfl|rfl|rfl;exact jN (bs.of_own (s.getSl 0 rfl));exact jN hRs;exact jN hRf) rfl rfl rfl λf w1 v10 h s=>?_
 replace s:=s.resl (m:=3) (ys:=[v5,vs,vf]) 0 rfl rfl (by simp [iS (bs.of_own (s.getSl 1 rfl)),iS hRs,iS hRf])
 refine aY h s WC (AB v10 [v5,vs,vf] [[n.pr],n.sc,n.fg] rfl (by rw [oU];simp only [aH7,aK5,aK6];omega) (by show 3<=1000;omega) _ (bs.of_own (s.getSl 0 rfl)) (Kr (bs.of_own (s.getSl 1 rfl)) (hRs.keep s.ext) (hRf.keep s.ext))) rfl rfl ?_;intro f w1 v11 hT hE h sq;replace s:=s.sl_new hE (hT.seq (m:=(bp n).length) (ys:=aq (bp n)) (by rw [oU];rfl) (by rw [oU];rfl))
 refine cM [v11] h L8 (qV (bp n) v11 _ _ _ s (bs.of_own (s.getSl 0 rfl))) rfl rfl ?_;rintro f w1 r ⟨bv,rfl,s⟩ h
 refine e9 ac 1 h rfl λf h=>aL3 (av rfl h s rfl (⟨bv,v11,rfl,(s.sel [0,1] rfl (by decide))⟩))
theorem uF (l:List Mb) (hln:l.length<=1000) (vh:Value) (lp bx:Nat) (q:Nat->Bool) (GG:Nat->Own->Prop) (g0:Own) (w0 w:World) (s:St w0 [.blk bx (.cells #[vh] 61),.sl vh 60 33 l.length (aq l),g0] w) (hg0:GG 0 g0) (hY:∀ (d:Nat) (B9:List Own) (w9:World) (i:Nat) (g:Own),d<l.length->(∀ j,j<d->q j=false)->GG d g->St w0 B9 w9->B9[i]? = some g->l9 Tryz.prog lp [Value.agg (ar (l.getD d bH))].toArray w9 (λv w2=>v=.bool (!q d)/\∃ g',GG (d+1) g'/\St w0 (B9.set i g') w2)):Calls Tryz.prog 243 [.func (.yield lp) #[] #[],.pointer (some ⟨bx,0,none⟩)].toArray w (λe w9=>(∃ v,e=.returned v)/\∃ d g,GG d g/\St w0 ([.blk bx (.cells #[vh] 61),.sl vh 60 33 l.length (aq l)]++[g]) w9/\d<=l.length/\(∀ j,j+1<d->q j=false)/\(lq q d=false->d=l.length)):=by
 refine c7 Tryz.func243 rfl Tryz.ntmps243 rfl [(0,.func (.yield lp) #[] #[]),(1,.pointer (some ⟨bx,0,none⟩))] (by simp) λf h=>?_
 refine qr (cz 0 h s dS rfl rfl (rfl) rfl λf h=>eK 1 h s aS2 rfl rfl rfl λf h=>e9 ac 1 h rfl λf h=>aL4 (aL6 (λnn aa ww=>∃ d:Nat,∃ gg:Own,Sl 16 aa [(0,.func (.yield lp) #[] #[]),(1,.pointer (some ⟨bx,0,none⟩)),(5,vh),(6,.int .i64 (l.length:Int)),(7,.int .i64 (d:Int))]/\St w0 [.blk bx (.cells (#[vh]) 61),.sl vh 60 33 l.length (aq l),(gg)] ww/\nn=l.length - d/\d<=l.length/\GG d gg/\∀ j,j<d->q j=false) (l.length - (0)) ⟨0,g0,h.only ⟨rfl,rfl,rfl,rfl,ao rfl (by omega),trivial⟩,s.as ⟨rfl,rfl,rfl,trivial⟩,rfl,aJ3 _,hg0,λj hj=>aO7 hj (aM6 _)⟩ ?_))
 rintro _ f w1 ⟨d,gg,h,s,hnn,hp0,hp1,hp2⟩
 refine bE ac 1 h rfl λf h=>ah (cB h rfl (λhc=>?_) (λhc=>?_))
 ·refine kt (ah (aL4 (qr ?_)))
  have hdl:d<l.length:=by omega
  refine ai h (bj (bs.of_own (s.getSl 1 rfl)) (d) aS2 dX (h.ev rfl) (h.ev rfl) (by omega) (by omega)) rfl λf h=>ap ((bs.of_own (s.getSl 1 rfl)).el (d) (by omega) (by decide) (D:=ar (l.getD d bH)) (eM l d hdl)) h aQ rfl (aj _) rfl λf h=>aK (ar bH) h s em rfl rfl λf w1 b4 h s=>al 0 h s aQ rfl rfl rfl (aj _) (aj _) (bD _) λw1 s=>nt (ah ?_)
  cases hq:(q d:Bool)
  ·refine rs ac 1 h rfl λf h=>ak 0 h s aQ rfl rfl (aj _) rfl λf h=>iR (V:=.bool true) (G:=GG (d+1)) [.agg (ar (l.getD d bH))] 3 h rfl rfl (by have h9:=hY d _ _ 3 gg hdl hp2 hp1 s rfl;rw [hq] at h9;exact h9) rfl ?_;intro f w1 g1 hg1 h s
   refine e9 ac 1 h rfl λf h=>kQ h rfl (wpIn_skip (aW (aD (aw (ai h (bo (h.ev rfl) (h.ev rfl) (by omega)) rfl λf h=>e9 ac 1 h rfl λf h=>?_)))))
   exact ⟨_,by omega,⟨d+1,g1,h.only ⟨rfl,rfl,rfl,rfl,ao rfl (by omega),trivial⟩,St.as (s.pick _ (aI8 [_] _)) ⟨rfl,rfl,rfl,trivial⟩,rfl,by omega,hg1,fF hp2 hq⟩⟩
  ·refine rs ac 1 h rfl λf h=>ak 0 h s aQ rfl rfl (aj _) rfl λf h=>iR (V:=.bool false) (G:=GG (d+1)) [.agg (ar (l.getD d bH))] 3 h rfl rfl (by have h9:=hY d _ _ 3 gg hdl hp2 hp1 s rfl;rw [hq] at h9;exact h9) rfl ?_;intro f w1 g1 hg1 h s
   refine e9 ac 1 h rfl λf h=>dG h rfl (aL3 (bA (aS (aS (bA ?_)))))
   exact sG rfl h (⟨⟨_,rfl⟩,d+1,g1,hg1,s.pick _ (aJ2 _ _),by omega,λj hj=>hp2 j (by omega),λh9=>aO7 (hq.symm.trans h9) (by decide)⟩)
 ·refine aL5 (aO (aO (bS ?_)))
  exact cX rfl h (⟨⟨_,rfl⟩,d,gg,hp1,s,hp0,λj hj=>hp2 j (by omega),λ_=>by omega⟩)
theorem iw (L:List N3) (vo:Value) (no:Int) (w:World) (hO:kr w vo L) (hL:L.length<=40):Calls Tryz.prog 135 [.agg #[vo],.int .i64 no].toArray w (cb w (is (CO vo L no))):=by
 refine go Tryz.func135 rfl Tryz.ntmps135 rfl [(0,.agg #[vo]),(1,.int .i64 no)] (by simp) λf h=>?_
 have s:=St.start w
 refine qr (aV (#[vo]) h s rfl rfl rfl λf w1 b2 h s=>aV (#[.int .i64 no]) h s rfl rfl rfl λf w1 b3 h s=>aK (#[.pointer none]) h s Ww rfl rfl λf w1 b4 h s=>nt (ah (qr (ak 2 h s bN rfl rfl (rfl) rfl λf h=>cM [.agg #[vo]] h ub (jH vo _ _ _ s) rfl rfl ?_))));rintro f w1 r ⟨bn,rfl,s⟩ h
 refine nt (aL4 (gr (λd A9=>A9=[.blk b4 (.cells #[Z2 vo (qL L no) d] 97),.blk b3 (.cells #[.int .i64 no] 3),.blk b2 (.cells #[vo] 24)]) [.blk b4 (.cells #[.pointer none] 97),.blk b3 (.cells #[.int .i64 no] 3),.blk b2 (.cells #[vo] 24)] [.blk bn (.cells #[vo] 24)] (L.length) (qL L no) (λd=>[Value.pointer (some (bO vo (d*68)))]) h s rfl uA (List.Perm.refl _) (rfl) (λ_=>rfl) ?_ ?_ ?_ ?_))
 ·intro lp w2 GG g0 hg0 s2 hY;exact iD L.length (by omega) vo _ _ hO.1 lp bn (qL L no) GG g0 w w2 s2 hg0 hY
 ·intro lp D9 d9 rc R9 A9 w2 hd9 hq9 hJ9 s
  obtain rfl:=hJ9
  have h:=Sl.round1 (p:=8) (V:=.pointer (some (bO vo (d9*68)))) h rfl
  have hdl9:=hd9
  refine re ac 1 h rfl λf h=>⟨_,s,λw3 s=>?_⟩
  refine aL4 (ah ?_)
  refine dJ 7 h (by kernel_rfl) (ay ac 2 h rfl λf h=>aF h (bq f5 (h.ev rfl) ((hO.1.keep s.ext).some (by omega))) rfl λf h=>aF h (bq jh (h.ev rfl) ((hO.1.keep s.ext).some (by omega))) rfl λf h=>aB (V:=.int .i64 (L.getD d9 z3).1.me.1) (er (hO.1.keep s.ext) (d9*68+0) (wg L d9 hdl9)) h bJ rfl rfl λf h=>eR 3 h s bJ rfl rfl (rfl) rfl λf h=>H9 ac (qL L no d9) h rfl (rfl) (λhq f h=>?_) (λhq f h=>?_))
  ·refine bY s λw1 s=>wV h rfl (wpIn_skip (aW ?_))
   replace s:=s.recell (D:=#[Z2 vo (qL L no) (d9+1)]) 2 rfl (by rw [Q3 hq9];show _=#[bif qL L no d9 then _ else _];rw [hq];rfl)
   refine ⟨by first|exact hq|rfl,_,rfl,s.pick _ ?_⟩
   exact aG7 _ (List.Sublist.refl _)
  ·refine bY s λw1 s=>iY h rfl (bU ac 1 h rfl λf h=>aM 2 h s lT rfl rfl rfl (by simp) (rfl) λw1 s=>nt (aL3 (bA ?_)))
   replace s:=s.recell (D:=#[Z2 vo (qL L no) (d9+1)]) 2 rfl (by show _=#[bif qL L no d9 then _ else _];rw [hq];rfl)
   refine ⟨by first|exact hq|rfl,_,rfl,s.pick _ ?_⟩
   exact aG7 _ (List.Sublist.refl _)
 ·intro D9 A9 w2 hJ9 hq9 s
  obtain rfl:=hJ9
  replace h:Sl _ {f with defers:={target:=.collected D9,args:=#[]}::f.defers} _ [{target:=.collected D9,args:=#[]}]:=⟨h.size,by rw [h.defers],h.holds⟩
  refine aW (aD (qr (aM 2 h s lT rfl rfl rfl (by simp) (rfl) λw1 s=>nt (aL3 ?_))))
  exact iK 2 0 rfl h s lT rfl rfl rfl rfl rfl (λw9=>(YA hq9).symm)
 ·intro D9 d9 A9 w2 hd9 hqd9 hq9 hJ9 s
  obtain rfl:=hJ9
  replace h:Sl _ {f with defers:={target:=.collected D9,args:=#[]}::f.defers} _ [{target:=.collected D9,args:=#[]}]:=⟨h.size,by rw [h.defers],h.holds⟩
  refine bA (aS ?_)
  exact iK 2 0 rfl h s lT rfl rfl rfl rfl rfl (λw9=>aj8 hd9 hq9 hqd9)
theorem wT (n:Nd) (vs vf:Value) (L:List N3) (vo:Value) (w:World) (hRs:bs w vs 33 n.sc.length (aq n.sc)) (hRf:bs w vf 33 n.fg.length (aq n.fg)) (hns:n.sc.length<=400) (hnf:n.fg.length<=400) (hO:kr w vo L) (hL:L.length<=40):Calls Tryz.prog 80 [.agg (bu n.me n.pr vs vf),.agg #[vo]].toArray w (cb w (is (.bool !((bp n).any (oG L))))):=by
 have hkl9:(bp n).length<=1000:=by simp only [bp,aH7,aK5];omega
 refine go Tryz.func80 rfl Tryz.ntmps80 rfl [(0,.agg (bu n.me n.pr vs vf)),(1,.agg #[vo])] (by simp) λf h=>?_
 have s:=St.start w
 refine qr (aV (bu n.me n.pr vs vf) h s rfl rfl rfl λf w1 b2 h s=>aV (#[vo]) h s rfl rfl rfl λf w1 b3 h s=>aK (#[.bool false]) h s ET rfl rfl λf w1 b4 h s=>nt (ah (qr (ak 2 h s dl rfl rfl (aP _ _ _ _) rfl λf h=>aY h s Lr (sJ n vs vf _ (hRs.keep s.ext) (hRf.keep s.ext) (by omega) (by omega)) rfl rfl ?_))));rintro f w1 r9 ⟨bv,vk,rfl,hS⟩ hE h sq;replace s:=s.add hS;clear hS
 refine nt (aL4 (gr (λd A9=>A9=[.blk b4 (.cells #[.bool false] 4),.blk b3 (.cells #[vo] 24),.blk b2 (.cells (bu n.me n.pr vs vf) 63)]) [.blk b4 (.cells #[.bool false] 4),.blk b3 (.cells #[vo] 24),.blk b2 (.cells (bu n.me n.pr vs vf) 63)] [.blk bv (.cells #[vk] 61),.sl vk 60 33 (bp n).length (aq (bp n))] ((bp n).length) (kbQ n L) (λd=>[Value.agg (ar ((bp n).getD d bH))]) h s rfl Eb (List.Perm.refl _) (rfl) (λ_=>rfl) ?_ ?_ ?_ ?_))
 ·intro lp w2 GG g0 hg0 s2 hY;exact uF (bp n) hkl9 vk lp bv (kbQ n L) GG g0 w w2 s2 hg0 hY
 ·intro lp D9 d9 rc R9 A9 w2 hd9 hq9 hJ9 s
  obtain rfl:=hJ9
  have h:=Sl.round1 (p:=9) (V:=.agg (ar ((bp n).getD d9 bH))) h rfl
  have hdl9:=hd9
  refine aw (aK (ar bH) h s em rfl rfl λf w1 b5 h s=>al 0 h s aQ rfl rfl rfl (aj _) (aj _) (bD _) λw1 s=>nt (⟨_,s.perm (aO2 (l₁:=[_])),λw3 s=>?_⟩))
  refine aL4 (ah ?_)
  cases p0:(decide (eQ L ((bp n).getD d9 bH).1<L.length):Bool)
  ·refine aw (ak 4 h s bN rfl rfl (rfl) rfl λf h=>am ac 1 h rfl λf h=>ag (ae (aJ.of_own s 1 rfl) 0 (cp _)) h bJ rfl rfl λf h=>dF h s oh (aR (.pointer none) (iw L vo ((bp n).getD d9 bH).1 _ (hO.keep s.ext) hL) (FI (aH0 p0))) rfl rfl λf w1 h s=>e9 ac 1 h rfl λf h=>ah (dJ 10 h (by kernel_rfl) (ay ac 1 h rfl λf h=>aF h (bz (.bool false) (gN aS6 (h.ev rfl) (h.ev rfl)) (rfl)) rfl λf h=>ay ac 8 h rfl λf h=>bY s λw1 s=>wV h rfl (wpIn_skip (aW (⟨(as1 p0),_,rfl,s.pick _ ?_⟩))))))
   exact aG7 _ (aG8 _ (List.Sublist.refl _))
  ·refine aw (ak 4 h s bN rfl rfl (rfl) rfl λf h=>am ac 1 h rfl λf h=>ag (ae (aJ.of_own s 1 rfl) 0 (cp _)) h bJ rfl rfl λf h=>dF h s oh (aR (.pointer (some (bO vo (eQ L ((bp n).getD d9 bH).1*68)))) (iw L vo ((bp n).getD d9 bH).1 _ (hO.keep s.ext) hL) (AI (aG9 p0))) rfl rfl λf w1 h s=>e9 ac 1 h rfl λf h=>ah ?_)
   cases p1:(decide ((L.getD (eQ L ((bp n).getD d9 bH).1) z3).1.me=((bp n).getD d9 bH)):Bool)
   ·refine dJ 10 h (by kernel_rfl) ?_
    have hp9:=aG9 p0
    refine ay ac 1 h rfl λf h=>aF h (bz (.bool true) (gN aS6 (h.ev rfl) (h.ev rfl)) (rfl)) rfl λf h=>ay ac 3 h rfl λf h=>bL h rfl (aF h (bq f5 (h.ev rfl) ((hO.1.keep s.ext).some (by omega))) rfl λf h=>bL h rfl (bh (bs.elF (hO.1.keep s.ext) (eQ L ((bp n).getD d9 bH).1) 0 33 (by omega) (by decide) (C:=bu (L.getD (eQ L ((bp n).getD d9 bH).1) z3).1.me (L.getD (eQ L ((bp n).getD d9 bH).1) z3).1.pr (L.getD (eQ L ((bp n).getD d9 bH).1) z3).2.1 (L.getD (eQ L ((bp n).getD d9 bH).1) z3).2.2) (g5 L _ hp9) (D:=ar (L.getD (eQ L ((bp n).getD d9 bH).1) z3).1.me) (dE _ _ _ _)) h aQ rfl (aj _) rfl λf h=>bL h rfl (aT 1 h s aQ rfl rfl (aj _) rfl λf h=>bL h rfl (aF h (bz (.bool true) (mM (x6 _ _) (by kernel_rfl) (by decide) (h.ev rfl) (h.ev rfl) (decide ((L.getD (eQ L ((bp n).getD d9 bH).1) z3).1.me=((bp n).getD d9 bH))) (lg _ _)) (by rw [p1];rfl)) rfl λf h=>ay ac 1 h rfl λf h=>bY s λw1 s=>iY h rfl (qr (aM 3 h s dq rfl rfl rfl (by simp) (rfl) λw1 s=>nt (aL3 (bA (⟨((Zl p0).trans (by rw [p1];rfl)),_,rfl,s.pick _ ?_⟩)))))))))
    exact aG7 _ (aG8 _ (List.Sublist.refl _))
   ·refine dJ 10 h (by kernel_rfl) ?_
    have hp9:=aG9 p0
    refine ay ac 1 h rfl λf h=>aF h (bz (.bool true) (gN aS6 (h.ev rfl) (h.ev rfl)) (rfl)) rfl λf h=>ay ac 3 h rfl λf h=>bL h rfl (aF h (bq f5 (h.ev rfl) ((hO.1.keep s.ext).some (by omega))) rfl λf h=>bL h rfl (bh (bs.elF (hO.1.keep s.ext) (eQ L ((bp n).getD d9 bH).1) 0 33 (by omega) (by decide) (C:=bu (L.getD (eQ L ((bp n).getD d9 bH).1) z3).1.me (L.getD (eQ L ((bp n).getD d9 bH).1) z3).1.pr (L.getD (eQ L ((bp n).getD d9 bH).1) z3).2.1 (L.getD (eQ L ((bp n).getD d9 bH).1) z3).2.2) (g5 L _ hp9) (D:=ar (L.getD (eQ L ((bp n).getD d9 bH).1) z3).1.me) (dE _ _ _ _)) h aQ rfl (aj _) rfl λf h=>bL h rfl (aT 1 h s aQ rfl rfl (aj _) rfl λf h=>bL h rfl (aF h (bz (.bool false) (mM (x6 _ _) (by kernel_rfl) (by decide) (h.ev rfl) (h.ev rfl) (decide ((L.getD (eQ L ((bp n).getD d9 bH).1) z3).1.me=((bp n).getD d9 bH))) (lg _ _)) (by rw [p1];rfl)) rfl λf h=>ay ac 1 h rfl λf h=>bY s λw1 s=>wV h rfl (wpIn_skip (aW (⟨((Zl p0).trans (by rw [p1];rfl)),_,rfl,s.pick _ ?_⟩)))))))
    exact aG7 _ (aG8 _ (List.Sublist.refl _))
 ·intro D9 A9 w2 hJ9 hq9 s
  obtain rfl:=hJ9
  replace h:Sl _ {f with defers:={target:=.collected D9,args:=#[]}::f.defers} _ [{target:=.collected D9,args:=#[]}]:=⟨h.size,by rw [h.defers],h.holds⟩
  refine aW (aD (qr (aM 3 h s dq rfl rfl rfl (by simp) (rfl) λw1 s=>nt (aL3 ?_))))
  exact iK 3 0 rfl h s dq rfl rfl rfl rfl rfl (λw9=>by show _=_;rw [Su hq9];rfl)
 ·intro D9 d9 A9 w2 hd9 hqd9 hq9 hJ9 s
  obtain rfl:=hJ9
  replace h:Sl _ {f with defers:={target:=.collected D9,args:=#[]}::f.defers} _ [{target:=.collected D9,args:=#[]}]:=⟨h.size,by rw [h.defers],h.holds⟩
  refine bA (aS ?_)
  exact iK 3 0 rfl h s dq rfl rfl rfl rfl rfl (λw9=>by show _=_;rw [QB hd9 hqd9];rfl)
theorem vY (x:Int) (w:World):Calls Tryz.prog 209 [.int .u8 x].toArray w (cb w (is (.bool false))):=by
 refine bK Tryz.func209 rfl Tryz.ntmps209 rfl λf h s=>bE ac 1 h rfl λf h=>bU ac 2 h rfl λf h=>gW ac (.bool false) h rfl (by simp) rfl λf h=>e9 ac 1 h rfl λf h=>aL3 (av rfl h s rfl (rfl))
theorem ME (x y:Int) (w:World):Calls Tryz.prog 141 [.int .u8 x,.int .u8 y].toArray w (cb w (is (.int .i64 (cH x y)))):=by
 refine bK Tryz.func141 rfl Tryz.ntmps141 rfl λf h s=>bE ac 1 h rfl λf h=>bU ac 1 h rfl λf h=>dF h s JH (vY _ _) rfl rfl λf w1 h s=>e9 ac 1 h rfl λf h=>bU ac 1 h rfl λf h=>dF h s JH (vY _ _) rfl rfl λf w1 h s=>e9 ac 1 h rfl λf h=>ah (bE ac 1 h rfl λf h=>nH h rfl (ah (bE ac 1 h rfl λf h=>nH h rfl (ah (bE ac 3 h rfl λf h=>bV h rfl (λhc=>?_) (λhc=>?_))))))
 ·have hc:=aG9 hc
  refine bE ac 1 h rfl λf h=>rt (av rfl h s rfl (by show _=_;unfold cH;rw [if_pos hc]))
 ·have hc1:=aH0 hc
  refine kt (ah (bE ac 3 h rfl λf h=>cB h rfl (λhc=>?_) (λhc=>?_)))
  ·refine bE ac 1 h rfl λf h=>rt (av rfl h s rfl (by show _=_;unfold cH;rw [if_neg (by omega),if_pos hc]))
  ·refine kt (bE ac 1 h rfl λf h=>aL3 (av rfl h s rfl (by show _=_;unfold cH;rw [if_neg (by omega),if_neg (by omega)])))
theorem GX (L:List N3) (hL:L.length<=1000) (a9:Option Addr) (n9 c9:Nat) (w:World) (hR:bs w (.slice a9 n9 c9) 68 L.length (aI L)) (ho:∀ x∈L,wQ w x):Calls Tryz.prog 62 [.slice a9 n9 c9].toArray w (cb w (λv w'=>cF w' w.heap.size 63 68 v L.length (aI L))):=by
 refine bK Tryz.func62 rfl Tryz.ntmps62 rfl λf h s=>bE ac 1 h rfl λf h=>ah (ah ?_)
 cases hn:(a9.isNone:Bool)
 ·refine rs ac 1 h rfl λf h=>ai h (bz (.bool false) (ct aR5 (h.ev rfl) (h.ev rfl)) (aH3 Value.bool hn)) rfl λf h=>gS h rfl (qr (fB (base:=w.heap.size) h aR5 xk (aJ1 _) rfl λf w2 v5 h hE3 e5=>am ac 1 h rfl λf h=>dZ (base:=w.heap.size) e5 (hR.keep hE3) h aR5 xk rfl rfl hE3.le (yt ho) (by unfold maxLen;omega) (by omega) rfl λf w3 v7 h hE4 e7=>?_))
  replace s:=s.sl_new (hE3.trans hE4) e7
  refine e9 ac 1 h rfl λf h=>aL3 (av rfl h s rfl (s.getSl 0 rfl))
 ·refine rs ac 1 h rfl λf h=>ai h (bz (.bool true) (ct aR5 (h.ev rfl) (h.ev rfl)) (aH3 Value.bool hn)) rfl λf h=>iY h rfl (bE ac 1 h rfl λf h=>rt (av rfl h s rfl (by obtain rfl:=Cs hn hR;exact eh _ _ _ _)))
theorem tk (L:List N3) (hL:L.length<=1000) (v9:Value) (w:World) (hR:bs w v9 68 L.length (aI L)) (ho:∀ x∈L,wQ w x):Calls Tryz.prog 62 [v9].toArray w (cb w (λv w'=>cF w' w.heap.size 63 68 v L.length (aI L))):=by
 obtain ⟨a,c,rfl⟩:=hR.len
 exact GX L hL a _ c w hR ho
theorem IA (l:List Mb) (hln:l.length<=1000) (a9:Option Addr) (n9 c9:Nat) (w:World) (hR:bs w (.slice a9 n9 c9) 33 l.length (aq l)):Calls Tryz.prog 63 [.slice a9 n9 c9].toArray w (cb w (λv w'=>cF w' w.heap.size 60 33 v l.length (aq l))):=by
 refine bK Tryz.func63 rfl Tryz.ntmps63 rfl λf h s=>bE ac 1 h rfl λf h=>ah (ah ?_)
 cases hn:(a9.isNone:Bool)
 ·refine rs ac 1 h rfl λf h=>ai h (bz (.bool false) (ct aS2 (h.ev rfl) (h.ev rfl)) (aH3 Value.bool hn)) rfl λf h=>gS h rfl (qr (fB (base:=w.heap.size) h aS2 je (aJ1 _) rfl λf w2 v5 h hE3 e5=>am ac 1 h rfl λf h=>dZ (base:=w.heap.size) e5 (hR.keep hE3) h aS2 je rfl rfl hE3.le (pI _) (by unfold maxLen;omega) (by omega) rfl λf w3 v7 h hE4 e7=>?_))
  replace s:=s.sl_new (hE3.trans hE4) e7
  refine e9 ac 1 h rfl λf h=>aL3 (av rfl h s rfl (s.getSl 0 rfl))
 ·refine rs ac 1 h rfl λf h=>ai h (bz (.bool true) (ct aS2 (h.ev rfl) (h.ev rfl)) (aH3 Value.bool hn)) rfl λf h=>iY h rfl (bE ac 1 h rfl λf h=>rt (av rfl h s rfl (by obtain rfl:=Dv hn hR;exact eh _ _ _ _)))
theorem ir (l:List Mb) (hln:l.length<=1000) (v9:Value) (w:World) (hR:bs w v9 33 l.length (aq l)):Calls Tryz.prog 63 [v9].toArray w (cb w (λv w'=>cF w' w.heap.size 60 33 v l.length (aq l))):=by
 obtain ⟨a,c,rfl⟩:=hR.len
 exact IA l hln a _ c w hR
set_option maxHeartbeats 1000000 in
theorem vL (L:List N3) (vo:Value) (m:Mb) (w:World) (hO:kr w vo L) (hL:L.length<=40) (hb:RwB L):Calls Tryz.prog 147 [.agg #[vo],.agg (ar m)].toArray w (cb w (is (.bool (zH L m)))):=by
 refine go Tryz.func147 rfl Tryz.ntmps147 rfl [(0,.agg #[vo]),(1,.agg (ar m))] (by simp) λf h=>?_
 have s:=St.start w
 refine qr (aV (#[vo]) h s rfl rfl rfl λf w1 b2 h s=>aV ((ar m)) h s rfl rfl rfl λf w1 b3 h s=>aK (#[.bool false]) h s ET rfl rfl λf w1 b4 h s=>nt (ah (qr (ak 2 h s bN rfl rfl (rfl) rfl λf h=>cM [.agg #[vo]] h ub (jH vo _ _ _ s) rfl rfl ?_))));rintro f w1 r ⟨bn,rfl,s⟩ h
 refine nt (aL4 (gr (λd A9=>A9=[.blk b4 (.cells #[.bool (lq (nA L m) d)] 4),.blk b3 (.cells (ar m) 60),.blk b2 (.cells #[vo] 24)]) [.blk b4 (.cells #[.bool false] 4),.blk b3 (.cells (ar m) 60),.blk b2 (.cells #[vo] 24)] [.blk bn (.cells #[vo] 24)] (L.length) (nA L m) (λd=>[Value.pointer (some (bO vo (d*68)))]) h s rfl uA (List.Perm.refl _) (rfl) (λ_=>rfl) ?_ ?_ ?_ ?_))
 ·intro lp w2 GG g0 hg0 s2 hY;exact iD L.length (by omega) vo _ _ hO.1 lp bn (nA L m) GG g0 w w2 s2 hg0 hY
 ·intro lp D9 d9 rc R9 A9 w2 hd9 hq9 hJ9 s
  obtain rfl:=hJ9
  have h:=Sl.round1 (p:=9) (V:=.pointer (some (bO vo (d9*68)))) h rfl
  have hdl9:=hd9
  replace s:=s.recell (D:=#[.bool false]) 2 rfl (by rw [CD hq9])
  have hx9:=hb.each _ (ci hdl9)
  have hkx:(bp (L.getD d9 z3).1).length<=1000:=by simp only [bp,aH7,aK5];omega
  refine re ac 1 h rfl λf h=>⟨_,s,λw3 s=>?_⟩
  refine aL4 (ah (ah ?_))
  refine dJ 18 h (by kernel_rfl) (ay ac 2 h rfl λf h=>aF h (bq f5 (h.ev rfl) ((hO.1.keep s.ext).some (by omega))) rfl λf h=>aF h (bq jh (h.ev rfl) ((hO.1.keep s.ext).some (by omega))) rfl λf h=>aB (V:=.int .i64 (L.getD d9 z3).1.me.1) (er (hO.1.keep s.ext) (d9*68+0) (wg L d9 hdl9)) h bJ rfl rfl λf h=>ay ac 1 h rfl λf h=>aB (ae (aJ.of_own s 3 rfl) 0 (cp _)) h bJ rfl rfl λf h=>MC ac h rfl (λe0 f h=>?_) (λe0 f h=>?_))
  ·skip
   cases e1:(decide ((L.getD d9 z3).1.me.2=m.2):Bool)
   ·refine ay ac 3 h rfl λf h=>bL h rfl (aF h (bq f5 (h.ev rfl) ((hO.1.keep s.ext).some (by omega))) rfl λf h=>bL h rfl (aF h (bq xO (h.ev rfl) ((hO.1.keep s.ext).some (by omega))) rfl λf h=>bL h rfl (bh (bs.elF (hO.1.keep s.ext) (d9) 1 32 (by omega) (by decide) (C:=bu (L.getD d9 z3).1.me (L.getD d9 z3).1.pr (L.getD d9 z3).2.1 (L.getD d9 z3).2.2) (g5 L d9 hdl9) (D:=aH (L.getD d9 z3).1.me.2) (BU _ _ _ _)) h bW rfl (by first|exact aA _|exact au _ _) rfl λf h=>ay ac 1 h rfl λf h=>bL h rfl (bh (aJ.subL (aJ.of_own s 3 rfl) 1 32 (D:=aH (_)) (fv _)) h bW rfl (by first|exact aA _|exact au _ _) rfl λf h=>bL h rfl (aF h (bz (.bool false) (dC gE (h.ev rfl) (h.ev rfl)) (aH3 Value.bool e1)) rfl λf h=>ay ac 1 h rfl λf h=>bY s λw1 s=>gS h rfl (bU ac 2 h rfl λf h=>ap ((hO.1.keep s.ext).el (d9) (by omega) (by decide) (D:=bu (L.getD d9 z3).1.me (L.getD d9 z3).1.pr (L.getD d9 z3).2.1 (L.getD d9 z3).2.2) (g5 L d9 hdl9)) h dl rfl (aP _ _ _ _) rfl λf h=>aY h s Lr (sJ (L.getD d9 z3).1 (L.getD d9 z3).2.1 (L.getD d9 z3).2.2 _ ((hO.2 _ (ci hdl9)).1.keep s.ext) ((hO.2 _ (ci hdl9)).2.keep s.ext) (by omega) (by omega)) rfl rfl ?_))))));rintro f w1 r9 ⟨bv,vk,rfl,hS⟩ hE h sq;replace s:=s.add hS;clear hS
    refine nt (aL4 (OD (λd A8=>A8=(.blk lp (.loop (rc .busy))::.blk D9 (.deferred (some []))::.blk b4 (.cells #[.bool (lq (λj=>pf m ((bp (L.getD d9 z3).1).getD j bH)) d)] 4)::.blk b3 (.cells (ar m) 60)::.blk b2 (.cells #[vo] 24)::R9)) (.blk lp (.loop (rc .busy))::.blk D9 (.deferred (some []))::.blk b4 (.cells #[.bool false] 4)::.blk b3 (.cells (ar m) 60)::.blk b2 (.cells #[vo] 24)::R9) [.blk bv (.cells #[vk] 61),.sl vk 60 33 (bp (L.getD d9 z3).1).length (aq (bp (L.getD d9 z3).1))] ((bp (L.getD d9 z3).1).length) (λj=>pf m ((bp (L.getD d9 z3).1).getD j bH)) (λd=>[Value.agg (ar ((bp (L.getD d9 z3).1).getD d bH))]) h s rfl Eb 2 rfl (List.Perm.refl _) (rfl) (λ_=>rfl) ?_ ?_ ?_ ?_))
    ·intro lp2 w2 GG g0 hg0 s2 hY;exact uF (bp (L.getD d9 z3).1) hkx vk lp2 bv (λj=>pf m ((bp (L.getD d9 z3).1).getD j bH)) GG g0 w w2 s2 hg0 hY
    ·intro lp2 d8 rc2 R8 A8 w2 hd8 hq8 hJ8 s
     obtain rfl:=hJ8
     have h:=Sl.round1 (p:=32) (V:=.agg (ar ((bp (L.getD d9 z3).1).getD d8 bH))) h rfl
     replace s:=s.recell (D:=#[.bool false]) 3 rfl (by rw [CD hq8])
     refine aw (aK (ar bH) h s em rfl rfl λf w1 b6 h s=>al 0 h s aQ rfl rfl rfl (aj _) (aj _) (bD _) λw1 s=>nt (⟨_,s.perm (aO2 (l₁:=[_])),λw3 s=>?_⟩))
     refine aL4 (ah ?_)
     refine rs ac 1 h rfl λf h=>ag (ae (aJ.of_own s 1 rfl) 0 (cp _)) h bJ rfl rfl λf h=>am ac 1 h rfl λf h=>ag (ae (aJ.of_own s 5 rfl) 0 (cp _)) h bJ rfl rfl λf h=>lL ac h rfl (λf0 f h=>?_) (λf0 f h=>?_)
     ·refine e9 ac 5 h rfl λf h=>kQ h rfl (wpIn_skip (aW ?_))
      replace s:=s.recell (D:=#[.bool (lq (λj=>pf m ((bp (L.getD d9 z3).1).getD j bH)) (d8+1))]) 4 rfl (by show _=#[Value.bool (pf m ((bp (L.getD d9 z3).1).getD d8 bH))];rw [show pf m ((bp (L.getD d9 z3).1).getD d8 bH)=false from by unfold pf;rw [f0];rfl])
      refine ⟨(by show pf m _=_;unfold pf;rw [f0];rfl),_,rfl,s.pick _ ?_⟩
      exact aG7 _ (aG8 _ (List.Sublist.refl _))
     ·skip
      cases f1:(decide (((bp (L.getD d9 z3).1).getD d8 bH)=m):Bool)
      ·refine am ac 1 h rfl λf h=>cy h rfl (ak 1 h s aQ rfl rfl (aj _) rfl λf h=>cy h rfl (ak 5 h s aQ rfl rfl (aj _) rfl λf h=>cy h rfl (ai h (bz (.bool true) (mM (x6 _ _) (by kernel_rfl) (by decide) (h.ev rfl) (h.ev rfl) (decide (((bp (L.getD d9 z3).1).getD d8 bH)=m)) (lg _ _)) (by rw [f1];rfl)) rfl λf h=>e9 ac 1 h rfl λf h=>dG h rfl (qr (aM 4 h s dq rfl rfl rfl (by simp) (rfl) λw1 s=>nt (aL3 (bA ?_)))))))
       replace s:=s.recell (D:=#[.bool (lq (λj=>pf m ((bp (L.getD d9 z3).1).getD j bH)) (d8+1))]) 4 rfl (by show _=#[Value.bool (pf m ((bp (L.getD d9 z3).1).getD d8 bH))];rw [show pf m ((bp (L.getD d9 z3).1).getD d8 bH)=true from by unfold pf;rw [f0,f1];rfl];rfl)
       refine ⟨(by show pf m _=_;unfold pf;rw [f0,f1];rfl),_,rfl,s.pick _ ?_⟩
       exact aG7 _ (aG8 _ (List.Sublist.refl _))
      ·refine am ac 1 h rfl λf h=>cy h rfl (ak 1 h s aQ rfl rfl (aj _) rfl λf h=>cy h rfl (ak 5 h s aQ rfl rfl (aj _) rfl λf h=>cy h rfl (ai h (bz (.bool false) (mM (x6 _ _) (by kernel_rfl) (by decide) (h.ev rfl) (h.ev rfl) (decide (((bp (L.getD d9 z3).1).getD d8 bH)=m)) (lg _ _)) (by rw [f1];rfl)) rfl λf h=>e9 ac 1 h rfl λf h=>kQ h rfl (wpIn_skip (aW ?_)))))
       replace s:=s.recell (D:=#[.bool (lq (λj=>pf m ((bp (L.getD d9 z3).1).getD j bH)) (d8+1))]) 4 rfl (by show _=#[Value.bool (pf m ((bp (L.getD d9 z3).1).getD d8 bH))];rw [show pf m ((bp (L.getD d9 z3).1).getD d8 bH)=false from by unfold pf;rw [f0,f1];rfl])
       refine ⟨(by show pf m _=_;unfold pf;rw [f0,f1];rfl),_,rfl,s.pick _ ?_⟩
       exact aG7 _ (aG8 _ (List.Sublist.refl _))
    ·intro A8 w2 hJ8 hq8 s
     obtain rfl:=hJ8
     refine aW (aW ?_)
     have hb9:=al2 (m:=m) e0 e1 (aJ1 _) hq8
     replace s:=s.recell (D:=#[.bool (lq (nA L m) (d9+1))]) 4 rfl (by rw [CD hq8];show #[Value.bool false]=#[Value.bool (nA L m d9)];rw [hb9])
     refine ⟨al2 e0 e1 (aJ1 _) hq8,_,rfl,s.pick _ ?_⟩
     exact aG8 _ (aG8 _ (aG7 _ (List.Sublist.refl _)))
    ·intro d8 A8 w2 hd8 hqd8 hq8 hJ8 s
     obtain rfl:=hJ8
     refine bA (bA ?_)
     have hb9:nA L m d9=true:=ag7 hd8 hqd8
     replace s:=s.recell (D:=#[.bool (lq (nA L m) (d9+1))]) 4 rfl (by show #[Value.bool (pf m ((bp (L.getD d9 z3).1).getD d8 bH))]=#[Value.bool (nA L m d9)];rw [hb9,show pf m ((bp (L.getD d9 z3).1).getD d8 bH)=true from hqd8])
     refine ⟨ag7 hd8 hqd8,_,rfl,s.pick _ ?_⟩
     exact aG8 _ (aG8 _ (aG7 _ (List.Sublist.refl _)))
   ·refine ay ac 3 h rfl λf h=>bL h rfl (aF h (bq f5 (h.ev rfl) ((hO.1.keep s.ext).some (by omega))) rfl λf h=>bL h rfl (aF h (bq xO (h.ev rfl) ((hO.1.keep s.ext).some (by omega))) rfl λf h=>bL h rfl (bh (bs.elF (hO.1.keep s.ext) (d9) 1 32 (by omega) (by decide) (C:=bu (L.getD d9 z3).1.me (L.getD d9 z3).1.pr (L.getD d9 z3).2.1 (L.getD d9 z3).2.2) (g5 L d9 hdl9) (D:=aH (L.getD d9 z3).1.me.2) (BU _ _ _ _)) h bW rfl (by first|exact aA _|exact au _ _) rfl λf h=>ay ac 1 h rfl λf h=>bL h rfl (bh (aJ.subL (aJ.of_own s 3 rfl) 1 32 (D:=aH (_)) (fv _)) h bW rfl (by first|exact aA _|exact au _ _) rfl λf h=>bL h rfl (aF h (bz (.bool true) (dC gE (h.ev rfl) (h.ev rfl)) (aH3 Value.bool e1)) rfl λf h=>ay ac 1 h rfl λf h=>bY s λw1 s=>iY h rfl (qr (aM 2 h s dq rfl rfl rfl (by simp) (rfl) λw1 s=>nt (rt (bA ?_)))))))))
    have hb9:nA L m d9=true:=ae6 e1
    replace s:=s.recell (D:=#[.bool (lq (nA L m) (d9+1))]) 2 rfl (by show #[Value.bool true]=#[Value.bool (nA L m d9)];rw [hb9])
    refine ⟨ae6 e1,_,rfl,s.pick _ ?_⟩
    exact aG7 _ (List.Sublist.refl _)
  ·refine ay ac 10 h rfl λf h=>bY s λw1 s=>iY h rfl (qr (aM 2 h s dq rfl rfl rfl (by simp) (rfl) λw1 s=>nt (rt (bA ?_))))
   have hb9:nA L m d9=true:=Xa e0
   replace s:=s.recell (D:=#[.bool (lq (nA L m) (d9+1))]) 2 rfl (by show #[Value.bool true]=#[Value.bool (nA L m d9)];rw [hb9])
   refine ⟨Xa e0,_,rfl,s.pick _ ?_⟩
   exact aG7 _ (List.Sublist.refl _)
 ·intro D9 A9 w2 hJ9 hq9 s
  obtain rfl:=hJ9
  replace h:Sl _ {f with defers:={target:=.collected D9,args:=#[]}::f.defers} _ [{target:=.collected D9,args:=#[]}]:=⟨h.size,by rw [h.defers],h.holds⟩
  refine aW (aD (qr (aM 2 h s dq rfl rfl rfl (by simp) (rfl) λw1 s=>nt (aL3 ?_))))
  exact iK 2 0 rfl h s dq rfl rfl rfl rfl rfl (λw9=>(aH3 Value.bool (ao9 (aJ1 _) hq9)).symm)
 ·intro D9 d9 A9 w2 hd9 hqd9 hq9 hJ9 s
  obtain rfl:=hJ9
  replace h:Sl _ {f with defers:={target:=.collected D9,args:=#[]}::f.defers} _ [{target:=.collected D9,args:=#[]}]:=⟨h.size,by rw [h.defers],h.holds⟩
  refine bA (aS ?_)
  exact iK 2 0 rfl h s dq rfl rfl rfl rfl rfl (λw9=>aH3 Value.bool (hqd9.trans (YB hd9 hqd9).symm))
set_option maxHeartbeats 1000000 in
theorem lR (L:List N3) (vo:Value) (w:World) (hO:kr w vo L) (hL:L.length<=40) (hb:RwB L):Calls Tryz.prog 148 [.agg #[vo]].toArray w (cb w (CpP w 63 (nds L))):=by
 refine go Tryz.func148 rfl Tryz.ntmps148 rfl [(0,.agg #[vo])] (by simp) λf h=>?_
 have s:=St.start w
 refine qr (aV (#[vo]) h s rfl rfl rfl λf w1 b1 h s=>aK (#[ax]) h s j5 rfl rfl λf w1 b2 h s=>nt (bU ac 1 h rfl λf h=>ag (V:=vo) (ae (aJ.of_own s 1 rfl) 0 rfl) h fE rfl rfl λf h=>aY h s Th (tk L (by omega) vo _ (hO.1.keep s.ext) (λx hx=>(hO.2 x hx).keep s.ext)) rfl rfl ?_));intro f w1 v6 hT hE h sq;replace s:=s.sl_new hE hT
 refine am ac 1 h rfl λf h=>aM 2 h s fE rfl rfl rfl (by show 0<1;decide) (bk (s.getSl 0 rfl)) λw1 s=>?_
 replace s:=s.recell (D:=#[v6]) 2 rfl rfl
 refine nt (ah (qr ?_))
 replace s:=s.grp0 (S:=iZ (L.take 0)) (λ_ x hx=>by simp at hx)
 refine ak 3 h s bN rfl rfl (rfl) rfl λf h=>cM [.agg #[v6]] h ub (jH v6 _ _ _ s) rfl rfl ?_;rintro f w1 r ⟨bn,rfl,s⟩ h
 refine nt (aL4 (gr (λd A9=>∃ (Kd:List N3) (kd:List Nat),(nds Kd=nds L/\∀ j,d<=j->Kd.getD j z3=L.getD j z3)/\A9=[.grp kd (iZ (Kd.take d)),.sl v6 63 68 Kd.length (aI Kd),.blk b2 (.cells (#[ax]) 24),.blk b1 (.cells #[v6] 24)]) [.grp [] (iZ (L.take 0)),.sl v6 63 68 L.length (aI L),.blk b2 (.cells (#[ax]) 24),.blk b1 (.cells #[v6] 24)] [.blk bn (.cells #[v6] 24)] (L.length) (λ_=>false) (λd=>[Value.pointer (some (bO v6 (d*68)))]) h s rfl uA (List.Perm.refl _) (⟨L,[],⟨rfl,λj _=>rfl⟩,rfl⟩) (λ_=>rfl) ?_ ?_ ?_ ?_))
 ·intro lp w2 GG g0 hg0 s2 hY;exact iD L.length (by omega) v6 _ _ (bs.of_own (s.getSl 2 rfl)) lp bn (λ_=>false) GG g0 w w2 s2 hg0 hY
 ·intro lp D9 d9 rc R9 A9 w2 hd9 hq9 hJ9 s
  obtain ⟨Kd,kd,⟨hkn,hkj⟩,rfl⟩:=hJ9
  have h:=Sl.round1 (p:=10) (V:=.pointer (some (bO v6 (d9*68)))) h rfl
  have hdl9:=hd9
  have hlk:Kd.length=L.length:=by have h9:=aH3 List.length hkn;simpa [nds] using h9
  have hdk:d9<Kd.length:=by omega
  have hxd:Kd.getD d9 z3=L.getD d9 z3:=hkj d9 (aJ1 _)
  have hx9:=hb.each _ (ci hdl9)
  refine re ac 1 h rfl λf h=>⟨_,s,λw3 s=>?_⟩
  refine aL4 (bU ac 3 h rfl λf h=>ai h (bq nz (h.ev rfl) ((bs.of_own (s.getSl 3 rfl)).some (by omega))) rfl λf h=>ag (V:=(Kd.getD d9 z3).2.1) (er (bs.of_own (s.getSl 3 rfl)) (d9*68+66) (NH Kd d9 hdk)) h dS rfl rfl λf h=>aY h s wW (ir (L.getD d9 z3).1.sc (by omega) (Kd.getD d9 z3).2.1 _ (by rw [hxd];exact(hO.2 _ (ci hdl9)).1.keep s.ext)) rfl rfl ?_);intro f w1 v16 hT hE h sq;replace s:=s.sl_new hE hT
  refine am ac 1 h rfl λf h=>ai h (bq nz (h.ev rfl) ((bs.of_own (s.getSl 4 rfl)).some (by omega))) rfl λf h=>eD 4 h s dS rfl rfl rfl (by omega) (bk (s.getSl 0 rfl)) (show (aI Kd).set (d9*68+66) v16=aI (Kd.set d9 ((⟨(Kd.getD d9 z3).1.me,(Kd.getD d9 z3).1.pr,(Kd.getD d9 z3).1.sc,(Kd.getD d9 z3).1.fg⟩,v16,(Kd.getD d9 z3).2.2):N3)) from tZ hdk _ _) λw1 s=>nt (rs ac 3 h rfl λf h=>ai h (bq pm (h.ev rfl) ((bs.of_own (s.getSl 4 rfl)).some (by omega))) rfl λf h=>ag (V:=(Kd.getD d9 z3).2.2) (er (bs.of_own (s.getSl 4 rfl)) (d9*68+67) ((Ol _ d9 (by rw [List.length_set];exact hdk)).trans (by rw [fD hdk]))) h dS rfl rfl λf h=>aY h s wW (ir (L.getD d9 z3).1.fg (by omega) (Kd.getD d9 z3).2.2 _ (by rw [hxd];exact(hO.2 _ (ci hdl9)).2.keep s.ext)) rfl rfl ?_);intro f w1 v24 hT hE h sq;replace s:=s.sl_new hE hT
  refine am ac 1 h rfl λf h=>ai h (bq pm (h.ev rfl) ((bs.of_own (s.getSl 5 rfl)).some (by omega))) rfl λf h=>eD 5 h s dS rfl rfl rfl (by omega) (bk (s.getSl 0 rfl)) (show (aI (Kd.set d9 ((⟨(Kd.getD d9 z3).1.me,(Kd.getD d9 z3).1.pr,(Kd.getD d9 z3).1.sc,(Kd.getD d9 z3).1.fg⟩,v16,(Kd.getD d9 z3).2.2):N3))).set (d9*68+67) v24=aI (Kd.set d9 ((⟨(Kd.getD d9 z3).1.me,(Kd.getD d9 z3).1.pr,(Kd.getD d9 z3).1.sc,(Kd.getD d9 z3).1.fg⟩,v16,v24):N3)) from (zW (by rw [List.length_set];exact hdk) _ (Kd.getD d9 z3).1.fg).trans (by rw [fD hdk,lS])) λw1 s=>?_
  replace s:=s.resl (m:=(Kd.set d9 ((⟨(Kd.getD d9 z3).1.me,(Kd.getD d9 z3).1.pr,(Kd.getD d9 z3).1.sc,(Kd.getD d9 z3).1.fg⟩,v16,v24):N3)).length) (ys:=aI (Kd.set d9 ((⟨(Kd.getD d9 z3).1.me,(Kd.getD d9 z3).1.pr,(Kd.getD d9 z3).1.sc,(Kd.getD d9 z3).1.fg⟩,v16,v24):N3))) 5 rfl (by rw [List.length_set]) rfl
  refine az (aW ?_)
  replace s:=s.bring 4 rfl
  replace s:=s.bring 1 rfl
  replace s:=s.bring 2 rfl
  obtain ⟨kn,s⟩:=s.grpR (S':=iZ ((Kd.set d9 ((⟨(Kd.getD d9 z3).1.me,(Kd.getD d9 z3).1.pr,(Kd.getD d9 z3).1.sc,(Kd.getD d9 z3).1.fg⟩,v16,v24):N3)).take (d9+1))) (λw9 h1 h2 h3=>FC hdk h3 ⟨by rw [← hxd] at h1;exact h1,by rw [← hxd] at h2;exact h2⟩)
  replace s:=s.bring 2 rfl
  replace s:=s.bring 2 rfl
  refine ⟨rfl,_,⟨(Kd.set d9 ((⟨(Kd.getD d9 z3).1.me,(Kd.getD d9 z3).1.pr,(Kd.getD d9 z3).1.sc,(Kd.getD d9 z3).1.fg⟩,v16,v24):N3)),kn,⟨FP hkn rfl hdk,λj hj=>(T1 (by omega) _).trans (hkj j (by omega))⟩,rfl⟩,s.pick _ ?_⟩
  exact aG7 _ (List.Sublist.refl _)
 ·intro D9 A9 w2 hJ9 hq9 s
  obtain ⟨Kd,kd,⟨hkn,hkj⟩,rfl⟩:=hJ9
  replace h:Sl _ {f with defers:={target:=.collected D9,args:=#[]}::f.defers} _ [{target:=.collected D9,args:=#[]}]:=⟨h.size,by rw [h.defers],h.holds⟩
  have hlk:Kd.length=L.length:=by have h9:=aH3 List.length hkn;simpa [nds] using h9
  rw [show Kd.take L.length=Kd from aJ9 (by omega)] at s
  refine aW (aD (qr (ak 5 h s bN rfl rfl (rfl) rfl λf h=>al 4 h s bN rfl rfl rfl (rfl) (rfl) (cN (bk (s.getSl 3 rfl))) λw1 s=>nt (aL3 ?_))))
  exact KM 4 0 rfl h s bN rfl rfl rfl rfl (rfl) (λw9 s9=>⟨v6,Kd,kd,rfl,hkn,s9.sel [3,2] rfl (by decide)⟩)
 ·intro D9 d9 A9 w2 hd9 hqd9 hq9 hJ9 s
  cases hqd9
theorem HW (x y:N3) (w:World):Calls Tryz.prog 150 [.agg (bu x.1.me x.1.pr x.2.1 x.2.2),.agg (bu y.1.me y.1.pr y.2.1 y.2.2)].toArray w (cb w (is (.int .i64 (cH x.1.me.1 y.1.me.1)))):=by
 refine bK Tryz.func150 rfl Tryz.ntmps150 rfl λf h s=>qr (aV (bu x.1.me x.1.pr x.2.1 x.2.2) h s rfl rfl rfl λf w1 b2 h s=>aV (bu y.1.me y.1.pr y.2.1 y.2.2) h s rfl rfl rfl λf w1 b3 h s=>e9 ac 1 h rfl λf h=>bU ac 1 h rfl λf h=>ap (aJ.subL (aJ.of_own s 1 rfl) 0 33 (D:=ar x.1.me) (dE _ _ _ _)) h aQ rfl (aj _) rfl λf h=>am ac 1 h rfl λf h=>ap (aJ.subL (aJ.of_own s 0 rfl) 0 33 (D:=ar y.1.me) (dE _ _ _ _)) h aQ rfl (aj _) rfl λf h=>dF h s Jt (tD _ _ _) rfl rfl λf w1 h s=>e9 ac 1 h rfl λf h=>aL3 (av rfl h s rfl (rfl)))
theorem Be (L:List N3) (hL:L.length<=1000) (ho:∀ x∈L,x.2.1.oneCell'=true/\x.2.2.oneCell'=true) (hd:L.Pairwise λa b=>a.1.me.1≠b.1.me.1) (v:Value) (B9:List Own) (w0 w:World) (s:St w0 (.sl v 63 68 L.length (aI L)::B9) w):
 Calls Tryz.prog 149 [v,.func (.func 150) #[] #[]].toArray w (λe w'=>∃ r,e=.returned r/\∃ K:List N3,K.Perm L/\(K.Pairwise λa b=>a.1.me.1<b.1.me.1)/\St w0 (.sl v 63 68 K.length (aI K)::B9) w'):=by
 by_cases h0:L.length=0
 ·have hl:L=[]:=List.eq_nil_of_length_eq_zero h0
  subst hl
  obtain ⟨a,c,rfl⟩:=d5 (s.getSl 0 rfl)
  refine(Go.Proofs.AnyF.slices_SortFunc_none (P:=Tryz.prog) (ρ:=Tryz.layN_ren) Tryz.layN a c (.func (.func 150) #[] #[]) w).mono ?_
  rintro e w' ⟨rfl,rfl⟩
  exact ⟨_,rfl,[],List.Perm.refl _,List.Pairwise.nil,s⟩
 ·obtain ⟨l,hl⟩:∃ l,l=WQ L ho:=⟨_,rfl⟩
  have hm:l.map (·.1)=L:=by rw [hl];exact Ag L ho
  have hln:l.length=L.length:=by rw [hl];exact OL L ho
  have hc:aI L=jj l:=by rw [uR,hm]
  rw [hc,← hln] at s
  obtain ⟨g,cap,rfl,hlt,hgo,hH,hst⟩:=OC s rfl (by omega)
  have hcon:=Go.Proofs.AnyQ.slices_SortFunc (P:=Tryz.prog) (ρ:=Tryz.layN_ren) Tryz.layN 68 Tryz.isAgg63 Tryz.sizeOf63 tI sp Kw (λx y:rW=>cH x.1.1.me.1 y.1.1.me.1) Ll 150 #[] g 0 cap l.toArray w (enters_of Tryz.func150 (by kernel_rfl) rfl) (λm os dk _ x y=>by
   have h9:=HW x.1 y.1 (Go.Proofs.sortWorldK tI 68 w g 0 m dk os)
   refine h9.mono ?_
   rintro e w' ⟨v,rfl,hv,hE⟩
   obtain rfl:=hv
   exact ⟨rfl,sA hE⟩) hH hlt (by rw [List.size_toArray];omega)
  refine hcon.mono ?_
  rintro e w' ⟨rfl,d',n,os,hp,hs,rfl⟩
  have hsz:d'.size=l.length:=by rw [hp.1,List.size_toArray]
  have s2:=hst n os d' hsz
  obtain ⟨h1,h2⟩:=HG (l:=l) (by rw [← hm] at hd;exact LF.1 hd) hp hs
  have hKl:(d'.toList.map (·.1)).length=l.length:=by rw [aL1,aI2,hsz]
  refine ⟨_,rfl,d'.toList.map (·.1),?_,LF.2 h2,?_⟩
  ·rw [← hm];exact h1.map _
  ·rw [uR] at s2;rw [hKl];exact s2
theorem HC (l:List Mb) (hln:l.length<=1000) (vh:Value) (lp bx:Nat) (q:Nat->Bool) (GG:Nat->Own->Prop) (g0:Own) (w0 w:World) (s:St w0 [g0] w) (hb:gq w0 bx #[vh]) (hg0:GG 0 g0) (hR:bs w0 vh 33 l.length (aq l)) (hY:∀ (d:Nat) (B9:List Own) (w9:World) (i:Nat) (g:Own),d<l.length->(∀ j,j<d->q j=false)->GG d g->St w0 B9 w9->B9[i]? = some g->l9 Tryz.prog lp [Value.agg (ar (l.getD d bH))].toArray w9 (λv w2=>v=.bool (!q d)/\∃ g',GG (d+1) g'/\St w0 (B9.set i g') w2)):Calls Tryz.prog 243 [.func (.yield lp) #[] #[],.pointer (some ⟨bx,0,none⟩)].toArray w (λe w9=>(∃ v,e=.returned v)/\∃ d g,GG d g/\St w0 ([]++[g]) w9/\d<=l.length/\(∀ j,j+1<d->q j=false)/\(lq q d=false->d=l.length)):=by
 refine c7 Tryz.func243 rfl Tryz.ntmps243 rfl [(0,.func (.yield lp) #[] #[]),(1,.pointer (some ⟨bx,0,none⟩))] (by simp) λf h=>?_
 refine qr (ag (V:=vh) (ae (aJ.of_tab (hb.keep s.ext)) 0 (rfl)) h dS rfl rfl λf h=>ck h (hR.keep s.ext) aS2 rfl rfl λf h=>e9 ac 1 h rfl λf h=>aL4 (aL6 (λnn aa ww=>∃ d:Nat,∃ gg:Own,Sl 16 aa [(0,.func (.yield lp) #[] #[]),(5,vh),(6,.int .i64 (l.length:Int)),(7,.int .i64 (d:Int))]/\St w0 [(gg)] ww/\nn=l.length - d/\d<=l.length/\GG d gg/\∀ j,j<d->q j=false) (l.length - (0)) ⟨0,g0,h.only ⟨rfl,rfl,rfl,ao rfl (by omega),trivial⟩,s.as ⟨rfl,trivial⟩,rfl,aJ3 _,hg0,λj hj=>aO7 hj (aM6 _)⟩ ?_))
 rintro _ f w1 ⟨d,gg,h,s,hnn,hp0,hp1,hp2⟩
 refine bE ac 1 h rfl λf h=>ah (cB h rfl (λhc=>?_) (λhc=>?_))
 ·refine kt (ah (aL4 (qr ?_)))
  have hdl:d<l.length:=by omega
  refine ai h (bj (hR.keep s.ext) (d) aS2 dX (h.ev rfl) (h.ev rfl) (by omega) (by omega)) rfl λf h=>ap ((hR.keep s.ext).el (d) (by omega) (by decide) (D:=ar (l.getD d bH)) (eM l d hdl)) h aQ rfl (aj _) rfl λf h=>aK (ar bH) h s em rfl rfl λf w1 b4 h s=>al 0 h s aQ rfl rfl rfl (aj _) (aj _) (bD _) λw1 s=>nt (ah ?_)
  cases hq:(q d:Bool)
  ·refine rs ac 1 h rfl λf h=>ak 0 h s aQ rfl rfl (aj _) rfl λf h=>iR (V:=.bool true) (G:=GG (d+1)) [.agg (ar (l.getD d bH))] 1 h rfl rfl (by have h9:=hY d _ _ 1 gg hdl hp2 hp1 s rfl;rw [hq] at h9;exact h9) rfl ?_;intro f w1 g1 hg1 h s
   refine e9 ac 1 h rfl λf h=>kQ h rfl (wpIn_skip (aW (aD (aw (ai h (bo (h.ev rfl) (h.ev rfl) (by omega)) rfl λf h=>e9 ac 1 h rfl λf h=>?_)))))
   exact ⟨_,by omega,⟨d+1,g1,h.only ⟨rfl,rfl,rfl,ao rfl (by omega),trivial⟩,St.as (s.pick _ (aI8 [_] _)) ⟨rfl,trivial⟩,rfl,by omega,hg1,fF hp2 hq⟩⟩
  ·refine rs ac 1 h rfl λf h=>ak 0 h s aQ rfl rfl (aj _) rfl λf h=>iR (V:=.bool false) (G:=GG (d+1)) [.agg (ar (l.getD d bH))] 1 h rfl rfl (by have h9:=hY d _ _ 1 gg hdl hp2 hp1 s rfl;rw [hq] at h9;exact h9) rfl ?_;intro f w1 g1 hg1 h s
   refine e9 ac 1 h rfl λf h=>dG h rfl (aL3 (bA (aS (aS (bA ?_)))))
   exact sG rfl h (⟨⟨_,rfl⟩,d+1,g1,hg1,s.pick _ (aJ2 _ _),by omega,λj hj=>hp2 j (by omega),λh9=>aO7 (hq.symm.trans h9) (by decide)⟩)
 ·refine aL5 (aO (aO (bS ?_)))
  exact cX rfl h (⟨⟨_,rfl⟩,d,gg,hp1,s,hp0,λj hj=>hp2 j (by omega),λ_=>by omega⟩)
theorem C0 (l:List Mb) (vh:Value) (bx:Nat) (w:World) (hR:bs w vh 33 l.length (aq l)) (hln:l.length<=1000) (hb:gq w bx #[vh]):Calls Tryz.prog 300 [(.slice none 0 0),.func (.func 243) #[] #[.pointer (some ⟨bx,0,none⟩)]].toArray w (cb w (λv w'=>cF w' w.heap.size 60 33 v l.length (aq l))):=by
 refine go Tryz.func300 rfl Tryz.ntmps300 rfl [(0,(.slice none 0 0)),(1,.func (.func 243) #[] #[.pointer (some ⟨bx,0,none⟩)])] (by simp) λf h=>?_
 have s:=St.start w
 refine qr (aV (#[(.slice none 0 0)]) h s rfl rfl rfl λf w1 b2 h s=>?_)
 replace s:=s.nilSl 60 33
 refine e9 ac 1 h rfl λf h=>ah (bE ac 1 h rfl λf h=>aL4 (gr (λd A9=>∃ v8:Value,A9=[.sl v8 60 33 (l.take d).length (aq (l.take d)),.blk b2 (.cells #[v8] 61)]) [.sl (.slice none 0 0) 60 33 0 [],.blk b2 (.cells #[(.slice none 0 0)] 61)] [] (l.length) (λ_=>false) (λd=>[Value.agg (ar (l.getD d bH))]) h s rfl Eb (List.Perm.refl _) (⟨_,rfl⟩) (λ_=>rfl) ?_ ?_ ?_ ?_))
 ·intro lp w2 GG g0 hg0 s2 hY;exact HC l hln vh lp bx (λ_=>false) GG g0 w w2 s2 hb hg0 hR hY
 ·intro lp D9 d9 rc R9 A9 w2 hd9 hq9 hJ9 s
  obtain ⟨v8,rfl⟩:=hJ9
  have h:=Sl.round1 (p:=7) (V:=.agg (ar (l.getD d9 bH))) h rfl
  refine aw (aK (ar bH) h s em rfl rfl λf w1 b5 h s=>al 0 h s aQ rfl rfl rfl (aj _) (aj _) (bD _) λw1 s=>nt (⟨_,s.perm (aO2 (l₁:=[_])),λw3 s=>?_⟩))
  refine aL4 (aw (cz 4 h s dS rfl rfl (rfl) rfl λf h=>ak 1 h s aQ rfl rfl (aj _) rfl λf h=>cf (vs:=[.agg (ar (l.getD d9 bH))]) [.tmp 9] h s aS2 je rfl rfl (rx _) rfl rfl rfl λf w1 v10 h s=>dD 4 0 h s aS2 je rfl rfl rfl rfl (by decide) (by rw [j3];exact bD _) (by rw [aL0];unfold maxLen;omega) (by rw [aL0];omega) rfl λf w1 v11 h s=>?_))
  replace s:=s.pick _ (aJ2 _ _)
  refine aM 4 h s dS rfl rfl rfl (by simp) (bk (s.getSl 3 rfl)) λw1 s=>az (aW ?_)
  replace s:=s.resl (m:=(l.take (d9+1)).length) (ys:=aq (l.take (d9+1))) 3 rfl (by rw [wy hd9,aH7];rfl) (by rw [wy hd9,j3,zk])
  refine ⟨rfl,_,⟨v11,rfl⟩,s.pick _ ?_⟩
  exact aG7 _ (aG8 _ (List.Sublist.refl _))
 ·intro D9 A9 w2 hJ9 hq9 s
  obtain ⟨v8,rfl⟩:=hJ9
  replace h:Sl _ {f with defers:={target:=.collected D9,args:=#[]}::f.defers} _ [{target:=.collected D9,args:=#[]}]:=⟨h.size,by rw [h.defers],h.holds⟩
  rw [List.take_length] at s
  refine aW (aD (qr (cz 2 h s dS rfl rfl (rfl) rfl λf h=>?_)))
  replace s:=s.nilSl 60 33
  refine e9 ac 1 h rfl λf h=>aL3 ?_
  exact sZ 1 rfl h s rfl rfl (λw9 s9=>s9.getSl 2 rfl)
 ·intro D9 d9 A9 w2 hd9 hqd9 hq9 hJ9 s
  cases hqd9
theorem zU (l:List Mb) (vh:Value) (bx:Nat) (w:World) (hR:bs w vh 33 l.length (aq l)) (hln:l.length<=1000) (hb:gq w bx #[vh]):Calls Tryz.prog 245 [.func (.func 243) #[] #[.pointer (some ⟨bx,0,none⟩)]].toArray w (cb w (λv w'=>cF w' w.heap.size 60 33 v l.length (aq l))):=by
 refine bK Tryz.func245 rfl Tryz.ntmps245 rfl λf h s=>bE ac 1 h rfl λf h=>bU ac 1 h rfl λf h=>aY h s V5 (C0 l vh bx _ (hR.keep s.ext) hln (hb.keep s.ext)) rfl rfl ?_;intro f w1 v4 hT hE h sq;replace s:=s.sl_new hE hT
 refine e9 ac 1 h rfl λf h=>aL3 (av rfl h s rfl ((s.getSl 0 rfl)))
theorem zZ (l:List N3) (vh:Value) (g9:Nat) (caps:List Value) (p:N3->Bool) (w:World) (hR:bs w vh 68 l.length (aI l)) (hln:l.length<=1000) (hg:Fnc Tryz.prog g9) (hp:∀ w9,Ext w w9->∀ x∈l,Calls Tryz.prog g9 (.agg (bu x.1.me x.1.pr x.2.1 x.2.2)::caps).toArray w9 (cb w9 (is (.bool (p x))))):Calls Tryz.prog 219 [vh,.func (.func g9) #[] caps.toArray].toArray w (cb w (λv _=>∃ r:Int,v=.int .i64 r/\((r = -1/\∀ x∈l,p x=false)∨∃ k:Nat,k<l.length/\r=(k:Int)/\p (l.getD k z3)=true/\∀ i,i<k->p (l.getD i z3)=false))):=by
 refine bK Tryz.func219 rfl Tryz.ntmps219 rfl λf h s=>bE ac 1 h rfl λf h=>ah (bU ac 1 h rfl λf h=>ck h (hR.keep s.ext) aR5 rfl rfl λf h=>e9 ac 1 h rfl λf h=>aL4 (aL6 (λnn aa ww=>∃ k:Nat,Sl 19 aa [(0,vh),(1,.func (.func g9) #[] caps.toArray),(6,vh),(7,.int .i64 (l.length:Int)),(8,.int .i64 (k:Int))]/\St w [] ww/\nn=l.length - k/\k<=l.length/\∀ i,i<k->p (l.getD i z3)=false) (l.length - (0)) ⟨0,h.only ⟨rfl,rfl,rfl,rfl,ao rfl (by omega),trivial⟩,s.as trivial,rfl,aJ3 _,λi hi=>aO7 hi (aM6 _)⟩ ?_))
 rintro _ f w1 ⟨k,h,s,hnn,hp0,hp1⟩
 refine bE ac 1 h rfl λf h=>ah (cB h rfl (λhc=>?_) (λhc=>?_))
 ·refine kt (ah (aL4 (bE ac 2 h rfl λf h=>qr ?_)))
  have hkl:k<l.length:=by omega
  refine am ac 3 h rfl λf h=>ai h (bj (hR.keep s.ext) (k) aR5 ms (h.ev rfl) (h.ev rfl) (by omega) (by omega)) rfl λf h=>ap ((hR.keep s.ext).el (k) (by omega) (by decide) (D:=bu (l.getD k z3).1.me (l.getD k z3).1.pr (l.getD k z3).2.1 (l.getD k z3).2.2) (g5 l k hkl)) h dl rfl (aP _ _ _ _) rfl λf h=>cJ [.agg (bu (l.getD k z3).1.me (l.getD k z3).1.pr (l.getD k z3).2.1 (l.getD k z3).2.2)] (caps:=caps) h s hg rfl (hp _ s.ext _ (ci hkl)) rfl rfl ?_;intro f w1 v9 hT hE h s;obtain rfl:=hT
  refine nt (bV h rfl (λhc=>?_) (λhc=>?_))
  ·refine bE ac 2 h rfl λf h=>aL3 (bA (aS (aS (bA (aS (av rfl h s rfl (⟨_,rfl,.inr ⟨k,hkl,rfl,hc,hp1⟩⟩)))))))
  ·refine wpIn_skip (aW (aD (aw (ai h (bo (h.ev rfl) (h.ev rfl) (by omega)) rfl λf h=>e9 ac 1 h rfl λf h=>?_))))
   exact ⟨_,by omega,⟨k+1,h.only ⟨rfl,rfl,rfl,rfl,ao rfl (by omega),trivial⟩,St.as s trivial,rfl,by omega,fF (q:=λj=>p (l.getD j z3)) hp1 hc⟩⟩
 ·refine aL5 (aO (aO (bS (aD (bE ac 1 h rfl λf h=>aL3 (av rfl h s rfl (⟨_,rfl,.inl ⟨rfl,λx hx=>(by obtain ⟨i,hi,rfl⟩:=B0 hx;exact hp1 i (by omega))⟩⟩)))))))
set_option maxHeartbeats 1000000 in
theorem yC (l:List N3) (hln:l.length<=1000) (vh:Value) (g9:Nat) (caps:List Value) (p:N3->Bool) (B9:List Own) (w0 w:World) (s:St w0 (.sl vh 63 68 (l).length (aI (l))::B9) w) (ho:∀ x∈l,x.2.1.oneCell'=true/\x.2.2.oneCell'=true) (hg:Fnc Tryz.prog g9) (hp:∀ (A9:List Own) (w9:World),St w0 (A9++B9) w9->∀ x∈l,Calls Tryz.prog g9 (.agg (bu x.1.me x.1.pr x.2.1 x.2.2)::caps).toArray w9 (cb w9 (is (.bool (p x))))):Calls Tryz.prog 160 [vh,.func (.func g9) #[] caps.toArray].toArray w (λe w9=>∃ v9,e=.returned v9/\St w0 (.sl v9 63 68 ((l.filter λx => !p x)).length (aI ((l.filter λx => !p x)))::B9) w9):=by
 refine c7 Tryz.func160 rfl Tryz.ntmps160 rfl [(0,vh),(1,.func (.func g9) #[] caps.toArray)] (by simp) λf h=>?_
 refine bE ac 1 h rfl λf h=>bU ac 2 h rfl λf h=>aY h s Xk (zZ l vh g9 caps p _ (bs.of_own (s.getSl 0 rfl)) hln hg (λw9 h9 x hx=>hp [_] w9 (s.more h9) x hx)) rfl rfl ?_;rintro f w1 v9 ⟨r9,rfl,hr⟩ hE h s
 refine e9 ac 1 h rfl λf h=>ah (bE ac 2 h rfl λf h=>bV h rfl (λhc=>?_) (λhc=>?_))
 ·have hc:=aG9 hc
  have hn:=(hr.resolve_right (λ⟨k9,_,h9,_⟩=>by omega)).2
  refine bE ac 2 h rfl λf h=>rt (dK rfl h rfl (⟨_,rfl,LA (Dh hn).symm s⟩))
 ·obtain ⟨k9,ie,rfl,hpk,hpf⟩:=hr.resolve_left (λh9=>aH0 hc h9.1)
  have hqk:(!p (l.getD k9 z3))=false:=by rw [hpk];rfl
  obtain ⟨hst1,hst2⟩:=Eo (q:=(λx => !p x)) ie (λi hi=>by rw [hpf i hi];rfl) hqk
  refine kt (ah (bU ac 1 h rfl λf h=>ai h (bo (h.ev rfl) (h.ev rfl) (by omega)) rfl λf h=>e9 ac 1 h rfl λf h=>aL4 (aL6 (λnn aa ww=>∃ j:Nat,Sl 42 aa [(0,vh),(1,.func (.func g9) #[] caps.toArray),(8,vh),(5,.int .i64 (((gR (λx => !p x) l j):Nat):Int)),(6,.int .i64 (j:Int))]/\St w0 (.sl vh 63 68 (l).length (aI (kY (λx => !p x) l j))::B9) ww/\nn=l.length - j/\k9+1<=j/\j<=l.length) (l.length - (k9+1)) ⟨k9+1,h.only ⟨rfl,rfl,rfl,ao rfl (by omega),ao rfl (by omega),trivial⟩,s.as ⟨eC rfl (by rw [hst1]),fx _⟩,rfl,by omega,by omega⟩ ?_)))
  rintro _ f w1 ⟨j,h,s,hnn,hp0,hp1⟩
  refine ah (bU ac 2 h rfl λf h=>eK 0 h s aR5 rfl rfl rfl λf h=>e9 ac 1 h rfl λf h=>cB h rfl (λhc=>?_) (λhc=>?_))
  ·refine kt (ah (aL4 (qr ?_)))
   have hjl:j<l.length:=by omega
   have hix:=yc (λx => !p x) l j
   refine am ac 2 h rfl λf h=>ai h (bj (bs.of_own (s.getSl 0 rfl)) (j) aR5 ms (h.ev rfl) (h.ev rfl) (rfl) (by omega)) rfl λf h=>ap ((bs.of_own (s.getSl 0 rfl)).el (j) (by omega) (by decide) (D:=bu (l.getD j z3).1.me (l.getD j z3).1.pr (l.getD j z3).2.1 (l.getD j z3).2.2) ((g5 (kY (λx => !p x) l j) j (by rw [BO];omega)).trans (by rw [I2 hjl]))) h dl rfl (aP _ _ _ _) rfl λf h=>aK (bu bH bH ax ax) h s kJ rfl rfl λf w1 b7 h s=>al 0 h s dl rfl rfl rfl (aP _ _ _ _) (aP _ _ _ _) (cI (ho _ (ci hjl)).1 (ho _ (ci hjl)).2) λw1 s=>nt (ah ?_)
   cases hq:(p (l.getD j z3):Bool)
   ·refine rs ac 1 h rfl λf h=>ak 0 h s dl rfl rfl (aP _ _ _ _) rfl λf h=>cJ [.agg (bu (l.getD j z3).1.me (l.getD j z3).1.pr (l.getD j z3).2.1 (l.getD j z3).2.2)] (caps:=caps) h s hg rfl (hp [_,_] _ s _ (ci hjl)) rfl rfl ?_;intro f w1 v28 hT hE h s;obtain rfl:=hT
    refine gW ac (.bool true) h rfl (by rw [hq];rfl) rfl λf h=>iY h rfl (bU ac 2 h rfl λf h=>ak 0 h s dl rfl rfl (aP _ _ _ _) rfl λf h=>ai h (bj (bs.of_own (s.getSl 1 rfl)) ((gR (λx => !p x) l j)) aR5 ms (h.ev rfl) (h.ev rfl) (rfl) (by omega)) rfl λf h=>fI 1 ((gR (λx => !p x) l j)) h s dl rfl rfl rfl (aP _ _ _ _) (by omega) (cI (ho _ (ci hjl)).1 (ho _ (ci hjl)).2) ((Nk (K:=(kY (λx => !p x) l j)) (by rw [BO];omega) (l.getD j z3)).trans (aH3 aI (AQ (q:=(λx => !p x)) hjl (by rw [hq];rfl)).1.symm)) λw1 s=>nt (rs ac 1 h rfl λf h=>ai h (bo (h.ev rfl) (h.ev rfl) (by omega)) rfl λf h=>am ac 1 h rfl λf h=>az (aW (aD (rs ac 1 h rfl λf h=>ai h (bo (h.ev rfl) (h.ev rfl) (by omega)) rfl λf h=>e9 ac 1 h rfl λf h=>?_)))))
    have h8:=(AQ (q:=(λx => !p x)) hjl (by rw [hq];rfl)).2
    exact ⟨_,by omega,⟨j+1,h.only ⟨rfl,rfl,rfl,ao rfl (by omega),ao rfl (by omega),trivial⟩,St.as (s.pick _ (aI8 [_] _)) ⟨rfl,fx _⟩,rfl,by omega,by omega⟩⟩
   ·refine rs ac 1 h rfl λf h=>ak 0 h s dl rfl rfl (aP _ _ _ _) rfl λf h=>cJ [.agg (bu (l.getD j z3).1.me (l.getD j z3).1.pr (l.getD j z3).2.1 (l.getD j z3).2.2)] (caps:=caps) h s hg rfl (hp [_,_] _ s _ (ci hjl)) rfl rfl ?_;intro f w1 v28 hT hE h s;obtain rfl:=hT
    refine gW ac (.bool false) h rfl (by rw [hq];rfl) rfl λf h=>wV h rfl (wpIn_skip (aW (aD (rs ac 1 h rfl λf h=>ai h (bo (h.ev rfl) (h.ev rfl) (by omega)) rfl λf h=>e9 ac 1 h rfl λf h=>?_))))
    obtain ⟨h7,h8⟩:=GF (q:=(λx => !p x)) hjl (by rw [hq];rfl)
    exact ⟨_,by omega,⟨j+1,h.only ⟨rfl,rfl,rfl,ao rfl (by omega),ao rfl (by omega),trivial⟩,St.as (s.pick _ (aI8 [_] _)) ⟨eC rfl (by rw [h7]),fx _⟩,rfl,by omega,by omega⟩⟩
  ·refine aL5 (aO (aO (bS (aD (qr ?_)))))
   obtain rfl:j=l.length:=by omega
   have hlt:=PN (q:=(λx => !p x)) ie hqk
   have hI:=Jo (λx => !p x) l
   obtain ⟨b9,cap,cur,fz,hvh,hfz,hnc,hcm,hcs,hct,s2⟩:=s.open_sl (by omega)
   clear s
   subst hvh
   have s:=s2
   have hz68:(Value.agg (bu bH bH ax ax)).cells.size=68:=aP _ _ _ _
   refine am ac 2 h rfl λf h=>ai h (bz (.slice (some ⟨b9,(gR (λx => !p x) l l.length)*68,none⟩) (l.length - (gR (λx => !p x) l l.length)) (cap - (gR (λx => !p x) l l.length))) (i5 (i:=(gR (λx => !p x) l l.length)) aR5 ms (h.ev rfl) (h.ev rfl) rfl (by omega)) (by unfold Yl;rw [if_neg (by omega)])) rfl λf h=>mD (fz:=fz) (Z:=.agg (bu bH bH ax ax)) 0 h s aR5 kJ rfl (by omega) rfl hfz (by rw [hz68];omega) (cI rfl rfl) ?_;intro w1 s
   refine nt (bU ac 2 h rfl λf h=>ai h (i7 (i:=(gR (λx => !p x) l l.length)) aR5 ms (h.ev rfl) (h.ev rfl) rfl (by omega)) rfl λf h=>e9 ac 1 h rfl λf h=>aL3 (dK rfl h rfl (⟨_,rfl,(by have hzl:(Builtin.zeroCells (Value.agg (bu bH bH ax ax)).cells (l.length - (gR (λx => !p x) l l.length))).toList.length=(l.length - (l.filter λx => !p x).length)*68:=(by rw [aI2,size_zeroCells,hz68,hI]);obtain ⟨hf1,hf2⟩:=Im cur.toList _ (λx => !p x) l hct (by have e9:=aI2 (xs:=cur);omega) hzl ((gR (λx => !p x) l l.length)*68) (by rw [hI]) ((l.length - (gR (λx => !p x) l l.length))*(Value.agg (bu bH bH ax ax)).cells.size) (by rw [hz68,hI]);rw [← hI];exact s.close_sl (by rw [List.size_toArray];exact hfz.imp id λh9=>(by rw [hf1,aI2];exact h9)) (by omega) hcm (by rw [List.size_toArray];exact hf1.trans hcs) hf2 (by rw [l5,hI]))⟩)))
theorem HS (x:N3) (no:Int) (bx:Nat) (w:World) (hb:w.heap[bx]? = some (.cells #[.int .i64 no] 3)):Calls Tryz.prog 161 [.agg (bu x.1.me x.1.pr x.2.1 x.2.2),.pointer (some ⟨bx,0,none⟩)].toArray w (cb w (is (.bool (decide (x.1.me.1=no))))):=by
 refine bK Tryz.func161 rfl Tryz.ntmps161 rfl λf h s=>qr (aV (bu x.1.me x.1.pr x.2.1 x.2.2) h s rfl rfl rfl λf w1 b2 h s=>e9 ac 1 h rfl λf h=>bU ac 2 h rfl λf h=>ag (ae (aJ.of_own s 0 rfl) 0 (mz _ _ _ _)) h bJ rfl rfl λf h=>ag (V:=.int .i64 no) (ae (aJ.of_blk (fy hb s.ext)) 0 (rfl)) h bJ rfl rfl λf h=>e9 ac 2 h rfl λf h=>aL3 (av rfl h s rfl (rfl)))
theorem Dc (L:List N3) (vo:Value) (w:World) (hO:kr w vo L) (hL:L.length<=40) (hd:L.Pairwise λa b=>a.1.me.1≠b.1.me.1):Calls Tryz.prog 155 [.agg #[vo]].toArray w (cb w (λv w9=>∃ bm,v=.map (some bm)/\St w [.blk bm (HR (lJ L))] w9)):=by
 refine go Tryz.func155 rfl Tryz.ntmps155 rfl [(0,.agg #[vo])] (by simp) λf h=>?_
 have s:=St.start w
 refine qr (aV (#[vo]) h s rfl rfl rfl λf w1 b1 h s=>e9 ac 1 h rfl λf h=>qr (qJ h s rfl ?_));intro f w1 b5 h s
 refine aK (#[.map none]) h s GO rfl rfl λf w1 b3 h s=>aM 0 h s oy rfl rfl rfl (by simp) (rfl) λw1 s=>nt (ah (qr (ak 2 h s bN rfl rfl (rfl) rfl λf h=>cM [.agg #[vo]] h ub (jH vo _ _ _ s) rfl rfl ?_)));rintro f w1 r ⟨bn,rfl,s⟩ h
 refine nt (aL4 (gr (λd A9=>A9=[.blk b3 (.cells #[.map (some b5)] 233),.blk b5 (HR (lJ (L.take d))),.blk b1 (.cells #[vo] 24)]) [.blk b3 (.cells #[.map (some b5)] 233),.blk b5 (HR (lJ (L.take 0))),.blk b1 (.cells #[vo] 24)] [.blk bn (.cells #[vo] 24)] (L.length) (λ_=>false) (λd=>[Value.pointer (some (bO vo (d*68)))]) h s rfl uA (List.Perm.refl _) (rfl) (λ_=>rfl) ?_ ?_ ?_ ?_))
 ·intro lp w2 GG g0 hg0 s2 hY;exact iD L.length (by omega) vo _ _ hO.1 lp bn (λ_=>false) GG g0 w w2 s2 hg0 hY
 ·intro lp D9 d9 rc R9 A9 w2 hd9 hq9 hJ9 s
  obtain rfl:=hJ9
  have h:=Sl.round1 (p:=8) (V:=.pointer (some (bO vo (d9*68)))) h rfl
  have hdl9:=hd9
  refine re ac 1 h rfl λf h=>⟨_,s,λw3 s=>?_⟩
  refine aL4 (dJ 7 h (by kernel_rfl) (eR 2 h s oy rfl rfl (rfl) rfl λf h=>ay ac 2 h rfl λf h=>aF h (bq f5 (h.ev rfl) ((hO.1.keep s.ext).some (by omega))) rfl λf h=>aF h (bq jh (h.ev rfl) ((hO.1.keep s.ext).some (by omega))) rfl λf h=>aB (V:=.int .i64 (L.getD d9 z3).1.me.1) (er (hO.1.keep s.ext) (d9*68+0) (wg L d9 hdl9)) h bJ rfl rfl λf h=>aF h (Dn aa6) rfl λf h=>bY s λw1 s=>Me 3 h s aT0 aR2 rfl rfl rfl rfl (Ah (N5 hd hdl9)) ?_));intro w1 s
  refine az (aW ?_)
  replace s:=s.reob9 (o':=HR (lJ (L.take (d9+1)))) 3 rfl ((SG _ _).trans (by rw [I5 hdl9]))
  refine ⟨rfl,_,rfl,s.pick _ ?_⟩
  exact aG7 _ (List.Sublist.refl _)
 ·intro D9 A9 w2 hJ9 hq9 s
  obtain rfl:=hJ9
  replace h:Sl _ {f with defers:={target:=.collected D9,args:=#[]}::f.defers} _ [{target:=.collected D9,args:=#[]}]:=⟨h.size,by rw [h.defers],h.holds⟩
  rw [List.take_length] at s
  refine aW (aD (qr (cz 2 h s oy rfl rfl (rfl) rfl λf h=>e9 ac 1 h rfl λf h=>aL3 ?_)))
  exact sZ 0 rfl h s rfl rfl (λw9 s9=>⟨b5,rfl,s9.sel [3] rfl (by decide)⟩)
 ·intro D9 d9 A9 w2 hd9 hqd9 hq9 hJ9 s
  cases hqd9
theorem Bx (l:List Mb) (vh:Value) (g9:Nat) (caps:List Value) (p:Mb->Bool) (w:World) (hR:bs w vh 33 l.length (aq l)) (hln:l.length<=1000) (hg:Fnc Tryz.prog g9) (hp:∀ w9,Ext w w9->∀ x∈l,Calls Tryz.prog g9 (.agg (ar x)::caps).toArray w9 (cb w9 (is (.bool (p x))))):Calls Tryz.prog 139 [vh,.func (.func g9) #[] caps.toArray].toArray w (cb w (λv _=>∃ r:Int,v=.int .i64 r/\((r = -1/\∀ x∈l,p x=false)∨∃ k:Nat,k<l.length/\r=(k:Int)/\p (l.getD k bH)=true/\∀ i,i<k->p (l.getD i bH)=false))):=by
 refine bK Tryz.func139 rfl Tryz.ntmps139 rfl λf h s=>bE ac 1 h rfl λf h=>ah (bU ac 1 h rfl λf h=>ck h (hR.keep s.ext) aS2 rfl rfl λf h=>e9 ac 1 h rfl λf h=>aL4 (aL6 (λnn aa ww=>∃ k:Nat,Sl 19 aa [(0,vh),(1,.func (.func g9) #[] caps.toArray),(6,vh),(7,.int .i64 (l.length:Int)),(8,.int .i64 (k:Int))]/\St w [] ww/\nn=l.length - k/\k<=l.length/\∀ i (hi:i<l.length),i<k->p l[i]=false) (l.length - (0)) ⟨0,h.only ⟨rfl,rfl,rfl,rfl,ao rfl (by omega),trivial⟩,s.as trivial,rfl,aJ3 _,λi hi h9=>aO7 h9 (aM6 _)⟩ ?_))
 rintro _ f w1 ⟨k,h,s,hnn,hp0,hp1⟩
 refine bE ac 1 h rfl λf h=>ah (cB h rfl (λhc=>?_) (λhc=>?_))
 ·refine kt (ah (aL4 (bE ac 2 h rfl λf h=>qr ?_)))
  have hkl:k<l.length:=by omega
  refine am ac 3 h rfl λf h=>ai h (bj (hR.keep s.ext) (k) aS2 dX (h.ev rfl) (h.ev rfl) (by omega) (by omega)) rfl λf h=>ap ((hR.keep s.ext).el (k) (by omega) (by decide) (D:=ar l[k]) (Kl l k hkl)) h aQ rfl (aj _) rfl λf h=>cJ [.agg (ar l[k])] (caps:=caps) h s hg rfl (hp _ s.ext _ (aN1 hkl)) rfl rfl ?_;intro f w1 v9 hT hE h s;obtain rfl:=hT
  refine nt (bV h rfl (λhc=>?_) (λhc=>?_))
  ·refine bE ac 2 h rfl λf h=>aL3 (bA (aS (aS (bA (aS (av rfl h s rfl (⟨_,rfl,.inr ⟨k,hkl,rfl,by rw [← yI hkl];exact hc,λi hi=>by rw [← yI (show i<l.length by omega)];exact hp1 i (by omega) hi⟩⟩)))))))
  ·refine wpIn_skip (aW (aD (aw (ai h (bo (h.ev rfl) (h.ev rfl) (by omega)) rfl λf h=>e9 ac 1 h rfl λf h=>?_))))
   exact ⟨_,by omega,⟨k+1,h.only ⟨rfl,rfl,rfl,rfl,ao rfl (by omega),trivial⟩,St.as s trivial,rfl,by omega,tU (λy=>p y=false) hp1 hkl hc⟩⟩
 ·refine aL5 (aO (aO (bS (aD (bE ac 1 h rfl λf h=>aL3 (av rfl h s rfl (⟨_,rfl,.inl ⟨rfl,λx hx=>(by obtain ⟨i,hi,e⟩:=aN2 hx;rw [← e];exact hp1 i hi (by omega))⟩⟩)))))))
set_option maxHeartbeats 1000000 in
theorem rl (l:List Mb) (hln:l.length<=1000) (vh:Value) (g9:Nat) (caps:List Value) (p:Mb->Bool) (B9:List Own) (w0 w:World) (s:St w0 (.sl vh 60 33 (l).length (aq (l))::B9) w) (hg:Fnc Tryz.prog g9) (hp:∀ (A9:List Own) (w9:World),St w0 (A9++B9) w9->∀ x∈l,Calls Tryz.prog g9 (.agg (ar x)::caps).toArray w9 (cb w9 (is (.bool (p x))))):Calls Tryz.prog 273 [vh,.func (.func g9) #[] caps.toArray].toArray w (λe w9=>∃ v9,e=.returned v9/\St w0 (.sl v9 60 33 ((l.filter λx => !p x)).length (aq ((l.filter λx => !p x)))::B9) w9):=by
 refine c7 Tryz.func273 rfl Tryz.ntmps273 rfl [(0,vh),(1,.func (.func g9) #[] caps.toArray)] (by simp) λf h=>?_
 refine bE ac 1 h rfl λf h=>bU ac 2 h rfl λf h=>aY h s MX (Bx l vh g9 caps p _ (bs.of_own (s.getSl 0 rfl)) hln hg (λw9 h9 x hx=>hp [_] w9 (s.more h9) x hx)) rfl rfl ?_;rintro f w1 v9 ⟨r9,rfl,hr⟩ hE h s
 refine e9 ac 1 h rfl λf h=>ah (bE ac 2 h rfl λf h=>bV h rfl (λhc=>?_) (λhc=>?_))
 ·have hc:=aG9 hc
  have hn:=(hr.resolve_right (λ⟨k9,_,h9,_⟩=>by omega)).2
  refine bE ac 2 h rfl λf h=>rt (dK rfl h rfl (⟨_,rfl,yz (Hc hn).symm s⟩))
 ·obtain ⟨k9,ie,rfl,hpk,hpf⟩:=hr.resolve_left (λh9=>aH0 hc h9.1)
  have hqk:(!p (l.getD k9 bH))=false:=by rw [hpk];rfl
  obtain ⟨hst1,hst2⟩:=HK (q:=(λx => !p x)) ie (λi hi=>by rw [hpf i hi];rfl) hqk
  refine kt (ah (bU ac 1 h rfl λf h=>ai h (bo (h.ev rfl) (h.ev rfl) (by omega)) rfl λf h=>e9 ac 1 h rfl λf h=>aL4 (aL6 (λnn aa ww=>∃ j:Nat,Sl 42 aa [(0,vh),(1,.func (.func g9) #[] caps.toArray),(8,vh),(5,.int .i64 (((oX (λx => !p x) l j):Nat):Int)),(6,.int .i64 (j:Int))]/\St w0 (.sl vh 60 33 (l).length (aq (yD (λx => !p x) l j))::B9) ww/\nn=l.length - j/\k9+1<=j/\j<=l.length) (l.length - (k9+1)) ⟨k9+1,h.only ⟨rfl,rfl,rfl,ao rfl (by omega),ao rfl (by omega),trivial⟩,s.as ⟨eC rfl (by rw [hst1]),fx _⟩,rfl,by omega,by omega⟩ ?_)))
  rintro _ f w1 ⟨j,h,s,hnn,hp0,hp1⟩
  refine ah (bU ac 2 h rfl λf h=>eK 0 h s aS2 rfl rfl rfl λf h=>e9 ac 1 h rfl λf h=>cB h rfl (λhc=>?_) (λhc=>?_))
  ·refine kt (ah (aL4 (qr ?_)))
   have hjl:j<l.length:=by omega
   have hix:=CW (λx => !p x) l j
   refine am ac 2 h rfl λf h=>ai h (bj (bs.of_own (s.getSl 0 rfl)) (j) aS2 dX (h.ev rfl) (h.ev rfl) (rfl) (by omega)) rfl λf h=>ap ((bs.of_own (s.getSl 0 rfl)).el (j) (by omega) (by decide) (D:=ar (l.getD j bH)) ((eM (yD (λx => !p x) l j) j (by rw [Fn];omega)).trans (by rw [Sw hjl]))) h aQ rfl (aj _) rfl λf h=>aK (ar bH) h s em rfl rfl λf w1 b7 h s=>al 0 h s aQ rfl rfl rfl (aj _) (aj _) (bD _) λw1 s=>nt (ah ?_)
   cases hq:(p (l.getD j bH):Bool)
   ·refine rs ac 1 h rfl λf h=>ak 0 h s aQ rfl rfl (aj _) rfl λf h=>cJ [.agg (ar (l.getD j bH))] (caps:=caps) h s hg rfl (hp [_,_] _ s _ (i8 hjl)) rfl rfl ?_;intro f w1 v28 hT hE h s;obtain rfl:=hT
    refine gW ac (.bool true) h rfl (by rw [hq];rfl) rfl λf h=>iY h rfl (bU ac 2 h rfl λf h=>ak 0 h s aQ rfl rfl (aj _) rfl λf h=>ai h (bj (bs.of_own (s.getSl 1 rfl)) ((oX (λx => !p x) l j)) aS2 dX (h.ev rfl) (h.ev rfl) (rfl) (by omega)) rfl λf h=>fI 1 ((oX (λx => !p x) l j)) h s aQ rfl rfl rfl (aj _) (by omega) (bD _) ((DJ (l:=(yD (λx => !p x) l j)) _ (by rw [Fn];omega)).trans (aH3 aq (Gl (q:=(λx => !p x)) hjl (by rw [hq];rfl)).1.symm)) λw1 s=>nt (rs ac 1 h rfl λf h=>ai h (bo (h.ev rfl) (h.ev rfl) (by omega)) rfl λf h=>am ac 1 h rfl λf h=>az (aW (aD (rs ac 1 h rfl λf h=>ai h (bo (h.ev rfl) (h.ev rfl) (by omega)) rfl λf h=>e9 ac 1 h rfl λf h=>?_)))))
    have h8:=(Gl (q:=(λx => !p x)) hjl (by rw [hq];rfl)).2
    exact ⟨_,by omega,⟨j+1,h.only ⟨rfl,rfl,rfl,ao rfl (by omega),ao rfl (by omega),trivial⟩,St.as (s.pick _ (aI8 [_] _)) ⟨rfl,fx _⟩,rfl,by omega,by omega⟩⟩
   ·refine rs ac 1 h rfl λf h=>ak 0 h s aQ rfl rfl (aj _) rfl λf h=>cJ [.agg (ar (l.getD j bH))] (caps:=caps) h s hg rfl (hp [_,_] _ s _ (i8 hjl)) rfl rfl ?_;intro f w1 v28 hT hE h s;obtain rfl:=hT
    refine gW ac (.bool false) h rfl (by rw [hq];rfl) rfl λf h=>wV h rfl (wpIn_skip (aW (aD (rs ac 1 h rfl λf h=>ai h (bo (h.ev rfl) (h.ev rfl) (by omega)) rfl λf h=>e9 ac 1 h rfl λf h=>?_))))
    obtain ⟨h7,h8⟩:=Kf (q:=(λx => !p x)) hjl (by rw [hq];rfl)
    exact ⟨_,by omega,⟨j+1,h.only ⟨rfl,rfl,rfl,ao rfl (by omega),ao rfl (by omega),trivial⟩,St.as (s.pick _ (aI8 [_] _)) ⟨eC rfl (by rw [h7]),fx _⟩,rfl,by omega,by omega⟩⟩
  ·refine aL5 (aO (aO (bS (aD (qr ?_)))))
   obtain rfl:j=l.length:=by omega
   have hlt:=VL (q:=(λx => !p x)) ie hqk
   have hI:=Qj (λx => !p x) l
   obtain ⟨b9,cap,cur,fz,hvh,hfz,hnc,hcm,hcs,hct,s2⟩:=s.open_sl (by omega)
   clear s
   subst hvh
   have s:=s2
   have hz33:(Value.agg (ar bH)).cells.size=33:=aj _
   refine am ac 2 h rfl λf h=>ai h (bz (.slice (some ⟨b9,(oX (λx => !p x) l l.length)*33,none⟩) (l.length - (oX (λx => !p x) l l.length)) (cap - (oX (λx => !p x) l l.length))) (i5 (i:=(oX (λx => !p x) l l.length)) aS2 dX (h.ev rfl) (h.ev rfl) rfl (by omega)) (by unfold Yl;rw [if_neg (by omega)])) rfl λf h=>mD (fz:=fz) (Z:=.agg (ar bH)) 0 h s aS2 em rfl (by omega) rfl hfz (by rw [hz33];omega) (bD _) ?_;intro w1 s
   refine nt (bU ac 2 h rfl λf h=>ai h (i7 (i:=(oX (λx => !p x) l l.length)) aS2 dX (h.ev rfl) (h.ev rfl) rfl (by omega)) rfl λf h=>e9 ac 1 h rfl λf h=>aL3 (dK rfl h rfl (⟨_,rfl,(by have hzl:(Builtin.zeroCells (Value.agg (ar bH)).cells (l.length - (oX (λx => !p x) l l.length))).toList.length=(l.length - (l.filter λx => !p x).length)*33:=(by rw [aI2,size_zeroCells,hz33,hI]);obtain ⟨hf1,hf2⟩:=Ox cur.toList _ (λx => !p x) l hct (by have e9:=aI2 (xs:=cur);omega) hzl ((oX (λx => !p x) l l.length)*33) (by rw [hI]) ((l.length - (oX (λx => !p x) l l.length))*(Value.agg (ar bH)).cells.size) (by rw [hz33,hI]);rw [← hI];exact s.close_sl (by rw [List.size_toArray];exact hfz.imp id λh9=>(by rw [hf1,aI2];exact h9)) (by omega) hcm (by rw [List.size_toArray];exact hf1.trans hcs) hf2 (by rw [fM,hI]))⟩)))
theorem IJ (nos:List Int) (vn:Value) (no:Int) (w:World) (hN:bs w vn 1 nos.length (nos.map (Value.int .i64))) (hnn:nos.length<=1000):Calls Tryz.prog 310 [vn,.int .i64 no].toArray w (cb w (λv _=>∃ r:Int,v=.int .i64 r/\((r = -1/\∀ k,k<nos.length->nos.getD k 0≠no)∨∃ k:Nat,k<nos.length/\r=(k:Int)/\nos.getD k 0=no))):=by
 refine bK Tryz.func310 rfl Tryz.ntmps310 rfl λf h s=>bE ac 1 h rfl λf h=>ah (bU ac 1 h rfl λf h=>ck h (hN.keep s.ext) aS7 rfl rfl λf h=>e9 ac 1 h rfl λf h=>aL4 (aL6 (λnn aa ww=>∃ k:Nat,Sl 19 aa [(0,vn),(1,.int .i64 no),(6,vn),(7,.int .i64 (nos.length:Int)),(8,.int .i64 (k:Int))]/\St w [] ww/\nn=nos.length - k/\k<=nos.length/\∀ j,j<k->decide (no=nos.getD j 0)=false) (nos.length - (0)) ⟨0,h.only ⟨rfl,rfl,rfl,rfl,ao rfl (by omega),trivial⟩,s.as trivial,rfl,aJ3 _,λj hj=>aO7 hj (aM6 _)⟩ ?_))
 rintro _ f w1 ⟨k,h,s,hnn,hp0,hp1⟩
 refine bE ac 1 h rfl λf h=>ah (cB h rfl (λhc=>?_) (λhc=>?_))
 ·refine kt (ah (aL4 (bE ac 2 h rfl λf h=>qr ?_)))
  have hkl:k<nos.length:=by omega
  refine am ac 3 h rfl λf h=>ai h (bj (hN.keep s.ext) (k) aS7 aq6 (h.ev rfl) (h.ev rfl) (by omega) (by omega)) rfl λf h=>ag ((hN.keep s.ext).el1 (k) (V:=.int .i64 (nos.getD k 0)) (ai6 nos k hkl)) h bJ rfl rfl λf h=>e9 ac 1 h rfl λf h=>bV h rfl (λhc=>?_) (λhc=>?_)
  ·refine bE ac 2 h rfl λf h=>aL3 (bA (aS (aS (bA (aS (av rfl h s rfl (⟨_,rfl,.inr ⟨k,hkl,rfl,(aG9 hc).symm⟩⟩)))))))
  ·refine wpIn_skip (aW (aD (aw (ai h (bo (h.ev rfl) (h.ev rfl) (by omega)) rfl λf h=>e9 ac 1 h rfl λf h=>?_))))
   exact ⟨_,by omega,⟨k+1,h.only ⟨rfl,rfl,rfl,rfl,ao rfl (by omega),trivial⟩,St.as s trivial,rfl,by omega,fF (q:=λj=>decide (no=nos.getD j 0)) hp1 hc⟩⟩
 ·refine aL5 (aO (aO (bS (aD (bE ac 1 h rfl λf h=>aL3 (av rfl h s rfl (⟨_,rfl,.inl ⟨rfl,λi hi e9=>aH0 (hp1 i (by omega)) e9.symm⟩⟩)))))))
theorem GW (nos:List Int) (vn:Value) (no:Int) (w:World) (hN:bs w vn 1 nos.length (nos.map (Value.int .i64))) (hnn:nos.length<=1000):Calls Tryz.prog 270 [vn,.int .i64 no].toArray w (cb w (is (.bool (nos.any λk=>decide (k=no))))):=by
 refine bK Tryz.func270 rfl Tryz.ntmps270 rfl λf h s=>bE ac 1 h rfl λf h=>bU ac 2 h rfl λf h=>aY h s Vo (IJ nos vn no _ (hN.keep s.ext) hnn) rfl rfl ?_;rintro f w1 v9 ⟨r9,rfl,hr⟩ hE h s
 refine gW ac (.bool (nos.any λk=>decide (k=no))) h rfl (aH3 Value.bool (PQ hr)) rfl λf h=>e9 ac 1 h rfl λf h=>aL3 (av rfl h s rfl (rfl))
theorem wK (l r:List Mb) (vh vu:Value) (w:World) (hR:bs w vh 33 l.length (aq l)) (hS:bs w vu 33 r.length (aq r)) (hln:l.length<=1000) (hln2:r.length<=1000):Calls Tryz.prog 35 [vh,vu].toArray w (cb w (is (.bool (decide (l=r))))):=by
 refine bK Tryz.func35 rfl Tryz.ntmps35 rfl λf h s=>bE ac 1 h rfl λf h=>ah (bU ac 1 h rfl λf h=>ck h (hR.keep s.ext) aS2 rfl rfl λf h=>am ac 1 h rfl λf h=>ck h (hS.keep s.ext) aS2 rfl rfl λf h=>e9 ac 1 h rfl λf h=>bV h rfl (λhc=>?_) (λhc=>?_))
 ·replace hc:=hc
  refine bE ac 1 h rfl λf h=>rt (av rfl h s rfl ((by show _=_;rw [aH1 (λe=>by subst e;simp at hc)])))
 ·have hl9:l.length=r.length:=by have:=hc;simp at this;omega
  refine kt (ah (bU ac 1 h rfl λf h=>ck h (hR.keep s.ext) aS2 rfl rfl λf h=>e9 ac 1 h rfl λf h=>aL4 (aL6 (λnn aa ww=>∃ k:Nat,Sl 26 aa [(0,vh),(1,vu),(12,.int .i64 (l.length:Int)),(13,.int .i64 (k:Int))]/\St w [] ww/\nn=l.length - k/\k<=l.length/\∀ j,j<k->l.getD j bH=r.getD j bH) (l.length - (0)) ⟨0,h.only ⟨rfl,rfl,rfl,ao rfl (by omega),trivial⟩,s.as trivial,rfl,aJ3 _,λj hj=>aO7 hj (aM6 _)⟩ ?_)))
  rintro _ f w1 ⟨k,h,s,hnn,hp0,hp1⟩
  refine bE ac 1 h rfl λf h=>ah (cB h rfl (λhc=>?_) (λhc=>?_))
  ·refine kt (ah (aL4 (bE ac 2 h rfl λf h=>ah (dJ 9 h (by kernel_rfl) ?_))))
   have hka:k<l.length:=by omega
   have hkb:k<r.length:=by omega
   refine ay ac 2 h rfl λf h=>aF h (bj (hR.keep s.ext) (k) aS2 dX (h.ev rfl) (h.ev rfl) (by omega) (by omega)) rfl λf h=>bh ((hR.keep s.ext).el (k) (by omega) (by decide) (D:=ar (l.getD k bH)) (eM l k hka)) h aQ rfl (aj _) rfl λf h=>ay ac 2 h rfl λf h=>aF h (bj (hS.keep s.ext) (k) aS2 dX (h.ev rfl) (h.ev rfl) (by omega) (by omega)) rfl λf h=>bh ((hS.keep s.ext).el (k) (by omega) (by decide) (D:=ar (r.getD k bH)) (eM r k hkb)) h aQ rfl (aj _) rfl λf h=>aF h (mM (x6 _ _) (by kernel_rfl) (by decide) (h.ev rfl) (h.ev rfl) (decide ((l.getD k bH)=r.getD k bH)) (lg _ _)) rfl λf h=>bY s λw1 s=>nt (bV h rfl (λhc=>?_) (λhc=>?_))
   ·refine bE ac 1 h rfl λf h=>aL3 (bA (aS (aS (bA (aS (av rfl h s rfl ((by show _=_;rw [aH1 (λe=>by subst e;simp at hc)]))))))))
   ·refine wpIn_skip (aW (aD (aw (ai h (bo (h.ev rfl) (h.ev rfl) (by omega)) rfl λf h=>e9 ac 1 h rfl λf h=>?_))))
    exact ⟨_,by omega,⟨k+1,h.only ⟨rfl,rfl,rfl,ao rfl (by omega),trivial⟩,St.as s trivial,rfl,by omega,M0 hp1 (by simpa using hc)⟩⟩
  ·refine aL5 (aO (aO (bS (aD (bE ac 1 h rfl λf h=>aL3 (av rfl h s rfl ((by show _=_;rw [aH2 (PX hl9 (λj hj=>hp1 j (by omega)))]))))))))
theorem FF (ks:List Int) (bm:Nat) (no:Int) (w:World) (hm:w.heap[bm]? = some (HR ks)):Calls Tryz.prog 216 [.map (some bm),.int .i64 no].toArray w (cb w (is (.bool (decide (no∈ks))))):=by
 refine bK Tryz.func216 rfl Tryz.ntmps216 rfl λf h s=>bE ac 1 h rfl λf h=>bU ac 2 h rfl λf h=>DG (V:=.agg #[]) (ok:=decide (no∈ks)) h (fy hm s.ext) aT0 aR2 Gk rfl rfl (O1 ks no) rfl ?_;intro f h
 refine am ac 3 h rfl λf h=>aK (#[]) h s Gk rfl rfl λf w1 b5 h s=>al 0 h s V3 rfl rfl rfl (rfl) (rfl) (λ_ h=>by cases h) λw1 s=>e9 ac 1 h rfl λf h=>bE ac 2 h rfl λf h=>aL3 (av rfl h s rfl (rfl))
theorem iC (m:Mb) (K:List N3) (nos:List Int) (l:List Mb) (vq:Value) (kx bm b9 b8:Nat) (w:World) (h3:w.heap[b9]? = some (.cells #[.pointer (some (bO vq (kx*68)))] 97)) (h5:w.heap[b8]? = some (.cells #[.map (some bm)] 233)) (hq:bs w vq 68 K.length (aI K)) (hm:w.heap[bm]? = some (HR nos)) (hk:kx<K.length) (hal:∀ no,decide (no∈nos)=dd l no):Calls Tryz.prog 215 [.agg (ar m),.pointer (some ⟨b9,0,none⟩),.pointer (some ⟨b8,0,none⟩)].toArray w (cb w (is (.bool (EH l (K.getD kx z3).1.me.1 m)))):=by
 refine bK Tryz.func215 rfl Tryz.ntmps215 rfl λf h s=>qr (aV ((ar m)) h s rfl rfl rfl λf w1 b3 h s=>e9 ac 1 h rfl λf h=>ah ?_)
 refine dJ 15 h (by kernel_rfl) (ay ac 1 h rfl λf h=>aB (ae (aJ.of_own s 0 rfl) 0 (cp _)) h bJ rfl rfl λf h=>aB (V:=.pointer (some (bO vq (kx*68)))) (ae (aJ.of_blk (fy h3 s.ext)) 0 (rfl)) h lT rfl rfl λf h=>ay ac 1 h rfl λf h=>aF h (bq f5 (h.ev rfl) ((hq.keep s.ext).some (by omega))) rfl λf h=>aF h (bq jh (h.ev rfl) ((hq.keep s.ext).some (by omega))) rfl λf h=>aB (V:=.int .i64 (K.getD kx z3).1.me.1) (er (hq.keep s.ext) (kx*68+0) (wg K kx hk)) h bJ rfl rfl λf h=>MC ac h rfl (λq0 f h=>?_) (λq0 f h=>?_))
 ·refine ay ac 7 h rfl λf h=>bY s λw1 s=>nt (aL3 (av rfl h s rfl ((aH3 Value.bool (ak0 q0)).symm)))
 ·skip
  cases q1:(dd l m.1:Bool)
  ·refine ay ac 1 h rfl λf h=>bL h rfl (aB (V:=.map (some bm)) (ae (aJ.of_blk (fy h5 s.ext)) 0 (rfl)) h oy rfl rfl λf h=>ay ac 1 h rfl λf h=>bL h rfl (aB (ae (aJ.of_own s 0 rfl) 0 (cp _)) h bJ rfl rfl λf h=>bL h rfl (bF h Ld (λw9 hE9=>aR (.bool false) (FF nos bm m.1 w9 (fy hm (s.ext.trans hE9))) (aH3 Value.bool ((hal _).trans q1))) rfl rfl λf h=>ay ac 2 h rfl λf h=>bY s λw1 s=>nt (aL3 (av rfl h s rfl ((aH3 Value.bool ((Uq q0).trans q1)).symm))))))
  ·refine ay ac 1 h rfl λf h=>bL h rfl (aB (V:=.map (some bm)) (ae (aJ.of_blk (fy h5 s.ext)) 0 (rfl)) h oy rfl rfl λf h=>ay ac 1 h rfl λf h=>bL h rfl (aB (ae (aJ.of_own s 0 rfl) 0 (cp _)) h bJ rfl rfl λf h=>bL h rfl (bF h Ld (λw9 hE9=>aR (.bool true) (FF nos bm m.1 w9 (fy hm (s.ext.trans hE9))) (aH3 Value.bool ((hal _).trans q1))) rfl rfl λf h=>ay ac 2 h rfl λf h=>bY s λw1 s=>nt (aL3 (av rfl h s rfl ((aH3 Value.bool ((Uq q0).trans q1)).symm))))))
theorem Ig (l:List Mb) (vh:Value) (g9:Nat) (caps:List Value) (p:Mb->Bool) (w:World) (hR:bs w vh 33 l.length (aq l)) (hln:l.length<=1000) (hg:Fnc Tryz.prog g9) (hp:∀ w9,Ext w w9->∀ x∈l,Calls Tryz.prog g9 (.agg (ar x)::caps).toArray w9 (cb w9 (is (.bool (p x))))):Calls Tryz.prog 217 [vh,.func (.func g9) #[] caps.toArray].toArray w (cb w (λv w'=>cF w' w.heap.size 60 33 v (l.filter p).length (aq (l.filter p)))):=by
 refine bK Tryz.func217 rfl Tryz.ntmps217 rfl λf h s=>bE ac 1 h rfl λf h=>bE ac 1 h rfl λf h=>ah (qr ?_)
 replace s:=s.nilSl 60 33
 refine am ac 1 h rfl λf h=>ck h (hR.keep s.ext) aS2 rfl rfl λf h=>e9 ac 1 h rfl λf h=>aL4 (aL6 (λnn aa ww=>∃ k:Nat,∃ vb:Value,Sl 23 aa [(0,vh),(1,.func (.func g9) #[] caps.toArray),(5,vb),(8,vh),(9,.int .i64 (l.length:Int)),(10,.int .i64 (k:Int))]/\St w [.sl vb 60 33 ((l.take k).filter p).length (aq ((l.take k).filter p))] ww/\nn=l.length - k/\k<=l.length) (l.length - (0)) ⟨0,(Value.slice none 0 0),h.only ⟨rfl,rfl,rfl,rfl,rfl,rfl,trivial⟩,s.as ⟨rfl,trivial⟩,rfl,aJ3 _⟩ ?_)
 rintro _ f w1 ⟨k,vb,h,s,hnn,hp0⟩
 refine bE ac 1 h rfl λf h=>ah (cB h rfl (λhc=>?_) (λhc=>?_))
 ·refine kt (ah (aL4 (qr (ai h (bj (hR.keep s.ext) (k) aS2 dX (h.ev rfl) (h.ev rfl) (rfl) (by omega)) rfl λf h=>?_))))
  have hkl:k<l.length:=by omega
  refine ap ((hR.keep s.ext).el (k) (by omega) (by decide) (D:=ar (l.getD k bH)) (eM l k hkl)) h aQ rfl (aj _) rfl λf h=>aK (ar bH) h s em rfl rfl λf w1 b7 h s=>al 0 h s aQ rfl rfl rfl (aj _) (aj _) (bD _) λw1 s=>nt (bU ac 1 h rfl λf h=>ak 0 h s aQ rfl rfl (aj _) rfl λf h=>cJ [.agg (ar (l.getD k bH))] (caps:=caps) h s hg rfl (hp _ s.ext _ (i8 hkl)) rfl rfl ?_);intro f w1 v9 hT hE h s;obtain rfl:=hT
  refine nt (bV h rfl (λhc=>?_) (λhc=>?_))
  ·refine rs ac 1 h rfl λf h=>ak 0 h s aQ rfl rfl (aj _) rfl λf h=>cf (vs:=[.agg (ar (l.getD k bH))]) [.tmp 18] h s aS2 je rfl rfl (rx _) rfl rfl rfl λf w1 v19 h s=>dD 2 0 h s aS2 je rfl rfl rfl rfl (by decide) (by rw [j3];exact bD _) (by have:=Af l p k;unfold maxLen;omega) (by have:=Af l p k;omega) rfl λf w1 v20 h s=>?_
   replace s:=s.pick _ (aJ2 _ _)
   replace s:=s.resl (m:=((l.take (k+1)).filter p).length) (ys:=aq ((l.take (k+1)).filter p)) 1 rfl (by rw [Gh hkl hc,aH7];rfl) (by rw [Gh hkl hc,j3,zk])
   refine am ac 1 h rfl λf h=>az (aW (aD (aw (ai h (bo (h.ev rfl) (h.ev rfl) (by omega)) rfl λf h=>e9 ac 1 h rfl λf h=>?_))))
   exact ⟨_,by omega,⟨k+1,v20,h.only ⟨rfl,rfl,rfl,rfl,rfl,ao rfl (by omega),trivial⟩,St.as (s.pick _ (aI8 [_] _)) ⟨rfl,trivial⟩,rfl,by omega⟩⟩
  ·refine wpIn_skip (aW (aD (aw (ai h (bo (h.ev rfl) (h.ev rfl) (by omega)) rfl λf h=>e9 ac 1 h rfl λf h=>?_))))
   exact ⟨_,by omega,⟨k+1,vb,h.only ⟨rfl,rfl,rfl,rfl,rfl,ao rfl (by omega),trivial⟩,St.as (s.pick _ (aI8 [_] _)) ⟨eC (by rw [EM hkl hc]) (by rw [EM hkl hc]),trivial⟩,rfl,by omega⟩⟩
 ·refine aL5 (aO (aO (bS (aD (bE ac 2 h rfl λf h=>aL3 (av rfl h s rfl ((by obtain rfl:k=l.length:=(by omega);rw [List.take_length] at s;exact(s.getSl 0 rfl)))))))))
end Go.Proofs.YthmlflaiidhoiaaGreatDoor
