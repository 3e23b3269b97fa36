/- Package chord and what it stands on, so far as it is wanted: what each function answers. -/
import Derived.Test.YthmlflaiidhoiaaGreatDoorCon
set_option linter.unusedVariables false
set_option linter.unusedSimpArgs false
set_option linter.unusedSectionVars false
namespace Go.Proofs.YthmlflaiidhoiaaGreatDoor
open Go.RowKit
theorem ja (vo:Value) (B9:List Own) (w0 w:World) (s:St w0 B9 w):Calls Tryz.prog 33 [.agg #[vo]].toArray w (λe w9=>∃ r,e=.returned r/\∃ bn,r=.func (.func 81) #[] #[.pointer (some ⟨bn,0,none⟩)]/\St w0 (.blk bn (.cells #[vo] 24)::B9) w9):=by
 refine da Tryz.func33 rfl Tryz.ntmps33 rfl [(0,.agg #[vo])] (by simp) λf h=>?_
 refine qr (ba (#[vo]) h s rfl rfl rfl λf w1 b1 h s=>e9 ac 1 h rfl λf h=>qr (ak h (de [.pointer (some ⟨b1,0,none⟩)] (lL h rfl)) rfl λf h=>e9 ac 1 h rfl λf h=>au3 (gB rfl h rfl (⟨_,rfl,b1,rfl,s⟩))))
theorem gI (m:Nat) (hm:m<=1000) (vo:Value) (xs:List Value) (wr:World) (hV:a7 wr vo 68 m xs) (lp bx:Nat) (q:Nat->Bool) (GG:Nat->Own->Prop) (g0:Own) (w0 w:World) (s:St w0 [.blk bx (.cells #[vo] 24),g0] w) (hg0:GG 0 g0) (hY:∀ (d:Nat) (B9:List Own) (w9:World) (i:Nat) (g:Own),d<m->(∀ j,j<d->q j=false)->GG d g->St w0 B9 w9->B9[i]? = some g->i6 Tryz.prog lp [Value.pointer (some (bf vo (d*68)))].toArray w9 (λv w2=>v=.bool (!q d)/\∃ g',GG (d+1) g'/\St w0 (B9.set i g') w2)):Calls Tryz.prog 81 [.func (.yield lp) #[] #[],.pointer (some ⟨bx,0,none⟩)].toArray w (λe w9=>(∃ v,e=.returned v)/\∃ d g,GG d g/\St w0 ([.blk bx (.cells #[vo] 24)]++[g]) w9/\d<=m/\(∀ j,j+1<d->q j=false)/\(lq q d=false->d=m)):=by
 refine da Tryz.func81 rfl Tryz.ntmps81 rfl [(0,.func (.yield lp) #[] #[]),(1,.pointer (some ⟨bx,0,none⟩))] (by simp) λf h=>?_
 refine cw ac 1 h rfl λf h=>ai (V:=vo) (ah (aX.of_own s 0 rfl) 0 rfl) h iW rfl rfl λf h=>cb h (hV) aA1 rfl rfl λf h=>e9 ac 1 h rfl λf h=>au4 (au6 (λnn aa ww=>∃ d:Nat,∃ gg:Own,Sl 18 aa [(0,.func (.yield lp) #[] #[]),(1,.pointer (some ⟨bx,0,none⟩)),(6,.int .i64 (m:Int)),(7,.int .i64 (d:Int))]/\St w0 [.blk bx (.cells (#[vo]) 24),(gg)] ww/\nn=m - d/\d<=m/\GG d gg/\∀ j,j<d->q j=false) (m - (0)) ⟨0,g0,h.only ⟨rfl,rfl,rfl,aw rfl (by omega),trivial⟩,s.as ⟨rfl,rfl,trivial⟩,rfl,as3 _,hg0,λj hj=>ax7 hj (av6 _)⟩ ?_)
 rintro _ f w1 ⟨d,gg,h,s,hnn,hp0,hp1,hp2⟩
 refine bD ac 1 h rfl λf h=>ag (cZ h rfl (λhc=>?_) (λhc=>?_))
 ·refine kt (ag (au4 (qr ?_)))
  have hdl:d<m:=by omega
  refine e9 ac 2 h rfl λf h=>ag ?_
  cases hq:(q d:Bool)
  ·refine rs ac 2 h rfl λf h=>ai (V:=vo) (ah (aX.of_own s 0 rfl) 0 rfl) h iW rfl rfl λf h=>ap ac 1 h rfl λf h=>ak h (bj (hV) (d) aA1 uO (h.ev rfl) (h.ev rfl) (by omega) (by omega)) rfl λf h=>eC (V:=.bool true) (G:=GG (d+1)) [.pointer (some (bf vo (d*68)))] 1 h rfl rfl (by have h9:=hY d _ _ 1 gg hdl hp2 hp1 s rfl;rw [hq] at h9;exact h9) rfl ?_;intro f w1 g1 hg1 h s
   refine e9 ac 1 h rfl λf h=>mx h rfl (wpIn_skip (aW (aG (aC (ak h (bB (h.ev rfl) (h.ev rfl) (by omega)) rfl λf h=>e9 ac 1 h rfl λf h=>?_)))))
   exact ⟨_,by omega,⟨d+1,g1,h.only ⟨rfl,rfl,rfl,aw rfl (by omega),trivial⟩,St.as s ⟨rfl,rfl,trivial⟩,rfl,by omega,hg1,eM hp2 hq⟩⟩
  ·refine rs ac 2 h rfl λf h=>ai (V:=vo) (ah (aX.of_own s 0 rfl) 0 rfl) h iW rfl rfl λf h=>ap ac 1 h rfl λf h=>ak h (bj (hV) (d) aA1 uO (h.ev rfl) (h.ev rfl) (by omega) (by omega)) rfl λf h=>eC (V:=.bool false) (G:=GG (d+1)) [.pointer (some (bf vo (d*68)))] 1 h rfl rfl (by have h9:=hY d _ _ 1 gg hdl hp2 hp1 s rfl;rw [hq] at h9;exact h9) rfl ?_;intro f w1 g1 hg1 h s
   refine e9 ac 1 h rfl λf h=>dF h rfl (au3 (aY (aQ (aQ (aY ?_)))))
   exact jo rfl h (⟨⟨_,rfl⟩,d+1,g1,hg1,s,by omega,λj hj=>hp2 j (by omega),λh9=>ax7 (hq.symm.trans h9) (by decide)⟩)
 ·refine au5 (aT (aT (bS ?_)))
  exact dN rfl h (⟨⟨_,rfl⟩,d,gg,hp1,s,hp0,λj hj=>hp2 j (by omega),λ_=>by omega⟩)
theorem iw (L:List N3) (vo:Value) (w:World) (hO:qC w vo L) (hL:L.length<=40):Calls Tryz.prog 18 [.agg #[vo]].toArray w (bW w (λv w'=>cd w' w.heap.size 60 33 v (av L).length (aj (av L)))):=by
 refine eh Tryz.func18 rfl Tryz.ntmps18 rfl [(0,.agg #[vo])] (by simp) λf h=>?_
 have s:=St.start w
 refine qr (ba (#[vo]) h s rfl rfl rfl λf w1 b1 h s=>e9 ac 1 h rfl λf h=>qr (aK (#[.slice none 0 0]) h s xi rfl rfl λf w1 b3 h s=>nt (ag (qr (al 1 h s cH rfl rfl (rfl) rfl λf h=>?_)))))
 replace s:=s.nilSl 60 33
 refine df [.agg #[vo]] h rZ (ja vo _ _ _ s) rfl rfl ?_;rintro f w1 r ⟨bn,rfl,s⟩ h
 refine nt (au4 (eg (λd A9=>∃ v8:Value,A9=[.sl v8 60 33 (av (L.take d)).length (aj (av (L.take d))),.blk b3 (.cells #[v8] 61),.blk b1 (.cells #[vo] 24)]) [.sl (Value.slice none 0 0) 60 33 (av (L.take 0)).length (aj (av (L.take 0))),.blk b3 (.cells #[(Value.slice none 0 0)] 61),.blk b1 (.cells #[vo] 24)] [.blk bn (.cells #[vo] 24)] (L.length) (λ_=>false) (λd=>[Value.pointer (some (bf vo (d*68)))]) h s rfl sA (List.Perm.refl _) (⟨_,rfl⟩) (λ_=>rfl) ?_ ?_ ?_ ?_))
 ·intro lp w2 GG g0 hg0 s2 hY;exact gI L.length (by omega) vo _ _ hO.1 lp bn (λ_=>false) GG g0 w w2 s2 hg0 hY
 ·intro lp D9 d9 rc R9 A9 w2 hd9 hq9 hJ9 s
  obtain ⟨v8,rfl⟩:=hJ9
  have h:=Sl.round1 (p:=7) (V:=.pointer (some (bf vo (d9*68)))) h rfl
  have hdl9:=hd9
  refine re ac 1 h rfl λf h=>⟨_,s,λw3 s=>?_⟩
  refine au4 ?_
  replace s:=s.bring 2 rfl
  replace s:St w (.sl v8 60 33 (av (L.take d9)).length (aj (av (L.take d9)))::.blk lp (.loop (rc .busy))::.blk D9 (.deferred (some []))::.blk b3 (.cells (#[v8]) 61)::.blk b1 (.cells (#[vo]) 24)::R9) _:=s
  refine jC 1 7 [[],[],[1],[1,2],[1,2,3],[1,2,3,4],[0,1,2,3,4,5],[0,1,2,3,4,5,6]] [[],[],[],[],[],[],[5,8],[]] [[_]] [.v v8,.v _,.v _,.v (.pointer (some (bf vo (d9*68+0)))),.v (.agg (ar (L.getD d9 z3).1.me)),.m (λv=>[.sl (v 5) 60 33 1 (ar (L.getD d9 z3).1.me).toList]),.m (λv=>[.sl (v 6) 60 33 (av (L.take (d9+1))).length (aj (av (L.take (d9+1))))]),.n] _ h s rfl (by kernel_rfl) (by kernel_rfl) (by kernel_rfl) (cq ?_ (iG ac h rfl rfl rfl (iG ac h rfl rfl rfl (cq ?_ (cq ?_ (cq ?_ (cq ?_ (trivial)))))))) [0,1,2,3,4,6] (by kernel_rfl) ?_
  ·intro f9 w2 vl4 E9 hs9 hd9 hl hF s
   have h:=cJ [(3,_)] h hs9 hd9 ⟨gp hl 3 (by kernel_rfl) (h.holds 3 _ rfl),trivial⟩
   refine bT 2 h s ci rfl rfl (rfl) rfl λf h=>aE ⟨_,bq 8 h rfl rfl,rfl,s⟩
  ·intro f9 w2 vl4 E9 hs9 hd9 hl hF s
   have h:=cJ [(10,_)] h hs9 hd9 ⟨bp hl 10 2 (by kernel_rfl) (hF 2 (by decide)),trivial⟩
   refine ak h (a6 gn (h.ev rfl) ((hO.1.keep s.ext).some (by omega))) rfl λf h=>aE ⟨_,bq 11 h rfl rfl,rfl,s⟩
  ·intro f9 w2 vl4 E9 hs9 hd9 hl hF s
   have h:=cJ [(11,_)] h hs9 hd9 ⟨bp hl 11 3 (by kernel_rfl) (hF 3 (by decide)),trivial⟩
   refine ax (a7.elF (hO.1.keep s.ext) (d9) 0 33 (by omega) (by decide) (C:=aR (L.getD d9 z3).1.me (L.getD d9 z3).1.pr (L.getD d9 z3).2.1 (L.getD d9 z3).2.2) (eZ L d9 hdl9) (D:=ar (L.getD d9 z3).1.me) (dx _ _ _ _)) h aI rfl (ae _) rfl λf h=>aE ⟨_,bq 12 h rfl rfl,rfl,s⟩
  ·intro f9 w2 vl4 E9 hs9 hd9 hl hF s
   have h:=cJ [(12,_)] h hs9 hd9 ⟨bp hl 12 4 (by kernel_rfl) (hF 4 (by decide)),trivial⟩
   refine ef (vs:=[.agg (ar (L.getD d9 z3).1.me)]) [.tmp 12] h s aA6 im rfl rfl (vy _) rfl rfl rfl λf w1 v13 h s=>?_
   replace s:=s.resl (m:=1) (ys:=(ar (L.getD d9 z3).1.me).toList) 0 rfl rfl (lF _)
   exact aE ⟨_,bq 13 h rfl rfl,trivial,s⟩
  ·intro f9 w2 vl4 E9 hs9 hd9 hl hF s
   have e8:f9.tmps.getD 8 undef=v8:=(eN hl 8 0 (by kernel_rfl) (by kernel_rfl)).trans (hF 0 (by decide))
   have e13:f9.tmps.getD 13 undef=(vl4 5):=eN hl 13 5 (by kernel_rfl) (by kernel_rfl)
   have h:=dU [(8,v8),(13,(vl4 5))] (hs9.trans h.size) (hd9.trans h.defers) (holds_lk ⟨e8,e13,trivial⟩)
   refine jS 1 0 h s aA6 im rfl rfl rfl rfl (by decide) (aP _) (by rw [au1,au0];unfold maxLen;omega) (by rw [au1,au0];omega) rfl λf w1 v14 h s=>?_
   replace s:=s.pick _ (as2 _ _)
   replace s:=s.resl (m:=(av (L.take (d9+1))).length) (ys:=aj (av (L.take (d9+1)))) 0 rfl (by rw [AY hdl9,aq7];rfl) (by rw [AY hdl9,yq])
   exact aE ⟨_,bq 14 h rfl rfl,trivial,s⟩
  intro f w1 vl4 hs9 hd9 hv hr hF s
  replace hv:=λi d h9=>hv i d (show Nat.blt i 7=true from h9)
  replace h:=jx 7 (ops:=_) [(8,_),(9,_),(10,_),(11,_),(12,_),(13,(vl4 5)),(14,(vl4 6))] h hs9 hd9 hr ⟨(hv 0 8 rfl rfl).trans (hF 0 rfl),(hv 1 9 rfl rfl).trans (hF 1 rfl),(hv 2 10 rfl rfl).trans (hF 2 rfl),(hv 3 11 rfl rfl).trans (hF 3 rfl),(hv 4 12 rfl rfl).trans (hF 4 rfl),hv 5 13 rfl rfl,hv 6 14 rfl rfl,trivial⟩ (by kernel_rfl)
  replace s:St w (.sl (vl4 6) 60 33 (av (L.take (d9+1))).length (aj (av (L.take (d9+1))))::.blk lp (.loop (rc .busy))::.blk D9 (.deferred (some []))::.blk b3 (.cells (#[v8]) 61)::.blk b1 (.cells (#[vo]) 24)::R9) _:=s
  refine aB 3 h s ci rfl rfl rfl (by simp) (aZ (s.getSl 0 rfl)) λw1 s=>aE (aW ?_)
  replace s:=s.bring 2 rfl
  replace s:=s.bring 2 rfl
  replace s:St w (.blk lp (.loop (rc .busy))::.blk D9 (.deferred (some []))::.sl (vl4 6) 60 33 (av (L.take (d9+1))).length (aj (av (L.take (d9+1))))::.blk b3 (.cells (#[(vl4 6)]) 61)::.blk b1 (.cells (#[vo]) 24)::R9) _:=s
  refine ⟨rfl,_,⟨(vl4 6),rfl⟩,s.pick _ ?_⟩
  exact ap7 _ (List.Sublist.refl _)
 ·intro D9 A9 w2 hJ9 hq9 s
  obtain ⟨v8,rfl⟩:=hJ9
  replace h:Sl _ {f with defers:={target:=.collected D9,args:=#[]}::f.defers} _ [{target:=.collected D9,args:=#[]}]:=⟨h.size,by rw [h.defers],h.holds⟩
  rw [List.take_length] at s
  refine aW (aG (qr (bT 3 h s ci rfl rfl (rfl) rfl λf h=>e9 ac 1 h rfl λf h=>au3 ?_)))
  exact tU 0 rfl h s rfl rfl (λw9 s9=>s9.getSl 2 rfl)
 ·intro D9 d9 A9 w2 hd9 hqd9 hq9 hJ9 s
  cases hqd9
theorem B5 (l:List Mb) (vh:Value) (g9:Nat) (caps:List Value) (p:Mb->Bool) (w:World) (hR:a7 w vh 33 l.length (aj l)) (hln:l.length<=1000) (hg:Fnc Tryz.prog g9) (hp:∀ w9,Ext w w9->∀ x∈l,Calls Tryz.prog g9 (.agg (ar x)::caps).toArray w9 (bW w9 (is (.bool (p x))))):Calls Tryz.prog 139 [vh,.func (.func g9) #[] caps.toArray].toArray w (bW w (λv _=>∃ r:Int,v=.int .i64 r/\((r = -1/\∀ x∈l,p x=false)∨∃ k:Nat,∃ hk:k<l.length,r=(k:Int)/\p l[k]=true))):=by
 refine bG Tryz.func139 rfl Tryz.ntmps139 rfl λf h s=>bD ac 1 h rfl λf h=>ag (cw ac 1 h rfl λf h=>cb h (hR.keep s.ext) aA6 rfl rfl λf h=>e9 ac 1 h rfl λf h=>au4 (au6 (λnn aa ww=>∃ k:Nat,Sl 19 aa [(0,vh),(1,.func (.func g9) #[] caps.toArray),(6,vh),(7,.int .i64 (l.length:Int)),(8,.int .i64 (k:Int))]/\St w [] ww/\nn=l.length - k/\k<=l.length/\∀ i (hi:i<l.length),i<k->p l[i]=false) (l.length - (0)) ⟨0,h.only ⟨rfl,rfl,rfl,rfl,aw rfl (by omega),trivial⟩,s.as trivial,rfl,as3 _,λi hi h9=>ax7 h9 (av6 _)⟩ ?_))
 rintro _ f w1 ⟨k,h,s,hnn,hp0,hp1⟩
 refine bD ac 1 h rfl λf h=>ag (cZ h rfl (λhc=>?_) (λhc=>?_))
 ·refine kt (ag (au4 (bD ac 2 h rfl λf h=>qr ?_)))
  have hkl:k<l.length:=by omega
  refine ap ac 3 h rfl λf h=>ak h (bj (hR.keep s.ext) (k) aA6 dd (h.ev rfl) (h.ev rfl) (by omega) (by omega)) rfl λf h=>ax ((hR.keep s.ext).el (k) (by omega) (by decide) (D:=ar l[k]) (Lb l k hkl)) h aI rfl (ae _) rfl λf h=>gQ [.agg (ar l[k])] (caps:=caps) h s hg rfl (hp _ s.ext _ (aw0 hkl)) rfl rfl ?_;intro f w1 v9 hT hE h s;obtain rfl:=hT
  refine nt (cT h rfl (λhc=>?_) (λhc=>?_))
  ·refine bD ac 2 h rfl λf h=>au3 (aY (aQ (aQ (aY (aQ (aA rfl h s rfl (⟨_,rfl,.inr ⟨k,hkl,rfl,hc⟩⟩)))))))
  ·refine wpIn_skip (aW (aG (aC (ak h (bB (h.ev rfl) (h.ev rfl) (by omega)) rfl λf h=>e9 ac 1 h rfl λf h=>?_))))
   exact ⟨_,by omega,⟨k+1,h.only ⟨rfl,rfl,rfl,rfl,aw rfl (by omega),trivial⟩,St.as s trivial,rfl,by omega,AM (λy=>p y=false) hp1 hkl hc⟩⟩
 ·refine au5 (aT (aT (bS (aG (bD ac 1 h rfl λf h=>au3 (aA rfl h s rfl (⟨_,rfl,.inl ⟨rfl,λx hx=>(by obtain ⟨i,hi,e⟩:=aw1 hx;rw [← e];exact hp1 i hi (by omega))⟩⟩)))))))
theorem mJ (l:List Mb) (vh:Value) (g9:Nat) (caps:List Value) (p:Mb->Bool) (w:World) (hR:a7 w vh 33 l.length (aj l)) (hln:l.length<=1000) (hg:Fnc Tryz.prog g9) (hp:∀ w9,Ext w w9->∀ x∈l,Calls Tryz.prog g9 (.agg (ar x)::caps).toArray w9 (bW w9 (is (.bool (p x))))):Calls Tryz.prog 85 [vh,.func (.func g9) #[] caps.toArray].toArray w (bW w (is (.bool (l.any p)))):=by
 refine bG Tryz.func85 rfl Tryz.ntmps85 rfl λf h s=>bD ac 1 h rfl λf h=>cw ac 2 h rfl λf h=>bg h s Jf (B5 l vh g9 caps p _ (hR.keep s.ext) hln hg (λw9 h9=>hp w9 (s.ext.trans h9))) rfl rfl ?_;rintro f w1 v9 ⟨r9,rfl,hr⟩ hE h s
 refine ol ac (.bool (l.any p)) h rfl (aq3 Value.bool (Po hr)) rfl λf h=>e9 ac 1 h rfl λf h=>au3 (aA rfl h s rfl (rfl))
theorem zk (x:Int) (w:World):Calls Tryz.prog 203 [.int .i64 x].toArray w (bW w (is (.bool false))):=by
 refine bG Tryz.func203 rfl Tryz.ntmps203 rfl λf h s=>bD ac 1 h rfl λf h=>cw ac 2 h rfl λf h=>ol ac (.bool false) h rfl (by simp) rfl λf h=>e9 ac 1 h rfl λf h=>au3 (aA rfl h s rfl (rfl))
theorem tZ (x y:Int) (w:World):Calls Tryz.prog 129 [.int .i64 x,.int .i64 y].toArray w (bW w (is (.int .i64 (dE x y)))):=by
 refine bG Tryz.func129 rfl Tryz.ntmps129 rfl λf h s=>bD ac 1 h rfl λf h=>cw ac 1 h rfl λf h=>fP h s KH (zk _ _) rfl rfl λf w1 h s=>e9 ac 1 h rfl λf h=>cw ac 1 h rfl λf h=>fP h s KH (zk _ _) rfl rfl λf w1 h s=>e9 ac 1 h rfl λf h=>ag (bD ac 1 h rfl λf h=>ry h rfl (ag (bD ac 1 h rfl λf h=>ry h rfl (ag (bD ac 3 h rfl λf h=>cT h rfl (λhc=>?_) (λhc=>?_))))))
 ·have hc:=ap9 hc
  refine bD ac 1 h rfl λf h=>rt (aA rfl h s rfl (by show _=_;unfold dE;rw [if_pos hc]))
 ·have hc1:=aq0 hc
  refine kt (ag (bD ac 3 h rfl λf h=>cZ h rfl (λhc=>?_) (λhc=>?_)))
  ·refine bD ac 1 h rfl λf h=>rt (aA rfl h s rfl (by show _=_;unfold dE;rw [if_neg (by omega),if_pos (by omega)]))
  ·refine kt (bD ac 1 h rfl λf h=>au3 (aA rfl h s rfl (by show _=_;unfold dE;rw [if_neg (by omega),if_neg (by omega)])))
theorem Ax (x y:Mb) (w:World):Calls Tryz.prog 78 [.agg (ar x),.agg (ar y)].toArray w (bW w (is (.int .i64 (dE x.1 y.1)))):=by
 refine bG Tryz.func78 rfl Tryz.ntmps78 rfl λf h s=>qr (ba ((ar x)) h s rfl rfl rfl λf w1 b2 h s=>ba ((ar y)) h s rfl rfl rfl λf w1 b3 h s=>e9 ac 1 h rfl λf h=>cw ac 1 h rfl λf h=>ai (ah (aX.of_own s 1 rfl) 0 (bH _)) h bQ rfl rfl λf h=>ap ac 1 h rfl λf h=>ai (ah (aX.of_own s 0 rfl) 0 (bH _)) h bQ rfl rfl λf h=>fP h s B8 (tZ _ _ _) rfl rfl λf w1 h s=>e9 ac 1 h rfl λf h=>au3 (aA rfl h s rfl (rfl)))
theorem ya (l:List Mb) (vh:Value) (w:World) (hR:a7 w vh 33 l.length (aj l)) (hln:l.length<=1000):Calls Tryz.prog 77 [vh,.func (.func 78) #[] #[]].toArray w (bW w (is (.bool (uy l)))):=by
 refine bG Tryz.func77 rfl Tryz.ntmps77 rfl λf h s=>bD ac 1 h rfl λf h=>ag (cw ac 1 h rfl λf h=>cb h (hR.keep s.ext) aA6 rfl rfl λf h=>ak h (fp (h.ev rfl) (h.ev rfl) (by omega)) rfl λf h=>e9 ac 1 h rfl λf h=>au4 (au6 (λnn aa ww=>∃ k:Nat,Sl 25 aa [(0,vh),(1,.func (.func 78) #[] #[]),(5,.int .i64 ((k:Int) - 1))]/\St w [] ww/\nn=k/\k<=l.length/\∀ j,k<=j->0<j->j<l.length->nu l j=false) ((l.length)) ⟨l.length,h.only ⟨rfl,rfl,aw rfl (by omega),trivial⟩,s.as trivial,rfl,as1 _,λj h1 _ h2=>ax7 h2 (by omega)⟩ ?_))
 rintro _ f w1 ⟨k,h,s,hnn,hp0,hp1⟩
 refine ag (bD ac 2 h rfl λf h=>cZ h rfl (λhc=>?_) (λhc=>?_))
 ·refine kt (ag (au4 (ag ?_)))
  cases hq:(nu l (k - 1):Bool)
  ·refine cK 12 h (by kernel_rfl) ?_
   have h0:=hc
   have hk1:0<k - 1:=by omega
   refine aD ac 3 h rfl λf h=>aF h (bj (hR.keep s.ext) (k - 1) aA6 dd (h.ev rfl) (h.ev rfl) (by omega) (by omega)) rfl λf h=>aU ((hR.keep s.ext).el (k - 1) (by omega) (by decide) (D:=ar (l.getD (k - 1) aS)) (dI l (k - 1) (by omega))) h aI rfl (ae _) rfl λf h=>aD ac 2 h rfl λf h=>aF h (fp (h.ev rfl) (h.ev rfl) (by omega)) rfl λf h=>aF h (bj (hR.keep s.ext) (k - 1 - 1) aA6 dd (h.ev rfl) (h.ev rfl) (by omega) (by omega)) rfl λf h=>aU ((hR.keep s.ext).el (k - 1 - 1) (by omega) (by decide) (D:=ar (l.getD (k - 1 - 1) aS)) (dI l (k - 1 - 1) (by omega))) h aI rfl (ae _) rfl λf h=>je [.agg (ar (l.getD (k - 1) aS)),.agg (ar (l.getD (k - 1 - 1) aS))] (caps:=[]) h QL rfl (λw9 h9=>Ax _ _ w9) rfl rfl ?_;intro f h
   refine sT ac h rfl ((ar3.2 (sW _ _)).trans hq) λf h=>bF s λw1 s=>tS h rfl (wpIn_skip (aW (aG (rs ac 1 h rfl λf h=>ak h (fp (h.ev rfl) (h.ev rfl) (by omega)) rfl λf h=>e9 ac 1 h rfl λf h=>?_))))
   exact ⟨_,by omega,⟨k - 1,h.only ⟨rfl,rfl,aw rfl (by omega),trivial⟩,St.as s trivial,rfl,by omega,JY hp1 (by omega) hq⟩⟩
  ·refine cK 12 h (by kernel_rfl) ?_
   have h0:=hc
   have hk1:0<k - 1:=by omega
   refine aD ac 3 h rfl λf h=>aF h (bj (hR.keep s.ext) (k - 1) aA6 dd (h.ev rfl) (h.ev rfl) (by omega) (by omega)) rfl λf h=>aU ((hR.keep s.ext).el (k - 1) (by omega) (by decide) (D:=ar (l.getD (k - 1) aS)) (dI l (k - 1) (by omega))) h aI rfl (ae _) rfl λf h=>aD ac 2 h rfl λf h=>aF h (fp (h.ev rfl) (h.ev rfl) (by omega)) rfl λf h=>aF h (bj (hR.keep s.ext) (k - 1 - 1) aA6 dd (h.ev rfl) (h.ev rfl) (by omega) (by omega)) rfl λf h=>aU ((hR.keep s.ext).el (k - 1 - 1) (by omega) (by decide) (D:=ar (l.getD (k - 1 - 1) aS)) (dI l (k - 1 - 1) (by omega))) h aI rfl (ae _) rfl λf h=>je [.agg (ar (l.getD (k - 1) aS)),.agg (ar (l.getD (k - 1 - 1) aS))] (caps:=[]) h QL rfl (λw9 h9=>Ax _ _ w9) rfl rfl ?_;intro f h
   refine ql ac h rfl ((ar3.2 (sW _ _)).trans hq) λf h=>bF s λw1 s=>iz h rfl (bD ac 1 h rfl λf h=>au3 (aY (aQ (aQ (aY (aQ (aA rfl h s rfl (by show _=_;rw [z8 (by omega) hk1 hq]))))))))
 ·refine au5 (aT (aT (bS (aG (bD ac 1 h rfl λf h=>au3 (aA rfl h s rfl (by show _=_;rw [tq (λj h1 h2=>hp1 j (by omega) h1 h2)])))))))
theorem GI (n:Nat) (hn:n<=1000) (w:World):Calls Tryz.prog 244 [.slice none 0 0,.int .i64 (n:Int)].toArray w (bW w (λv w'=>cd w' w.heap.size 60 33 v 0 [])):=by
 refine bG Tryz.func244 rfl Tryz.ntmps244 rfl λf h s=>bD ac 1 h rfl λf h=>ag (cw ac 1 h rfl λf h=>jd ac h rfl (aq1 (by omega)) λf h=>iA h rfl (ag (cw ac 2 h rfl λf h=>ak h (kg aA6 (h.ev rfl)) rfl λf h=>ap ac 1 h rfl λf h=>ak h (ke aA6 (h.ev rfl)) rfl λf h=>ak h (bk (.int .i64 0) (fp (h.ev rfl) (h.ev rfl) (by omega)) (rfl)) rfl λf h=>ak h (bk (.int .i64 (n:Int)) (fp (h.ev rfl) (h.ev rfl) (by omega)) (aq3 (Value.int .i64) (by omega))) rfl λf h=>e9 ac 1 h rfl λf h=>bD ac 2 h rfl λf h=>cZ h rfl (λhc=>?_) (λhc=>?_))))
 ·refine rs ac 2 h rfl λf h=>ak h (kg aA6 (h.ev rfl)) rfl λf h=>ak h (oh aA6 dd (h.ev rfl) (h.ev rfl)) rfl λf h=>ap ac 1 h rfl λf h=>lj (n:=n) (base:=w.heap.size) h aA6 az8 im rfl rfl (by omega) (by omega) (by omega) (as1 _) rfl λf w1 v22 xs9 h hE9 hO9=>?_
  replace s:=s.sl_new hE9 hO9
  refine ap ac 1 h rfl λf h=>ak h (ke aA6 (h.ev rfl)) rfl λf h=>ak h (mN hO9 aA6 dd (h.ev rfl) (h.ev rfl)) rfl λf h=>e9 ac 1 h rfl λf h=>bD ac 2 h rfl λf h=>au3 (aA rfl h s rfl (hO9.cut0))
 ·refine kt (bD ac 2 h rfl λf h=>au3 (aA rfl h s rfl (dT _ _ _ _)))
theorem AZ (vh:Value) (us:List Value) (ls:List (List Mb)) (hls:us.length=ls.length) (htot:ls.flatten.length<=1000) (hvn:us.length<=1000) (w:World) (hv:a7 w vh 1 us.length us) (hr:∀ k,k<us.length->a7 w (us.getD k undef) 33 (ls.getD k []).length (aj (ls.getD k []))):Calls Tryz.prog 207 [vh].toArray w (bW w (λv w'=>cd w' w.heap.size 60 33 v ls.flatten.length (aj ls.flatten))):=by
 refine bG Tryz.func207 rfl Tryz.ntmps207 rfl λf h s=>bD ac 1 h rfl λf h=>bD ac 1 h rfl λf h=>ag (cw ac 1 h rfl λf h=>cb h (hv.keep s.ext) aB7 rfl rfl λf h=>e9 ac 1 h rfl λf h=>au4 (au6 (λnn aa ww=>∃ k:Nat,Sl 36 aa [(0,vh),(3,.int .i64 (((ls.take k).flatten.length:Nat):Int)),(9,vh),(10,.int .i64 (us.length:Int)),(11,.int .i64 (k:Int))]/\St w [] ww/\nn=us.length - k/\k<=us.length) (us.length - (0)) ⟨0,h.only ⟨rfl,aw rfl rfl,rfl,rfl,aw rfl (by omega),trivial⟩,s.as trivial,rfl,as3 _⟩ ?_))
 rintro _ f w1 ⟨k,h,s,hnn,hp0⟩
 refine bD ac 1 h rfl λf h=>ag (cZ h rfl (λhc=>?_) (λhc=>?_))
 ·refine kt (ag (au4 (qr ?_)))
  have hkl:k<us.length:=by omega
  refine ak h (bj (hv.keep s.ext) (k) aB7 RR (h.ev rfl) (h.ev rfl) (by omega) (by omega)) rfl λf h=>ai ((hv.keep s.ext).el1 (k) (V:=us.getD k undef) (rL hkl)) h ci rfl rfl λf h=>e9 ac 1 h rfl λf h=>cw ac 2 h rfl λf h=>cb h ((hr k hkl).keep s.ext) aA6 rfl rfl λf h=>?_
  have hk1:=t8 ls k (by omega)
  have hk2:=Dn ls (k+1)
  refine ak h (bB (h.ev rfl) (h.ev rfl) (by omega)) rfl λf h=>e9 ac 1 h rfl λf h=>cw ac 1 h rfl λf h=>jd ac h rfl (aq1 (by omega)) λf h=>tS h rfl (wpIn_skip (aW (aG (aC (ak h (bB (h.ev rfl) (h.ev rfl) (by omega)) rfl λf h=>e9 ac 1 h rfl λf h=>?_)))))
  exact ⟨_,by omega,⟨k+1,h.only ⟨rfl,aw rfl (by omega),rfl,rfl,aw rfl (by omega),trivial⟩,St.as s trivial,rfl,by omega⟩⟩
 ·refine au5 (aT (aT (bS (aG (qr ?_)))))
  obtain rfl:k=us.length:=by omega
  refine ol ac (.int .i64 ((ls.flatten.length:Nat):Int)) h rfl (by rw [hls,List.take_length]) rfl λf h=>bg h s VK (GI ls.flatten.length (by omega) _) rfl rfl ?_;intro f w1 v24 hT hE h sq;replace s:=s.sl_new hE hT
  refine e9 ac 1 h rfl λf h=>ag (cw ac 1 h rfl λf h=>cb h (hv.keep s.ext) aB7 rfl rfl λf h=>e9 ac 1 h rfl λf h=>au4 (au6 (λnn aa ww=>∃ i:Nat,∃ vb:Value,Sl 36 aa [(0,vh),(6,vb),(25,vh),(26,.int .i64 (us.length:Int)),(27,.int .i64 (i:Int))]/\St w [.sl vb 60 33 (ls.take i).flatten.length (aj (ls.take i).flatten)] ww/\nn=us.length - i/\i<=us.length) (us.length - (0)) ⟨0,v24,h.only ⟨rfl,rfl,rfl,rfl,aw rfl (by omega),trivial⟩,s.as ⟨vP rfl rfl,trivial⟩,rfl,as3 _⟩ ?_))
  rintro _ f w1 ⟨i,vb,h,s,hnn,hp0⟩
  refine bD ac 1 h rfl λf h=>ag (cZ h rfl (λhc=>?_) (λhc=>?_))
  ·refine kt (ag (au4 (qr ?_)))
   have hkl:i<us.length:=by omega
   have hk1:=t8 ls i (by omega)
   have hk2:=Dn ls (i+1)
   refine ak h (bj (hv.keep s.ext) (i) aB7 RR (h.ev rfl) (h.ev rfl) (by omega) (by omega)) rfl λf h=>ai ((hv.keep s.ext).el1 (i) (V:=us.getD i undef) (rL hkl)) h ci rfl rfl λf h=>e9 ac 1 h rfl λf h=>rs ac 2 h rfl λf h=>lc 0 ((hr i hkl).keep s.ext) h s aA6 im rfl rfl rfl (kp _) (by unfold maxLen;omega) (by omega) rfl λf w1 v33 h s=>ap ac 1 h rfl λf h=>aE (aW (aG (aC (ak h (bB (h.ev rfl) (h.ev rfl) (by omega)) rfl λf h=>e9 ac 1 h rfl λf h=>?_))))
   exact ⟨_,by omega,⟨i+1,v33,h.only ⟨rfl,rfl,rfl,rfl,aw rfl (by omega),trivial⟩,St.as s ⟨vP (t8 ls i (by omega)) (BV ls i (by omega)),trivial⟩,rfl,by omega⟩⟩
  ·refine au5 (aT (aT (bS (aG (bD ac 2 h rfl λf h=>au3 (aA rfl h s rfl (zw (by omega) (s.getSl 0 rfl))))))))
theorem Bp (a9:Option Addr) (n9 c9:Nat) (B9:List Own) (w0 w:World) (s:St w0 B9 w):Calls Tryz.prog 206 [.slice a9 n9 c9].toArray w (λe w9=>∃ r,e=.returned r/\∃ bv,r=.func (.func 243) #[] #[.pointer (some ⟨bv,0,none⟩)]/\St w0 (.blk bv (.cells #[.slice a9 n9 c9] 61)::B9) w9):=by
 refine da Tryz.func206 rfl Tryz.ntmps206 rfl [(0,.slice a9 n9 c9)] (by simp) λf h=>?_
 refine qr (ba (#[.slice a9 n9 c9]) h s rfl rfl rfl λf w1 b1 h s=>e9 ac 1 h rfl λf h=>qr (ak h (de [.pointer (some ⟨b1,0,none⟩)] (lL h rfl)) rfl λf h=>e9 ac 1 h rfl λf h=>au3 (gB rfl h rfl (⟨_,rfl,b1,rfl,s⟩))))
theorem qA (l:List Mb) (vh:Value) (B9:List Own) (w0 w:World) (s:St w0 B9 w) (hR:a7 w vh 33 l.length (aj l)):Calls Tryz.prog 206 [vh].toArray w (λe w9=>∃ r,e=.returned r/\∃ bv,r=.func (.func 243) #[] #[.pointer (some ⟨bv,0,none⟩)]/\St w0 (.blk bv (.cells #[vh] 61)::B9) w9):=by
 obtain ⟨a,c,rfl⟩:=hR.len
 exact Bp a _ c B9 w0 w s
theorem ug (n:Nd) (vs vf:Value) (w:World) (hRs:a7 w vs 33 n.sc.length (aj n.sc)) (hRf:a7 w vf 33 n.fg.length (aj n.fg)) (hns:n.sc.length<=400) (hnf:n.fg.length<=400):Calls Tryz.prog 134 [.agg (aR n.me n.pr vs vf)].toArray w (bW w (λv w9=>∃ bv vk,v=.func (.func 243) #[] #[.pointer (some ⟨bv,0,none⟩)]/\St w [.blk bv (.cells #[vk] 61),.sl vk 60 33 (aO n).length (aj (aO n))] w9)):=by
 refine bG Tryz.func134 rfl Tryz.ntmps134 rfl λf h s=>qr (ba (aR n.me n.pr vs vf) h s rfl rfl rfl λf w1 b1 h s=>e9 ac 1 h rfl λf h=>cw ac 1 h rfl λf h=>ax (aX.subL (aX.of_own s 0 rfl) 33 33 (D:=ar n.pr) (fq _ _ _ _)) h aI rfl (ae _) rfl λf h=>ef (vs:=[.agg (ar n.pr)]) [.tmp 4] h s aA6 im rfl rfl (vy _) rfl rfl rfl λf w1 v5 h s=>?_)
 replace s:=s.resl (m:=[n.pr].length) (ys:=aj [n.pr]) 0 rfl rfl (by rw [lF,gX])
 refine ap ac 1 h rfl λf h=>ai (V:=vs) (ah (aX.of_own s 1 rfl) 66 (iQ _ _ _ _)) h ci rfl rfl λf h=>ap ac 1 h rfl λf h=>ai (V:=vf) (ah (aX.of_own s 1 rfl) 67 (jP _ _ _ _)) h ci rfl rfl λf h=>ef (vs:=[v5,vs,vf]) [.tmp 5,.tmp 7,.tmp 9] h s aB7 Zi rfl rfl (by intro v hv;simp only [ar6,ar9,or_false] at hv;rcases hv with rfl|rfl|rfl;exact pb (a7.of_own (s.getSl 0 rfl));exact pb hRs;exact pb hRf) rfl rfl rfl λf w1 v10 h s=>?_
 replace s:=s.resl (m:=3) (ys:=[v5,vs,vf]) 0 rfl rfl (by simp [k6 (a7.of_own (s.getSl 1 rfl)),k6 hRs,k6 hRf])
 refine bg h s Tf (AZ v10 [v5,vs,vf] [[n.pr],n.sc,n.fg] rfl (by rw [nP];simp only [aq7,at5,at6];omega) (by show 3<=1000;omega) _ (a7.of_own (s.getSl 0 rfl)) (Ib (a7.of_own (s.getSl 1 rfl)) (hRs.keep s.ext) (hRf.keep s.ext))) rfl rfl ?_;intro f w1 v11 hT hE h sq;replace s:=s.sl_new hE (hT.seq (m:=(aO n).length) (ys:=aj (aO n)) (by rw [nP];rfl) (by rw [nP];rfl))
 refine df [v11] h Io (qA (aO n) v11 _ _ _ s (a7.of_own (s.getSl 0 rfl))) rfl rfl ?_;rintro f w1 r ⟨bv,rfl,s⟩ h
 refine e9 ac 1 h rfl λf h=>au3 (aA rfl h s rfl (⟨bv,v11,rfl,(s.sel [0,1] rfl (by decide))⟩))
theorem sV (l:List Mb) (hln:l.length<=1000) (vh:Value) (lp bx:Nat) (q:Nat->Bool) (GG:Nat->Own->Prop) (g0:Own) (w0 w:World) (s:St w0 [.blk bx (.cells #[vh] 61),.sl vh 60 33 l.length (aj l),g0] w) (hg0:GG 0 g0) (hY:∀ (d:Nat) (B9:List Own) (w9:World) (i:Nat) (g:Own),d<l.length->(∀ j,j<d->q j=false)->GG d g->St w0 B9 w9->B9[i]? = some g->i6 Tryz.prog lp [Value.agg (ar (l.getD d aS))].toArray w9 (λv w2=>v=.bool (!q d)/\∃ g',GG (d+1) g'/\St w0 (B9.set i g') w2)):Calls Tryz.prog 243 [.func (.yield lp) #[] #[],.pointer (some ⟨bx,0,none⟩)].toArray w (λe w9=>(∃ v,e=.returned v)/\∃ d g,GG d g/\St w0 ([.blk bx (.cells #[vh] 61),.sl vh 60 33 l.length (aj l)]++[g]) w9/\d<=l.length/\(∀ j,j+1<d->q j=false)/\(lq q d=false->d=l.length)):=by
 refine da Tryz.func243 rfl Tryz.ntmps243 rfl [(0,.func (.yield lp) #[] #[]),(1,.pointer (some ⟨bx,0,none⟩))] (by simp) λf h=>?_
 refine qr (bT 0 h s ci rfl rfl (rfl) rfl λf h=>eF 1 h s aA6 rfl rfl rfl λf h=>e9 ac 1 h rfl λf h=>au4 (au6 (λnn aa ww=>∃ d:Nat,∃ gg:Own,Sl 16 aa [(0,.func (.yield lp) #[] #[]),(1,.pointer (some ⟨bx,0,none⟩)),(5,vh),(6,.int .i64 (l.length:Int)),(7,.int .i64 (d:Int))]/\St w0 [.blk bx (.cells (#[vh]) 61),.sl vh 60 33 l.length (aj l),(gg)] ww/\nn=l.length - d/\d<=l.length/\GG d gg/\∀ j,j<d->q j=false) (l.length - (0)) ⟨0,g0,h.only ⟨rfl,rfl,rfl,rfl,aw rfl (by omega),trivial⟩,s.as ⟨rfl,rfl,rfl,trivial⟩,rfl,as3 _,hg0,λj hj=>ax7 hj (av6 _)⟩ ?_))
 rintro _ f w1 ⟨d,gg,h,s,hnn,hp0,hp1,hp2⟩
 refine bD ac 1 h rfl λf h=>ag (cZ h rfl (λhc=>?_) (λhc=>?_))
 ·refine kt (ag (au4 (qr ?_)))
  have hdl:d<l.length:=by omega
  refine ak h (bj (a7.of_own (s.getSl 1 rfl)) (d) aA6 dd (h.ev rfl) (h.ev rfl) (by omega) (by omega)) rfl λf h=>ax ((a7.of_own (s.getSl 1 rfl)).el (d) (by omega) (by decide) (D:=ar (l.getD d aS)) (dI l d hdl)) h aI rfl (ae _) rfl λf h=>aK (ar aS) h s cQ rfl rfl λf w1 b4 h s=>am 0 h s aI rfl rfl rfl (ae _) (ae _) (aP _) λw1 s=>nt (ag ?_)
  cases hq:(q d:Bool)
  ·refine rs ac 1 h rfl λf h=>al 0 h s aI rfl rfl (ae _) rfl λf h=>eC (V:=.bool true) (G:=GG (d+1)) [.agg (ar (l.getD d aS))] 3 h rfl rfl (by have h9:=hY d _ _ 3 gg hdl hp2 hp1 s rfl;rw [hq] at h9;exact h9) rfl ?_;intro f w1 g1 hg1 h s
   refine e9 ac 1 h rfl λf h=>mx h rfl (wpIn_skip (aW (aG (aC (ak h (bB (h.ev rfl) (h.ev rfl) (by omega)) rfl λf h=>e9 ac 1 h rfl λf h=>?_)))))
   exact ⟨_,by omega,⟨d+1,g1,h.only ⟨rfl,rfl,rfl,rfl,aw rfl (by omega),trivial⟩,St.as (s.pick _ (ar8 [_] _)) ⟨rfl,rfl,rfl,trivial⟩,rfl,by omega,hg1,eM hp2 hq⟩⟩
  ·refine rs ac 1 h rfl λf h=>al 0 h s aI rfl rfl (ae _) rfl λf h=>eC (V:=.bool false) (G:=GG (d+1)) [.agg (ar (l.getD d aS))] 3 h rfl rfl (by have h9:=hY d _ _ 3 gg hdl hp2 hp1 s rfl;rw [hq] at h9;exact h9) rfl ?_;intro f w1 g1 hg1 h s
   refine e9 ac 1 h rfl λf h=>dF h rfl (au3 (aY (aQ (aQ (aY ?_)))))
   exact jo rfl h (⟨⟨_,rfl⟩,d+1,g1,hg1,s.pick _ (as2 _ _),by omega,λj hj=>hp2 j (by omega),λh9=>ax7 (hq.symm.trans h9) (by decide)⟩)
 ·refine au5 (aT (aT (bS ?_)))
  exact dN rfl h (⟨⟨_,rfl⟩,d,gg,hp1,s,hp0,λj hj=>hp2 j (by omega),λ_=>by omega⟩)
theorem gK (L:List N3) (vo:Value) (no:Int) (w:World) (hO:qC w vo L) (hL:L.length<=40):Calls Tryz.prog 135 [.agg #[vo],.int .i64 no].toArray w (bW w (is (CK vo L no))):=by
 refine eh Tryz.func135 rfl Tryz.ntmps135 rfl [(0,.agg #[vo]),(1,.int .i64 no)] (by simp) λf h=>?_
 have s:=St.start w
 refine qr (ba (#[vo]) h s rfl rfl rfl λf w1 b2 h s=>ba (#[.int .i64 no]) h s rfl rfl rfl λf w1 b3 h s=>aK (#[.pointer none]) h s Vp rfl rfl λf w1 b4 h s=>nt (ag (qr (al 2 h s cH rfl rfl (rfl) rfl λf h=>df [.agg #[vo]] h rZ (ja vo _ _ _ s) rfl rfl ?_))));rintro f w1 r ⟨bn,rfl,s⟩ h
 refine nt (au4 (eg (λd A9=>A9=[.blk b4 (.cells #[Xp vo (qL L no) d] 97),.blk b3 (.cells #[.int .i64 no] 3),.blk b2 (.cells #[vo] 24)]) [.blk b4 (.cells #[.pointer none] 97),.blk b3 (.cells #[.int .i64 no] 3),.blk b2 (.cells #[vo] 24)] [.blk bn (.cells #[vo] 24)] (L.length) (qL L no) (λd=>[Value.pointer (some (bf vo (d*68)))]) h s rfl sA (List.Perm.refl _) (rfl) (λ_=>rfl) ?_ ?_ ?_ ?_))
 ·intro lp w2 GG g0 hg0 s2 hY;exact gI L.length (by omega) vo _ _ hO.1 lp bn (qL L no) GG g0 w w2 s2 hg0 hY
 ·intro lp D9 d9 rc R9 A9 w2 hd9 hq9 hJ9 s
  obtain rfl:=hJ9
  have h:=Sl.round1 (p:=8) (V:=.pointer (some (bf vo (d9*68)))) h rfl
  have hdl9:=hd9
  refine re ac 1 h rfl λf h=>⟨_,s,λw3 s=>?_⟩
  refine au4 (ag ?_)
  refine cK 7 h (by kernel_rfl) (aD ac 2 h rfl λf h=>aF h (a6 gn (h.ev rfl) ((hO.1.keep s.ext).some (by omega))) rfl λf h=>aF h (a6 gS (h.ev rfl) ((hO.1.keep s.ext).some (by omega))) rfl λf h=>bw (V:=.int .i64 (L.getD d9 z3).1.me.1) (dt (hO.1.keep s.ext) (d9*68+0) (DN L d9 hdl9)) h bQ rfl rfl λf h=>fk 3 h s bQ rfl rfl (rfl) rfl λf h=>HM ac (qL L no d9) h rfl (rfl) (λhq f h=>?_) (λhq f h=>?_))
  ·refine bF s λw1 s=>tS h rfl (wpIn_skip (aW ?_))
   replace s:=s.recell (D:=#[Xp vo (qL L no) (d9+1)]) 2 rfl (by rw [On hq9];show _=#[bif qL L no d9 then _ else _];rw [hq];rfl)
   refine ⟨by first|exact hq|rfl,_,rfl,s.pick _ ?_⟩
   exact ap7 _ (List.Sublist.refl _)
  ·refine bF s λw1 s=>iz h rfl (cw ac 1 h rfl λf h=>aB 2 h s DL rfl rfl rfl (by simp) (rfl) λw1 s=>nt (au3 (aY ?_)))
   replace s:=s.recell (D:=#[Xp vo (qL L no) (d9+1)]) 2 rfl (by show _=#[bif qL L no d9 then _ else _];rw [hq];rfl)
   refine ⟨by first|exact hq|rfl,_,rfl,s.pick _ ?_⟩
   exact ap7 _ (List.Sublist.refl _)
 ·intro D9 A9 w2 hJ9 hq9 s
  obtain rfl:=hJ9
  replace h:Sl _ {f with defers:={target:=.collected D9,args:=#[]}::f.defers} _ [{target:=.collected D9,args:=#[]}]:=⟨h.size,by rw [h.defers],h.holds⟩
  refine aW (aG (qr (aB 2 h s DL rfl rfl rfl (by simp) (rfl) λw1 s=>nt (au3 ?_))))
  exact fT 2 0 rfl h s DL rfl rfl rfl rfl rfl (λw9=>(Zn hq9).symm)
 ·intro D9 d9 A9 w2 hd9 hqd9 hq9 hJ9 s
  obtain rfl:=hJ9
  replace h:Sl _ {f with defers:={target:=.collected D9,args:=#[]}::f.defers} _ [{target:=.collected D9,args:=#[]}]:=⟨h.size,by rw [h.defers],h.holds⟩
  refine aY (aQ ?_)
  exact fT 2 0 rfl h s DL rfl rfl rfl rfl rfl (λw9=>WT hd9 hq9 hqd9)
theorem wg (n:Nd) (vs vf:Value) (L:List N3) (vo:Value) (w:World) (hRs:a7 w vs 33 n.sc.length (aj n.sc)) (hRf:a7 w vf 33 n.fg.length (aj n.fg)) (hns:n.sc.length<=400) (hnf:n.fg.length<=400) (hO:qC w vo L) (hL:L.length<=40):Calls Tryz.prog 80 [.agg (aR n.me n.pr vs vf),.agg #[vo]].toArray w (bW w (is (.bool !((aO n).any (nW L))))):=by
 have hkl9:(aO n).length<=1000:=by simp only [aO,aq7,at5];omega
 refine eh Tryz.func80 rfl Tryz.ntmps80 rfl [(0,.agg (aR n.me n.pr vs vf)),(1,.agg #[vo])] (by simp) λf h=>?_
 have s:=St.start w
 refine qr (ba (aR n.me n.pr vs vf) h s rfl rfl rfl λf w1 b2 h s=>ba (#[vo]) h s rfl rfl rfl λf w1 b3 h s=>aK (#[.bool false]) h s zD rfl rfl λf w1 b4 h s=>nt (ag (qr (al 2 h s bI rfl rfl (ao _ _ _ _) rfl λf h=>bg h s IK (ug n vs vf _ (hRs.keep s.ext) (hRf.keep s.ext) (by omega) (by omega)) rfl rfl ?_))));rintro f w1 r9 ⟨bv,vk,rfl,hS⟩ hE h sq;replace s:=s.add hS;clear hS
 refine nt (au4 (eg (λd A9=>A9=[.blk b4 (.cells #[.bool false] 4),.blk b3 (.cells #[vo] 24),.blk b2 (.cells (aR n.me n.pr vs vf) 63)]) [.blk b4 (.cells #[.bool false] 4),.blk b3 (.cells #[vo] 24),.blk b2 (.cells (aR n.me n.pr vs vf) 63)] [.blk bv (.cells #[vk] 61),.sl vk 60 33 (aO n).length (aj (aO n))] ((aO n).length) (ZL n L) (λd=>[Value.agg (ar ((aO n).getD d aS))]) h s rfl Bk (List.Perm.refl _) (rfl) (λ_=>rfl) ?_ ?_ ?_ ?_))
 ·intro lp w2 GG g0 hg0 s2 hY;exact sV (aO n) hkl9 vk lp bv (ZL n L) GG g0 w w2 s2 hg0 hY
 ·intro lp D9 d9 rc R9 A9 w2 hd9 hq9 hJ9 s
  obtain rfl:=hJ9
  have h:=Sl.round1 (p:=9) (V:=.agg (ar ((aO n).getD d9 aS))) h rfl
  have hdl9:=hd9
  refine aC (aK (ar aS) h s cQ rfl rfl λf w1 b5 h s=>am 0 h s aI rfl rfl rfl (ae _) (ae _) (aP _) λw1 s=>nt (⟨_,s.perm (ax2 (l₁:=[_])),λw3 s=>?_⟩))
  refine au4 (ag ?_)
  cases p0:(decide (il L ((aO n).getD d9 aS).1<L.length):Bool)
  ·refine aC (al 4 h s cH rfl rfl (rfl) rfl λf h=>ap ac 1 h rfl λf h=>ai (ah (aX.of_own s 1 rfl) 0 (bH _)) h bQ rfl rfl λf h=>fP h s ny (bK (.pointer none) (gK L vo ((aO n).getD d9 aS).1 _ (hO.keep s.ext) hL) (DX (aq0 p0))) rfl rfl λf w1 h s=>e9 ac 1 h rfl λf h=>ag (cK 10 h (by kernel_rfl) (aD ac 1 h rfl λf h=>aF h (bk (.bool false) (fv aB0 (h.ev rfl) (h.ev rfl)) (rfl)) rfl λf h=>aD ac 8 h rfl λf h=>bF s λw1 s=>tS h rfl (wpIn_skip (aW (⟨(Z0 p0),_,rfl,s.pick _ ?_⟩))))))
   exact ap7 _ (ap8 _ (List.Sublist.refl _))
  ·refine aC (al 4 h s cH rfl rfl (rfl) rfl λf h=>ap ac 1 h rfl λf h=>ai (ah (aX.of_own s 1 rfl) 0 (bH _)) h bQ rfl rfl λf h=>fP h s ny (bK (.pointer (some (bf vo (il L ((aO n).getD d9 aS).1*68)))) (gK L vo ((aO n).getD d9 aS).1 _ (hO.keep s.ext) hL) (yT (ap9 p0))) rfl rfl λf w1 h s=>e9 ac 1 h rfl λf h=>ag ?_)
   cases p1:(decide ((L.getD (il L ((aO n).getD d9 aS).1) z3).1.me=((aO n).getD d9 aS)):Bool)
   ·refine cK 10 h (by kernel_rfl) ?_
    have hp9:=ap9 p0
    refine aD ac 1 h rfl λf h=>aF h (bk (.bool true) (fv aB0 (h.ev rfl) (h.ev rfl)) (rfl)) rfl λf h=>aD ac 3 h rfl λf h=>cj h rfl (aF h (a6 gn (h.ev rfl) ((hO.1.keep s.ext).some (by omega))) rfl λf h=>cj h rfl (aU (a7.elF (hO.1.keep s.ext) (il L ((aO n).getD d9 aS).1) 0 33 (by omega) (by decide) (C:=aR (L.getD (il L ((aO n).getD d9 aS).1) z3).1.me (L.getD (il L ((aO n).getD d9 aS).1) z3).1.pr (L.getD (il L ((aO n).getD d9 aS).1) z3).2.1 (L.getD (il L ((aO n).getD d9 aS).1) z3).2.2) (eZ L _ hp9) (D:=ar (L.getD (il L ((aO n).getD d9 aS).1) z3).1.me) (dx _ _ _ _)) h aI rfl (ae _) rfl λf h=>cj h rfl (aH 1 h s aI rfl rfl (ae _) rfl λf h=>cj h rfl (aF h (bk (.bool true) (kj (Bb _ _) (by kernel_rfl) (by decide) (h.ev rfl) (h.ev rfl) (decide ((L.getD (il L ((aO n).getD d9 aS).1) z3).1.me=((aO n).getD d9 aS))) (mm _ _)) (by rw [p1];rfl)) rfl λf h=>aD ac 1 h rfl λf h=>bF s λw1 s=>iz h rfl (qr (aB 3 h s ez rfl rfl rfl (by simp) (rfl) λw1 s=>nt (au3 (aY (⟨((Yp p0).trans (by rw [p1];rfl)),_,rfl,s.pick _ ?_⟩)))))))))
    exact ap7 _ (ap8 _ (List.Sublist.refl _))
   ·refine cK 10 h (by kernel_rfl) ?_
    have hp9:=ap9 p0
    refine aD ac 1 h rfl λf h=>aF h (bk (.bool true) (fv aB0 (h.ev rfl) (h.ev rfl)) (rfl)) rfl λf h=>aD ac 3 h rfl λf h=>cj h rfl (aF h (a6 gn (h.ev rfl) ((hO.1.keep s.ext).some (by omega))) rfl λf h=>cj h rfl (aU (a7.elF (hO.1.keep s.ext) (il L ((aO n).getD d9 aS).1) 0 33 (by omega) (by decide) (C:=aR (L.getD (il L ((aO n).getD d9 aS).1) z3).1.me (L.getD (il L ((aO n).getD d9 aS).1) z3).1.pr (L.getD (il L ((aO n).getD d9 aS).1) z3).2.1 (L.getD (il L ((aO n).getD d9 aS).1) z3).2.2) (eZ L _ hp9) (D:=ar (L.getD (il L ((aO n).getD d9 aS).1) z3).1.me) (dx _ _ _ _)) h aI rfl (ae _) rfl λf h=>cj h rfl (aH 1 h s aI rfl rfl (ae _) rfl λf h=>cj h rfl (aF h (bk (.bool false) (kj (Bb _ _) (by kernel_rfl) (by decide) (h.ev rfl) (h.ev rfl) (decide ((L.getD (il L ((aO n).getD d9 aS).1) z3).1.me=((aO n).getD d9 aS))) (mm _ _)) (by rw [p1];rfl)) rfl λf h=>aD ac 1 h rfl λf h=>bF s λw1 s=>tS h rfl (wpIn_skip (aW (⟨((Yp p0).trans (by rw [p1];rfl)),_,rfl,s.pick _ ?_⟩)))))))
    exact ap7 _ (ap8 _ (List.Sublist.refl _))
 ·intro D9 A9 w2 hJ9 hq9 s
  obtain rfl:=hJ9
  replace h:Sl _ {f with defers:={target:=.collected D9,args:=#[]}::f.defers} _ [{target:=.collected D9,args:=#[]}]:=⟨h.size,by rw [h.defers],h.holds⟩
  refine aW (aG (qr (aB 3 h s ez rfl rfl rfl (by simp) (rfl) λw1 s=>nt (au3 ?_))))
  exact fT 3 0 rfl h s ez rfl rfl rfl rfl rfl (λw9=>by show _=_;rw [OE hq9];rfl)
 ·intro D9 d9 A9 w2 hd9 hqd9 hq9 hJ9 s
  obtain rfl:=hJ9
  replace h:Sl _ {f with defers:={target:=.collected D9,args:=#[]}::f.defers} _ [{target:=.collected D9,args:=#[]}]:=⟨h.size,by rw [h.defers],h.holds⟩
  refine aY (aQ ?_)
  exact fT 3 0 rfl h s ez rfl rfl rfl rfl rfl (λw9=>by show _=_;rw [Nn hd9 hqd9];rfl)
theorem u5 (x:Int) (w:World):Calls Tryz.prog 209 [.int .u8 x].toArray w (bW w (is (.bool false))):=by
 refine bG Tryz.func209 rfl Tryz.ntmps209 rfl λf h s=>bD ac 1 h rfl λf h=>cw ac 2 h rfl λf h=>ol ac (.bool false) h rfl (by simp) rfl λf h=>e9 ac 1 h rfl λf h=>au3 (aA rfl h s rfl (rfl))
theorem IX (x y:Int) (w:World):Calls Tryz.prog 141 [.int .u8 x,.int .u8 y].toArray w (bW w (is (.int .i64 (dE x y)))):=by
 refine bG Tryz.func141 rfl Tryz.ntmps141 rfl λf h s=>bD ac 1 h rfl λf h=>cw ac 1 h rfl λf h=>fP h s JM (u5 _ _) rfl rfl λf w1 h s=>e9 ac 1 h rfl λf h=>cw ac 1 h rfl λf h=>fP h s JM (u5 _ _) rfl rfl λf w1 h s=>e9 ac 1 h rfl λf h=>ag (bD ac 1 h rfl λf h=>ry h rfl (ag (bD ac 1 h rfl λf h=>ry h rfl (ag (bD ac 3 h rfl λf h=>cT h rfl (λhc=>?_) (λhc=>?_))))))
 ·have hc:=ap9 hc
  refine bD ac 1 h rfl λf h=>rt (aA rfl h s rfl (by show _=_;unfold dE;rw [if_pos hc]))
 ·have hc1:=aq0 hc
  refine kt (ag (bD ac 3 h rfl λf h=>cZ h rfl (λhc=>?_) (λhc=>?_)))
  ·refine bD ac 1 h rfl λf h=>rt (aA rfl h s rfl (by show _=_;unfold dE;rw [if_neg (by omega),if_pos hc]))
  ·refine kt (bD ac 1 h rfl λf h=>au3 (aA rfl h s rfl (by show _=_;unfold dE;rw [if_neg (by omega),if_neg (by omega)])))
theorem u4  (w:World):Calls Tryz.prog 82 [].toArray w (bW w (is (.agg (ar fj)))):=by
 refine bG Tryz.func82 rfl Tryz.ntmps82 rfl λf h s=>qr (aK (ar aS) h s cQ rfl rfl λf w1 b0 h s=>nt (qr (ak h (oO sO rfl) rfl λf h=>am 0 h s aI rfl rfl rfl (ae _) (ae _) (aP _) λw1 s=>nt (au3 (g7 0 rfl h s aI rfl rfl (ae _) (rfl))))))
theorem GO (l:List Mb) (hln:l.length<=1000) (vh:Value) (lp bx:Nat) (q:Nat->Bool) (GG:Nat->Own->Prop) (g0:Own) (w0 w:World) (s:St w0 [g0] w) (hb:jA w0 bx #[vh]) (hg0:GG 0 g0) (hR:a7 w0 vh 33 l.length (aj l)) (hY:∀ (d:Nat) (B9:List Own) (w9:World) (i:Nat) (g:Own),d<l.length->(∀ j,j<d->q j=false)->GG d g->St w0 B9 w9->B9[i]? = some g->i6 Tryz.prog lp [Value.agg (ar (l.getD d aS))].toArray w9 (λv w2=>v=.bool (!q d)/\∃ g',GG (d+1) g'/\St w0 (B9.set i g') w2)):Calls Tryz.prog 243 [.func (.yield lp) #[] #[],.pointer (some ⟨bx,0,none⟩)].toArray w (λe w9=>(∃ v,e=.returned v)/\∃ d g,GG d g/\St w0 ([]++[g]) w9/\d<=l.length/\(∀ j,j+1<d->q j=false)/\(lq q d=false->d=l.length)):=by
 refine da Tryz.func243 rfl Tryz.ntmps243 rfl [(0,.func (.yield lp) #[] #[]),(1,.pointer (some ⟨bx,0,none⟩))] (by simp) λf h=>?_
 refine qr (ai (V:=vh) (ah (aX.of_tab (hb.keep s.ext)) 0 (rfl)) h ci rfl rfl λf h=>cb h (hR.keep s.ext) aA6 rfl rfl λf h=>e9 ac 1 h rfl λf h=>au4 (au6 (λnn aa ww=>∃ d:Nat,∃ gg:Own,Sl 16 aa [(0,.func (.yield lp) #[] #[]),(5,vh),(6,.int .i64 (l.length:Int)),(7,.int .i64 (d:Int))]/\St w0 [(gg)] ww/\nn=l.length - d/\d<=l.length/\GG d gg/\∀ j,j<d->q j=false) (l.length - (0)) ⟨0,g0,h.only ⟨rfl,rfl,rfl,aw rfl (by omega),trivial⟩,s.as ⟨rfl,trivial⟩,rfl,as3 _,hg0,λj hj=>ax7 hj (av6 _)⟩ ?_))
 rintro _ f w1 ⟨d,gg,h,s,hnn,hp0,hp1,hp2⟩
 refine bD ac 1 h rfl λf h=>ag (cZ h rfl (λhc=>?_) (λhc=>?_))
 ·refine kt (ag (au4 (qr ?_)))
  have hdl:d<l.length:=by omega
  refine ak h (bj (hR.keep s.ext) (d) aA6 dd (h.ev rfl) (h.ev rfl) (by omega) (by omega)) rfl λf h=>ax ((hR.keep s.ext).el (d) (by omega) (by decide) (D:=ar (l.getD d aS)) (dI l d hdl)) h aI rfl (ae _) rfl λf h=>aK (ar aS) h s cQ rfl rfl λf w1 b4 h s=>am 0 h s aI rfl rfl rfl (ae _) (ae _) (aP _) λw1 s=>nt (ag ?_)
  cases hq:(q d:Bool)
  ·refine rs ac 1 h rfl λf h=>al 0 h s aI rfl rfl (ae _) rfl λf h=>eC (V:=.bool true) (G:=GG (d+1)) [.agg (ar (l.getD d aS))] 1 h rfl rfl (by have h9:=hY d _ _ 1 gg hdl hp2 hp1 s rfl;rw [hq] at h9;exact h9) rfl ?_;intro f w1 g1 hg1 h s
   refine e9 ac 1 h rfl λf h=>mx h rfl (wpIn_skip (aW (aG (aC (ak h (bB (h.ev rfl) (h.ev rfl) (by omega)) rfl λf h=>e9 ac 1 h rfl λf h=>?_)))))
   exact ⟨_,by omega,⟨d+1,g1,h.only ⟨rfl,rfl,rfl,aw rfl (by omega),trivial⟩,St.as (s.pick _ (ar8 [_] _)) ⟨rfl,trivial⟩,rfl,by omega,hg1,eM hp2 hq⟩⟩
  ·refine rs ac 1 h rfl λf h=>al 0 h s aI rfl rfl (ae _) rfl λf h=>eC (V:=.bool false) (G:=GG (d+1)) [.agg (ar (l.getD d aS))] 1 h rfl rfl (by have h9:=hY d _ _ 1 gg hdl hp2 hp1 s rfl;rw [hq] at h9;exact h9) rfl ?_;intro f w1 g1 hg1 h s
   refine e9 ac 1 h rfl λf h=>dF h rfl (au3 (aY (aQ (aQ (aY ?_)))))
   exact jo rfl h (⟨⟨_,rfl⟩,d+1,g1,hg1,s.pick _ (as2 _ _),by omega,λj hj=>hp2 j (by omega),λh9=>ax7 (hq.symm.trans h9) (by decide)⟩)
 ·refine au5 (aT (aT (bS ?_)))
  exact dN rfl h (⟨⟨_,rfl⟩,d,gg,hp1,s,hp0,λj hj=>hp2 j (by omega),λ_=>by omega⟩)
theorem BG (l:List Mb) (vh:Value) (bx:Nat) (w:World) (hR:a7 w vh 33 l.length (aj l)) (hln:l.length<=1000) (hb:jA w bx #[vh]):Calls Tryz.prog 300 [(.slice none 0 0),.func (.func 243) #[] #[.pointer (some ⟨bx,0,none⟩)]].toArray w (bW w (λv w'=>cd w' w.heap.size 60 33 v l.length (aj l))):=by
 refine eh Tryz.func300 rfl Tryz.ntmps300 rfl [(0,(.slice none 0 0)),(1,.func (.func 243) #[] #[.pointer (some ⟨bx,0,none⟩)])] (by simp) λf h=>?_
 have s:=St.start w
 refine qr (ba (#[(.slice none 0 0)]) h s rfl rfl rfl λf w1 b2 h s=>?_)
 replace s:=s.nilSl 60 33
 refine e9 ac 1 h rfl λf h=>ag (bD ac 1 h rfl λf h=>au4 (eg (λd A9=>∃ v8:Value,A9=[.sl v8 60 33 (l.take d).length (aj (l.take d)),.blk b2 (.cells #[v8] 61)]) [.sl (.slice none 0 0) 60 33 0 [],.blk b2 (.cells #[(.slice none 0 0)] 61)] [] (l.length) (λ_=>false) (λd=>[Value.agg (ar (l.getD d aS))]) h s rfl Bk (List.Perm.refl _) (⟨_,rfl⟩) (λ_=>rfl) ?_ ?_ ?_ ?_))
 ·intro lp w2 GG g0 hg0 s2 hY;exact GO l hln vh lp bx (λ_=>false) GG g0 w w2 s2 hb hg0 hR hY
 ·intro lp D9 d9 rc R9 A9 w2 hd9 hq9 hJ9 s
  obtain ⟨v8,rfl⟩:=hJ9
  have h:=Sl.round1 (p:=7) (V:=.agg (ar (l.getD d9 aS))) h rfl
  refine aC (aK (ar aS) h s cQ rfl rfl λf w1 b5 h s=>am 0 h s aI rfl rfl rfl (ae _) (ae _) (aP _) λw1 s=>nt (⟨_,s.perm (ax2 (l₁:=[_])),λw3 s=>?_⟩))
  refine au4 (aC (bT 4 h s ci rfl rfl (rfl) rfl λf h=>al 1 h s aI rfl rfl (ae _) rfl λf h=>ef (vs:=[.agg (ar (l.getD d9 aS))]) [.tmp 9] h s aA6 im rfl rfl (vy _) rfl rfl rfl λf w1 v10 h s=>jS 4 0 h s aA6 im rfl rfl rfl rfl (by decide) (by rw [lF];exact aP _) (by rw [au0];unfold maxLen;omega) (by rw [au0];omega) rfl λf w1 v11 h s=>?_))
  replace s:=s.pick _ (as2 _ _)
  refine aB 4 h s ci rfl rfl rfl (by simp) (aZ (s.getSl 3 rfl)) λw1 s=>aE (aW ?_)
  replace s:=s.resl (m:=(l.take (d9+1)).length) (ys:=aj (l.take (d9+1))) 3 rfl (by rw [qO hd9,aq7];rfl) (by rw [qO hd9,lF,yq])
  refine ⟨rfl,_,⟨v11,rfl⟩,s.pick _ ?_⟩
  exact ap7 _ (ap8 _ (List.Sublist.refl _))
 ·intro D9 A9 w2 hJ9 hq9 s
  obtain ⟨v8,rfl⟩:=hJ9
  replace h:Sl _ {f with defers:={target:=.collected D9,args:=#[]}::f.defers} _ [{target:=.collected D9,args:=#[]}]:=⟨h.size,by rw [h.defers],h.holds⟩
  rw [List.take_length] at s
  refine aW (aG (qr (bT 2 h s ci rfl rfl (rfl) rfl λf h=>?_)))
  replace s:=s.nilSl 60 33
  refine e9 ac 1 h rfl λf h=>au3 ?_
  exact tU 1 rfl h s rfl rfl (λw9 s9=>s9.getSl 2 rfl)
 ·intro D9 d9 A9 w2 hd9 hqd9 hq9 hJ9 s
  cases hqd9
theorem AH (l:List Mb) (vh:Value) (bx:Nat) (w:World) (hR:a7 w vh 33 l.length (aj l)) (hln:l.length<=1000) (hb:jA w bx #[vh]):Calls Tryz.prog 245 [.func (.func 243) #[] #[.pointer (some ⟨bx,0,none⟩)]].toArray w (bW w (λv w'=>cd w' w.heap.size 60 33 v l.length (aj l))):=by
 refine bG Tryz.func245 rfl Tryz.ntmps245 rfl λf h s=>bD ac 1 h rfl λf h=>cw ac 1 h rfl λf h=>bg h s VJ (BG l vh bx _ (hR.keep s.ext) hln (hb.keep s.ext)) rfl rfl ?_;intro f w1 v4 hT hE h sq;replace s:=s.sl_new hE hT
 refine e9 ac 1 h rfl λf h=>au3 (aA rfl h s rfl ((s.getSl 0 rfl)))
theorem uM (l r:List Mb) (vh vu:Value) (w:World) (hR:a7 w vh 33 l.length (aj l)) (hS:a7 w vu 33 r.length (aj r)) (hln:l.length<=1000) (hln2:r.length<=1000):Calls Tryz.prog 35 [vh,vu].toArray w (bW w (is (.bool (decide (l=r))))):=by
 refine bG Tryz.func35 rfl Tryz.ntmps35 rfl λf h s=>bD ac 1 h rfl λf h=>ag (cw ac 1 h rfl λf h=>cb h (hR.keep s.ext) aA6 rfl rfl λf h=>ap ac 1 h rfl λf h=>cb h (hS.keep s.ext) aA6 rfl rfl λf h=>e9 ac 1 h rfl λf h=>cT h rfl (λhc=>?_) (λhc=>?_))
 ·replace hc:=hc
  refine bD ac 1 h rfl λf h=>rt (aA rfl h s rfl ((by show _=_;rw [aq1 (λe=>by subst e;simp at hc)])))
 ·have hl9:l.length=r.length:=by have:=hc;simp at this;omega
  refine kt (ag (cw ac 1 h rfl λf h=>cb h (hR.keep s.ext) aA6 rfl rfl λf h=>e9 ac 1 h rfl λf h=>au4 (au6 (λnn aa ww=>∃ k:Nat,Sl 26 aa [(0,vh),(1,vu),(12,.int .i64 (l.length:Int)),(13,.int .i64 (k:Int))]/\St w [] ww/\nn=l.length - k/\k<=l.length/\∀ j,j<k->l.getD j aS=r.getD j aS) (l.length - (0)) ⟨0,h.only ⟨rfl,rfl,rfl,aw rfl (by omega),trivial⟩,s.as trivial,rfl,as3 _,λj hj=>ax7 hj (av6 _)⟩ ?_)))
  rintro _ f w1 ⟨k,h,s,hnn,hp0,hp1⟩
  refine bD ac 1 h rfl λf h=>ag (cZ h rfl (λhc=>?_) (λhc=>?_))
  ·refine kt (ag (au4 (bD ac 2 h rfl λf h=>ag (cK 9 h (by kernel_rfl) ?_))))
   have hka:k<l.length:=by omega
   have hkb:k<r.length:=by omega
   refine aD ac 2 h rfl λf h=>aF h (bj (hR.keep s.ext) (k) aA6 dd (h.ev rfl) (h.ev rfl) (by omega) (by omega)) rfl λf h=>aU ((hR.keep s.ext).el (k) (by omega) (by decide) (D:=ar (l.getD k aS)) (dI l k hka)) h aI rfl (ae _) rfl λf h=>aD ac 2 h rfl λf h=>aF h (bj (hS.keep s.ext) (k) aA6 dd (h.ev rfl) (h.ev rfl) (by omega) (by omega)) rfl λf h=>aU ((hS.keep s.ext).el (k) (by omega) (by decide) (D:=ar (r.getD k aS)) (dI r k hkb)) h aI rfl (ae _) rfl λf h=>aF h (kj (Bb _ _) (by kernel_rfl) (by decide) (h.ev rfl) (h.ev rfl) (decide ((l.getD k aS)=r.getD k aS)) (mm _ _)) rfl λf h=>bF s λw1 s=>nt (cT h rfl (λhc=>?_) (λhc=>?_))
   ·refine bD ac 1 h rfl λf h=>au3 (aY (aQ (aQ (aY (aQ (aA rfl h s rfl ((by show _=_;rw [aq1 (λe=>by subst e;simp at hc)]))))))))
   ·refine wpIn_skip (aW (aG (aC (ak h (bB (h.ev rfl) (h.ev rfl) (by omega)) rfl λf h=>e9 ac 1 h rfl λf h=>?_))))
    exact ⟨_,by omega,⟨k+1,h.only ⟨rfl,rfl,rfl,aw rfl (by omega),trivial⟩,St.as s trivial,rfl,by omega,Hc hp1 (by simpa using hc)⟩⟩
  ·refine au5 (aT (aT (bS (aG (bD ac 1 h rfl λf h=>au3 (aA rfl h s rfl ((by show _=_;rw [aq2 (Qk hl9 (λj hj=>hp1 j (by omega)))]))))))))
theorem GY (L:List N3) (hL:L.length<=1000) (a9:Option Addr) (n9 c9:Nat) (w:World) (hR:a7 w (.slice a9 n9 c9) 68 L.length (au L)) (ho:∀ x∈L,CW w x):Calls Tryz.prog 62 [.slice a9 n9 c9].toArray w (bW w (λv w'=>cd w' w.heap.size 63 68 v L.length (au L))):=by
 refine bG Tryz.func62 rfl Tryz.ntmps62 rfl λf h s=>bD ac 1 h rfl λf h=>ag (ag ?_)
 cases hn:(a9.isNone:Bool)
 ·refine rs ac 1 h rfl λf h=>ak h (bk (.bool false) (bZ aA1 (h.ev rfl) (h.ev rfl)) (aq3 Value.bool hn)) rfl λf h=>iA h rfl (qr (fC (base:=w.heap.size) h aA1 Rq (as1 _) rfl λf w2 v5 h hE3 e5=>ap ac 1 h rfl λf h=>dL (base:=w.heap.size) e5 (hR.keep hE3) h aA1 Rq rfl rfl hE3.le (wh ho) (by unfold maxLen;omega) (by omega) rfl λf w3 v7 h hE4 e7=>?_))
  replace s:=s.sl_new (hE3.trans hE4) e7
  refine e9 ac 1 h rfl λf h=>au3 (aA rfl h s rfl (s.getSl 0 rfl))
 ·refine rs ac 1 h rfl λf h=>ak h (bk (.bool true) (bZ aA1 (h.ev rfl) (h.ev rfl)) (aq3 Value.bool hn)) rfl λf h=>iz h rfl (bD ac 1 h rfl λf h=>rt (aA rfl h s rfl (by obtain rfl:=Cc hn hR;exact dT _ _ _ _)))
theorem sF (L:List N3) (hL:L.length<=1000) (v9:Value) (w:World) (hR:a7 w v9 68 L.length (au L)) (ho:∀ x∈L,CW w x):Calls Tryz.prog 62 [v9].toArray w (bW w (λv w'=>cd w' w.heap.size 63 68 v L.length (au L))):=by
 obtain ⟨a,c,rfl⟩:=hR.len
 exact GY L hL a _ c w hR ho
theorem Gg (l:List Mb) (hln:l.length<=1000) (a9:Option Addr) (n9 c9:Nat) (w:World) (hR:a7 w (.slice a9 n9 c9) 33 l.length (aj l)):Calls Tryz.prog 63 [.slice a9 n9 c9].toArray w (bW w (λv w'=>cd w' w.heap.size 60 33 v l.length (aj l))):=by
 refine bG Tryz.func63 rfl Tryz.ntmps63 rfl λf h s=>bD ac 1 h rfl λf h=>ag (ag ?_)
 cases hn:(a9.isNone:Bool)
 ·refine rs ac 1 h rfl λf h=>ak h (bk (.bool false) (bZ aA6 (h.ev rfl) (h.ev rfl)) (aq3 Value.bool hn)) rfl λf h=>iA h rfl (qr (fC (base:=w.heap.size) h aA6 im (as1 _) rfl λf w2 v5 h hE3 e5=>ap ac 1 h rfl λf h=>dL (base:=w.heap.size) e5 (hR.keep hE3) h aA6 im rfl rfl hE3.le (kp _) (by unfold maxLen;omega) (by omega) rfl λf w3 v7 h hE4 e7=>?_))
  replace s:=s.sl_new (hE3.trans hE4) e7
  refine e9 ac 1 h rfl λf h=>au3 (aA rfl h s rfl (s.getSl 0 rfl))
 ·refine rs ac 1 h rfl λf h=>ak h (bk (.bool true) (bZ aA6 (h.ev rfl) (h.ev rfl)) (aq3 Value.bool hn)) rfl λf h=>iz h rfl (bD ac 1 h rfl λf h=>rt (aA rfl h s rfl (by obtain rfl:=Bv hn hR;exact dT _ _ _ _)))
theorem gJ (l:List Mb) (hln:l.length<=1000) (v9:Value) (w:World) (hR:a7 w v9 33 l.length (aj l)):Calls Tryz.prog 63 [v9].toArray w (bW w (λv w'=>cd w' w.heap.size 60 33 v l.length (aj l))):=by
 obtain ⟨a,c,rfl⟩:=hR.len
 exact Gg l hln a _ c w hR
set_option maxHeartbeats 1000000 in
theorem yH (L:List N3) (vo:Value) (w:World) (hO:qC w vo L) (hL:L.length<=40) (hb:RwB L):Calls Tryz.prog 148 [.agg #[vo]].toArray w (bW w (CpP w 63 (nds L))):=by
 refine eh Tryz.func148 rfl Tryz.ntmps148 rfl [(0,.agg #[vo])] (by simp) λf h=>?_
 have s:=St.start w
 refine qr (ba (#[vo]) h s rfl rfl rfl λf w1 b1 h s=>aK (#[aq]) h s CV rfl rfl λf w1 b2 h s=>nt (cw ac 1 h rfl λf h=>ai (V:=vo) (ah (aX.of_own s 1 rfl) 0 rfl) h iW rfl rfl λf h=>bg h s RP (sF L (by omega) vo _ (hO.1.keep s.ext) (λx hx=>(hO.2 x hx).keep s.ext)) rfl rfl ?_));intro f w1 v6 hT hE h sq;replace s:=s.sl_new hE hT
 refine ap ac 1 h rfl λf h=>aB 2 h s iW rfl rfl rfl (by show 0<1;decide) (aZ (s.getSl 0 rfl)) λw1 s=>?_
 replace s:=s.recell (D:=#[v6]) 2 rfl rfl
 refine nt (ag (qr ?_))
 replace s:=s.grp0 (S:=eI (L.take 0)) (λ_ x hx=>by simp at hx)
 refine al 3 h s cH rfl rfl (rfl) rfl λf h=>df [.agg #[v6]] h rZ (ja v6 _ _ _ s) rfl rfl ?_;rintro f w1 r ⟨bn,rfl,s⟩ h
 refine nt (au4 (eg (λd A9=>∃ (Kd:List N3) (kd:List Nat),(nds Kd=nds L/\∀ j,d<=j->Kd.getD j z3=L.getD j z3)/\A9=[.grp kd (eI (Kd.take d)),.sl v6 63 68 Kd.length (au Kd),.blk b2 (.cells (#[aq]) 24),.blk b1 (.cells #[v6] 24)]) [.grp [] (eI (L.take 0)),.sl v6 63 68 L.length (au L),.blk b2 (.cells (#[aq]) 24),.blk b1 (.cells #[v6] 24)] [.blk bn (.cells #[v6] 24)] (L.length) (λ_=>false) (λd=>[Value.pointer (some (bf v6 (d*68)))]) h s rfl sA (List.Perm.refl _) (⟨L,[],⟨rfl,λj _=>rfl⟩,rfl⟩) (λ_=>rfl) ?_ ?_ ?_ ?_))
 ·intro lp w2 GG g0 hg0 s2 hY;exact gI L.length (by omega) v6 _ _ (a7.of_own (s.getSl 2 rfl)) lp bn (λ_=>false) GG g0 w w2 s2 hg0 hY
 ·intro lp D9 d9 rc R9 A9 w2 hd9 hq9 hJ9 s
  obtain ⟨Kd,kd,⟨hkn,hkj⟩,rfl⟩:=hJ9
  have h:=Sl.round1 (p:=10) (V:=.pointer (some (bf v6 (d9*68)))) h rfl
  have hdl9:=hd9
  have hlk:Kd.length=L.length:=by have h9:=aq3 List.length hkn;simpa [nds] using h9
  have hdk:d9<Kd.length:=by omega
  have hxd:Kd.getD d9 z3=L.getD d9 z3:=hkj d9 (as1 _)
  have hx9:=hb.each _ (bE hdl9)
  refine re ac 1 h rfl λf h=>⟨_,s,λw3 s=>?_⟩
  refine au4 (cw ac 3 h rfl λf h=>ak h (a6 fU (h.ev rfl) ((a7.of_own (s.getSl 3 rfl)).some (by omega))) rfl λf h=>ai (V:=(Kd.getD d9 z3).2.1) (dt (a7.of_own (s.getSl 3 rfl)) (d9*68+66) (kc Kd d9 hdk)) h ci rfl rfl λf h=>bg h s vj (gJ (L.getD d9 z3).1.sc (by omega) (Kd.getD d9 z3).2.1 _ (by rw [hxd];exact(hO.2 _ (bE hdl9)).1.keep s.ext)) rfl rfl ?_);intro f w1 v16 hT hE h sq;replace s:=s.sl_new hE hT
  refine ap ac 1 h rfl λf h=>ak h (a6 fU (h.ev rfl) ((a7.of_own (s.getSl 4 rfl)).some (by omega))) rfl λf h=>ej 4 h s ci rfl rfl rfl (by omega) (aZ (s.getSl 0 rfl)) (show (au Kd).set (d9*68+66) v16=au (Kd.set d9 ((⟨(Kd.getD d9 z3).1.me,(Kd.getD d9 z3).1.pr,(Kd.getD d9 z3).1.sc,(Kd.getD d9 z3).1.fg⟩,v16,(Kd.getD d9 z3).2.2):N3)) from AC hdk _ _) λw1 s=>nt (rs ac 3 h rfl λf h=>ak h (a6 oA (h.ev rfl) ((a7.of_own (s.getSl 4 rfl)).some (by omega))) rfl λf h=>ai (V:=(Kd.getD d9 z3).2.2) (dt (a7.of_own (s.getSl 4 rfl)) (d9*68+67) ((KG _ d9 (by rw [List.length_set];exact hdk)).trans (by rw [kZ hdk]))) h ci rfl rfl λf h=>bg h s vj (gJ (L.getD d9 z3).1.fg (by omega) (Kd.getD d9 z3).2.2 _ (by rw [hxd];exact(hO.2 _ (bE hdl9)).2.keep s.ext)) rfl rfl ?_);intro f w1 v24 hT hE h sq;replace s:=s.sl_new hE hT
  refine ap ac 1 h rfl λf h=>ak h (a6 oA (h.ev rfl) ((a7.of_own (s.getSl 5 rfl)).some (by omega))) rfl λf h=>ej 5 h s ci rfl rfl rfl (by omega) (aZ (s.getSl 0 rfl)) (show (au (Kd.set d9 ((⟨(Kd.getD d9 z3).1.me,(Kd.getD d9 z3).1.pr,(Kd.getD d9 z3).1.sc,(Kd.getD d9 z3).1.fg⟩,v16,(Kd.getD d9 z3).2.2):N3))).set (d9*68+67) v24=au (Kd.set d9 ((⟨(Kd.getD d9 z3).1.me,(Kd.getD d9 z3).1.pr,(Kd.getD d9 z3).1.sc,(Kd.getD d9 z3).1.fg⟩,v16,v24):N3)) from (zy (by rw [List.length_set];exact hdk) _ (Kd.getD d9 z3).1.fg).trans (by rw [kZ hdk,zp])) λw1 s=>?_
  replace s:=s.resl (m:=(Kd.set d9 ((⟨(Kd.getD d9 z3).1.me,(Kd.getD d9 z3).1.pr,(Kd.getD d9 z3).1.sc,(Kd.getD d9 z3).1.fg⟩,v16,v24):N3)).length) (ys:=au (Kd.set d9 ((⟨(Kd.getD d9 z3).1.me,(Kd.getD d9 z3).1.pr,(Kd.getD d9 z3).1.sc,(Kd.getD d9 z3).1.fg⟩,v16,v24):N3))) 5 rfl (by rw [List.length_set]) rfl
  refine aE (aW ?_)
  replace s:=s.bring 4 rfl
  replace s:=s.bring 1 rfl
  replace s:=s.bring 2 rfl
  replace s:St w (.sl v16 60 33 (L.getD d9 z3).1.sc.length (aj (L.getD d9 z3).1.sc)::.sl v24 60 33 (L.getD d9 z3).1.fg.length (aj (L.getD d9 z3).1.fg)::(.grp kd (eI (Kd.take d9)))::.blk lp (.loop (rc .busy))::.blk D9 (.deferred (some []))::.sl v6 63 68 (Kd.set d9 ((⟨(Kd.getD d9 z3).1.me,(Kd.getD d9 z3).1.pr,(Kd.getD d9 z3).1.sc,(Kd.getD d9 z3).1.fg⟩,v16,v24):N3)).length (au (Kd.set d9 ((⟨(Kd.getD d9 z3).1.me,(Kd.getD d9 z3).1.pr,(Kd.getD d9 z3).1.sc,(Kd.getD d9 z3).1.fg⟩,v16,v24):N3)))::.blk b2 (.cells (#[aq]) 24)::.blk b1 (.cells (#[v6]) 24)::R9) _:=s
  obtain ⟨kn,s⟩:=s.grpR (S':=eI ((Kd.set d9 ((⟨(Kd.getD d9 z3).1.me,(Kd.getD d9 z3).1.pr,(Kd.getD d9 z3).1.sc,(Kd.getD d9 z3).1.fg⟩,v16,v24):N3)).take (d9+1))) (λw9 h1 h2 h3=>Eh hdk h3 ⟨by rw [← hxd] at h1;exact h1,by rw [← hxd] at h2;exact h2⟩)
  replace s:=s.bring 2 rfl
  replace s:=s.bring 2 rfl
  replace s:St w (.blk lp (.loop (rc .busy))::.blk D9 (.deferred (some []))::(.grp kn (eI ((Kd.set d9 ((⟨(Kd.getD d9 z3).1.me,(Kd.getD d9 z3).1.pr,(Kd.getD d9 z3).1.sc,(Kd.getD d9 z3).1.fg⟩,v16,v24):N3)).take (d9+1))))::.sl v6 63 68 (Kd.set d9 ((⟨(Kd.getD d9 z3).1.me,(Kd.getD d9 z3).1.pr,(Kd.getD d9 z3).1.sc,(Kd.getD d9 z3).1.fg⟩,v16,v24):N3)).length (au (Kd.set d9 ((⟨(Kd.getD d9 z3).1.me,(Kd.getD d9 z3).1.pr,(Kd.getD d9 z3).1.sc,(Kd.getD d9 z3).1.fg⟩,v16,v24):N3)))::.blk b2 (.cells (#[aq]) 24)::.blk b1 (.cells (#[v6]) 24)::R9) _:=s
  refine ⟨rfl,_,⟨(Kd.set d9 ((⟨(Kd.getD d9 z3).1.me,(Kd.getD d9 z3).1.pr,(Kd.getD d9 z3).1.sc,(Kd.getD d9 z3).1.fg⟩,v16,v24):N3)),kn,⟨D2 hkn rfl hdk,λj hj=>(Rz (by omega) _).trans (hkj j (by omega))⟩,rfl⟩,s.pick _ ?_⟩
  exact ap7 _ (List.Sublist.refl _)
 ·intro D9 A9 w2 hJ9 hq9 s
  obtain ⟨Kd,kd,⟨hkn,hkj⟩,rfl⟩:=hJ9
  replace h:Sl _ {f with defers:={target:=.collected D9,args:=#[]}::f.defers} _ [{target:=.collected D9,args:=#[]}]:=⟨h.size,by rw [h.defers],h.holds⟩
  have hlk:Kd.length=L.length:=by have h9:=aq3 List.length hkn;simpa [nds] using h9
  rw [show Kd.take L.length=Kd from as9 (by omega)] at s
  refine aW (aG (qr (al 5 h s cH rfl rfl (rfl) rfl λf h=>am 4 h s cH rfl rfl rfl (rfl) (rfl) (lZ (aZ (s.getSl 3 rfl))) λw1 s=>nt (au3 ?_))))
  exact Iu 4 0 rfl h s cH rfl rfl rfl rfl (rfl) (λw9 s9=>⟨v6,Kd,kd,rfl,hkn,s9.sel [3,2] rfl (by decide)⟩)
 ·intro D9 d9 A9 w2 hd9 hqd9 hq9 hJ9 s
  cases hqd9
theorem CM (L:List N3) (vo:Value) (w:World) (hO:qC w vo L) (hL:L.length<=40) (hd:L.Pairwise λa b=>a.1.me.1≠b.1.me.1):Calls Tryz.prog 155 [.agg #[vo]].toArray w (bW w (λv w9=>∃ bm,v=.map (some bm)/\St w [.blk bm (jE (dc L))] w9)):=by
 refine eh Tryz.func155 rfl Tryz.ntmps155 rfl [(0,.agg #[vo])] (by simp) λf h=>?_
 have s:=St.start w
 refine qr (ba (#[vo]) h s rfl rfl rfl λf w1 b1 h s=>e9 ac 1 h rfl λf h=>qr (u0 h s rfl ?_));intro f w1 b5 h s
 refine aK (#[.map none]) h s Qq rfl rfl λf w1 b3 h s=>aB 0 h s yb rfl rfl rfl (by simp) (rfl) λw1 s=>nt (ag (qr (al 2 h s cH rfl rfl (rfl) rfl λf h=>df [.agg #[vo]] h rZ (ja vo _ _ _ s) rfl rfl ?_)));rintro f w1 r ⟨bn,rfl,s⟩ h
 refine nt (au4 (eg (λd A9=>A9=[.blk b3 (.cells #[.map (some b5)] 233),.blk b5 (jE (dc (L.take d))),.blk b1 (.cells #[vo] 24)]) [.blk b3 (.cells #[.map (some b5)] 233),.blk b5 (jE (dc (L.take 0))),.blk b1 (.cells #[vo] 24)] [.blk bn (.cells #[vo] 24)] (L.length) (λ_=>false) (λd=>[Value.pointer (some (bf vo (d*68)))]) h s rfl sA (List.Perm.refl _) (rfl) (λ_=>rfl) ?_ ?_ ?_ ?_))
 ·intro lp w2 GG g0 hg0 s2 hY;exact gI L.length (by omega) vo _ _ hO.1 lp bn (λ_=>false) GG g0 w w2 s2 hg0 hY
 ·intro lp D9 d9 rc R9 A9 w2 hd9 hq9 hJ9 s
  obtain rfl:=hJ9
  have h:=Sl.round1 (p:=8) (V:=.pointer (some (bf vo (d9*68)))) h rfl
  have hdl9:=hd9
  refine re ac 1 h rfl λf h=>⟨_,s,λw3 s=>?_⟩
  refine au4 (cK 7 h (by kernel_rfl) (fk 2 h s yb rfl rfl (rfl) rfl λf h=>aD ac 2 h rfl λf h=>aF h (a6 gn (h.ev rfl) ((hO.1.keep s.ext).some (by omega))) rfl λf h=>aF h (a6 gS (h.ev rfl) ((hO.1.keep s.ext).some (by omega))) rfl λf h=>bw (V:=.int .i64 (L.getD d9 z3).1.me.1) (dt (hO.1.keep s.ext) (d9*68+0) (DN L d9 hdl9)) h bQ rfl rfl λf h=>aF h (Bh YV) rfl λf h=>bF s λw1 s=>JK 3 h s aB4 az8 rfl rfl rfl rfl (zd (Ie hd hdl9)) ?_));intro w1 s
  refine aE (aW ?_)
  replace s:=s.reob9 (o':=jE (dc (L.take (d9+1)))) 3 rfl ((MQ _ _).trans (by rw [JZ hdl9]))
  refine ⟨rfl,_,rfl,s.pick _ ?_⟩
  exact ap7 _ (List.Sublist.refl _)
 ·intro D9 A9 w2 hJ9 hq9 s
  obtain rfl:=hJ9
  replace h:Sl _ {f with defers:={target:=.collected D9,args:=#[]}::f.defers} _ [{target:=.collected D9,args:=#[]}]:=⟨h.size,by rw [h.defers],h.holds⟩
  rw [List.take_length] at s
  refine aW (aG (qr (bT 2 h s yb rfl rfl (rfl) rfl λf h=>e9 ac 1 h rfl λf h=>au3 ?_)))
  exact tU 0 rfl h s rfl rfl (λw9 s9=>⟨b5,rfl,s9.sel [3] rfl (by decide)⟩)
 ·intro D9 d9 A9 w2 hd9 hqd9 hq9 hJ9 s
  cases hqd9
theorem DQ (ks:List Int) (bm:Nat) (no:Int) (w:World) (hm:w.heap[bm]? = some (jE ks)):Calls Tryz.prog 216 [.map (some bm),.int .i64 no].toArray w (bW w (is (.bool (decide (no∈ks))))):=by
 refine bG Tryz.func216 rfl Tryz.ntmps216 rfl λf h s=>bD ac 1 h rfl λf h=>cw ac 2 h rfl λf h=>BK (V:=.agg #[]) (ok:=decide (no∈ks)) h (GL hm s.ext) aB4 az8 Dv rfl rfl (Nl ks no) rfl ?_;intro f h
 refine ap ac 3 h rfl λf h=>aK (#[]) h s Dv rfl rfl λf w1 b5 h s=>am 0 h s UM rfl rfl rfl (rfl) (rfl) (λ_ h=>by cases h) λw1 s=>e9 ac 1 h rfl λf h=>bD ac 2 h rfl λf h=>au3 (aA rfl h s rfl (rfl))
theorem zW (l:List Mb) (vh:Value) (g9:Nat) (caps:List Value) (p:Mb->Bool) (w:World) (hR:a7 w vh 33 l.length (aj l)) (hln:l.length<=1000) (hg:Fnc Tryz.prog g9) (hp:∀ w9,Ext w w9->∀ x∈l,Calls Tryz.prog g9 (.agg (ar x)::caps).toArray w9 (bW w9 (is (.bool (p x))))):Calls Tryz.prog 139 [vh,.func (.func g9) #[] caps.toArray].toArray w (bW w (λv _=>∃ r:Int,v=.int .i64 r/\((r = -1/\∀ x∈l,p x=false)∨∃ k:Nat,k<l.length/\r=(k:Int)/\p (l.getD k aS)=true/\∀ i,i<k->p (l.getD i aS)=false))):=by
 refine bG Tryz.func139 rfl Tryz.ntmps139 rfl λf h s=>bD ac 1 h rfl λf h=>ag (cw ac 1 h rfl λf h=>cb h (hR.keep s.ext) aA6 rfl rfl λf h=>e9 ac 1 h rfl λf h=>au4 (au6 (λnn aa ww=>∃ k:Nat,Sl 19 aa [(0,vh),(1,.func (.func g9) #[] caps.toArray),(6,vh),(7,.int .i64 (l.length:Int)),(8,.int .i64 (k:Int))]/\St w [] ww/\nn=l.length - k/\k<=l.length/\∀ i (hi:i<l.length),i<k->p l[i]=false) (l.length - (0)) ⟨0,h.only ⟨rfl,rfl,rfl,rfl,aw rfl (by omega),trivial⟩,s.as trivial,rfl,as3 _,λi hi h9=>ax7 h9 (av6 _)⟩ ?_))
 rintro _ f w1 ⟨k,h,s,hnn,hp0,hp1⟩
 refine bD ac 1 h rfl λf h=>ag (cZ h rfl (λhc=>?_) (λhc=>?_))
 ·refine kt (ag (au4 (bD ac 2 h rfl λf h=>qr ?_)))
  have hkl:k<l.length:=by omega
  refine ap ac 3 h rfl λf h=>ak h (bj (hR.keep s.ext) (k) aA6 dd (h.ev rfl) (h.ev rfl) (by omega) (by omega)) rfl λf h=>ax ((hR.keep s.ext).el (k) (by omega) (by decide) (D:=ar l[k]) (Lb l k hkl)) h aI rfl (ae _) rfl λf h=>gQ [.agg (ar l[k])] (caps:=caps) h s hg rfl (hp _ s.ext _ (aw0 hkl)) rfl rfl ?_;intro f w1 v9 hT hE h s;obtain rfl:=hT
  refine nt (cT h rfl (λhc=>?_) (λhc=>?_))
  ·refine bD ac 2 h rfl λf h=>au3 (aY (aQ (aQ (aY (aQ (aA rfl h s rfl (⟨_,rfl,.inr ⟨k,hkl,rfl,by rw [← u3 hkl];exact hc,λi hi=>by rw [← u3 (show i<l.length by omega)];exact hp1 i (by omega) hi⟩⟩)))))))
  ·refine wpIn_skip (aW (aG (aC (ak h (bB (h.ev rfl) (h.ev rfl) (by omega)) rfl λf h=>e9 ac 1 h rfl λf h=>?_))))
   exact ⟨_,by omega,⟨k+1,h.only ⟨rfl,rfl,rfl,rfl,aw rfl (by omega),trivial⟩,St.as s trivial,rfl,by omega,AM (λy=>p y=false) hp1 hkl hc⟩⟩
 ·refine au5 (aT (aT (bS (aG (bD ac 1 h rfl λf h=>au3 (aA rfl h s rfl (⟨_,rfl,.inl ⟨rfl,λx hx=>(by obtain ⟨i,hi,e⟩:=aw1 hx;rw [← e];exact hp1 i hi (by omega))⟩⟩)))))))
set_option maxHeartbeats 1000000 in
theorem qQ (l:List Mb) (hln:l.length<=1000) (vh:Value) (g9:Nat) (caps:List Value) (p:Mb->Bool) (B9:List Own) (w0 w:World) (s:St w0 (.sl vh 60 33 (l).length (aj (l))::B9) w) (hg:Fnc Tryz.prog g9) (hp:∀ (A9:List Own) (w9:World),St w0 (A9++B9) w9->∀ x∈l,Calls Tryz.prog g9 (.agg (ar x)::caps).toArray w9 (bW w9 (is (.bool (p x))))):Calls Tryz.prog 273 [vh,.func (.func g9) #[] caps.toArray].toArray w (λe w9=>∃ v9,e=.returned v9/\St w0 (.sl v9 60 33 ((l.filter λx => !p x)).length (aj ((l.filter λx => !p x)))::B9) w9):=by
 refine da Tryz.func273 rfl Tryz.ntmps273 rfl [(0,vh),(1,.func (.func g9) #[] caps.toArray)] (by simp) λf h=>?_
 refine bD ac 1 h rfl λf h=>cw ac 2 h rfl λf h=>bg h s Jf (zW l vh g9 caps p _ (a7.of_own (s.getSl 0 rfl)) hln hg (λw9 h9 x hx=>hp [_] w9 (s.more h9) x hx)) rfl rfl ?_;rintro f w1 v9 ⟨r9,rfl,hr⟩ hE h s
 refine e9 ac 1 h rfl λf h=>ag (bD ac 2 h rfl λf h=>cT h rfl (λhc=>?_) (λhc=>?_))
 ·have hc:=ap9 hc
  have hn:=(hr.resolve_right (λ⟨k9,_,h9,_⟩=>by omega)).2
  refine bD ac 2 h rfl λf h=>rt (gB rfl h rfl (⟨_,rfl,yh (Fz hn).symm s⟩))
 ·obtain ⟨k9,Fc,rfl,hpk,hpf⟩:=hr.resolve_left (λh9=>aq0 hc h9.1)
  have hqk:(!p (l.getD k9 aS))=false:=by rw [hpk];rfl
  obtain ⟨hst1,hst2⟩:=Fw (q:=(λx => !p x)) Fc (λi hi=>by rw [hpf i hi];rfl) hqk
  refine kt (ag (cw ac 1 h rfl λf h=>ak h (bB (h.ev rfl) (h.ev rfl) (by omega)) rfl λf h=>e9 ac 1 h rfl λf h=>au4 (au6 (λnn aa ww=>∃ j:Nat,Sl 42 aa [(0,vh),(1,.func (.func g9) #[] caps.toArray),(8,vh),(5,.int .i64 (((nZ (λx => !p x) l j):Nat):Int)),(6,.int .i64 (j:Int))]/\St w0 (.sl vh 60 33 (l).length (aj (xY (λx => !p x) l j))::B9) ww/\nn=l.length - j/\k9+1<=j/\j<=l.length) (l.length - (k9+1)) ⟨k9+1,h.only ⟨rfl,rfl,rfl,aw rfl (by omega),aw rfl (by omega),trivial⟩,s.as ⟨vP rfl (by rw [hst1]),mf _⟩,rfl,by omega,by omega⟩ ?_)))
  rintro _ f w1 ⟨j,h,s,hnn,hp0,hp1⟩
  refine ag (cw ac 2 h rfl λf h=>eF 0 h s aA6 rfl rfl rfl λf h=>e9 ac 1 h rfl λf h=>cZ h rfl (λhc=>?_) (λhc=>?_))
  ·refine kt (ag (au4 (qr ?_)))
   have hjl:j<l.length:=by omega
   have hix:=CN (λx => !p x) l j
   refine ap ac 2 h rfl λf h=>ak h (bj (a7.of_own (s.getSl 0 rfl)) (j) aA6 dd (h.ev rfl) (h.ev rfl) (rfl) (by omega)) rfl λf h=>ax ((a7.of_own (s.getSl 0 rfl)).el (j) (by omega) (by decide) (D:=ar (l.getD j aS)) ((dI (xY (λx => !p x) l j) j (by rw [Ee];omega)).trans (by rw [OU hjl]))) h aI rfl (ae _) rfl λf h=>aK (ar aS) h s cQ rfl rfl λf w1 b7 h s=>am 0 h s aI rfl rfl rfl (ae _) (ae _) (aP _) λw1 s=>nt (ag ?_)
   cases hq:(p (l.getD j aS):Bool)
   ·refine rs ac 1 h rfl λf h=>al 0 h s aI rfl rfl (ae _) rfl λf h=>gQ [.agg (ar (l.getD j aS))] (caps:=caps) h s hg rfl (hp [_,_] _ s _ (fL hjl)) rfl rfl ?_;intro f w1 v28 hT hE h s;obtain rfl:=hT
    refine ol ac (.bool true) h rfl (by rw [hq];rfl) rfl λf h=>iz h rfl (cw ac 2 h rfl λf h=>al 0 h s aI rfl rfl (ae _) rfl λf h=>ak h (bj (a7.of_own (s.getSl 1 rfl)) ((nZ (λx => !p x) l j)) aA6 dd (h.ev rfl) (h.ev rfl) (rfl) (by omega)) rfl λf h=>fX 1 ((nZ (λx => !p x) l j)) h s aI rfl rfl rfl (ae _) (by omega) (aP _) ((ID (l:=(xY (λx => !p x) l j)) _ (by rw [Ee];omega)).trans (aq3 aj (Ez (q:=(λx => !p x)) hjl (by rw [hq];rfl)).1.symm)) λw1 s=>nt (rs ac 1 h rfl λf h=>ak h (bB (h.ev rfl) (h.ev rfl) (by omega)) rfl λf h=>ap ac 1 h rfl λf h=>aE (aW (aG (rs ac 1 h rfl λf h=>ak h (bB (h.ev rfl) (h.ev rfl) (by omega)) rfl λf h=>e9 ac 1 h rfl λf h=>?_)))))
    have h8:=(Ez (q:=(λx => !p x)) hjl (by rw [hq];rfl)).2
    exact ⟨_,by omega,⟨j+1,h.only ⟨rfl,rfl,rfl,aw rfl (by omega),aw rfl (by omega),trivial⟩,St.as (s.pick _ (ar8 [_] _)) ⟨rfl,mf _⟩,rfl,by omega,by omega⟩⟩
   ·refine rs ac 1 h rfl λf h=>al 0 h s aI rfl rfl (ae _) rfl λf h=>gQ [.agg (ar (l.getD j aS))] (caps:=caps) h s hg rfl (hp [_,_] _ s _ (fL hjl)) rfl rfl ?_;intro f w1 v28 hT hE h s;obtain rfl:=hT
    refine ol ac (.bool false) h rfl (by rw [hq];rfl) rfl λf h=>tS h rfl (wpIn_skip (aW (aG (rs ac 1 h rfl λf h=>ak h (bB (h.ev rfl) (h.ev rfl) (by omega)) rfl λf h=>e9 ac 1 h rfl λf h=>?_))))
    obtain ⟨h7,h8⟩:=Jq (q:=(λx => !p x)) hjl (by rw [hq];rfl)
    exact ⟨_,by omega,⟨j+1,h.only ⟨rfl,rfl,rfl,aw rfl (by omega),aw rfl (by omega),trivial⟩,St.as (s.pick _ (ar8 [_] _)) ⟨vP rfl (by rw [h7]),mf _⟩,rfl,by omega,by omega⟩⟩
  ·refine au5 (aT (aT (bS (aG (qr ?_)))))
   obtain rfl:j=l.length:=by omega
   have hlt:=UK (q:=(λx => !p x)) Fc hqk
   have hI:=NH (λx => !p x) l
   obtain ⟨b9,cap,cur,fz,hvh,hfz,hnc,hcm,hcs,hct,s2⟩:=s.open_sl (by omega)
   clear s
   subst hvh
   have s:=s2
   have hz33:(Value.agg (ar aS)).cells.size=33:=ae _
   refine ap ac 2 h rfl λf h=>ak h (bk (.slice (some ⟨b9,(nZ (λx => !p x) l l.length)*33,none⟩) (l.length - (nZ (λx => !p x) l l.length)) (cap - (nZ (λx => !p x) l l.length))) (qX (i:=(nZ (λx => !p x) l l.length)) aA6 dd (h.ev rfl) (h.ev rfl) rfl (by omega)) (by unfold ZT;rw [if_neg (by omega)])) rfl λf h=>AU (fz:=fz) (Z:=.agg (ar aS)) 0 h s aA6 cQ rfl (by omega) rfl hfz (by rw [hz33];omega) (aP _) ?_;intro w1 s
   refine nt (cw ac 2 h rfl λf h=>ak h (qZ (i:=(nZ (λx => !p x) l l.length)) aA6 dd (h.ev rfl) (h.ev rfl) rfl (by omega)) rfl λf h=>e9 ac 1 h rfl λf h=>au3 (gB rfl h rfl (⟨_,rfl,(by have hzl:(Builtin.zeroCells (Value.agg (ar aS)).cells (l.length - (nZ (λx => !p x) l l.length))).toList.length=(l.length - (l.filter λx => !p x).length)*33:=(by rw [ar2,size_zeroCells,hz33,hI]);obtain ⟨hf1,hf2⟩:=KO cur.toList _ (λx => !p x) l hct (by have e9:=ar2 (xs:=cur);omega) hzl ((nZ (λx => !p x) l l.length)*33) (by rw [hI]) ((l.length - (nZ (λx => !p x) l l.length))*(Value.agg (ar aS)).cells.size) (by rw [hz33,hI]);rw [← hI];exact s.close_sl (by rw [List.size_toArray];exact hfz.imp id λh9=>(by rw [hf1,ar2];exact h9)) (by omega) hcm (by rw [List.size_toArray];exact hf1.trans hcs) hf2 (by rw [fo,hI]))⟩)))
theorem FS (nos:List Int) (vn:Value) (no:Int) (w:World) (hN:a7 w vn 1 nos.length (nos.map (Value.int .i64))) (hnn:nos.length<=1000):Calls Tryz.prog 310 [vn,.int .i64 no].toArray w (bW w (λv _=>∃ r:Int,v=.int .i64 r/\((r = -1/\∀ k,k<nos.length->nos.getD k 0≠no)∨∃ k:Nat,k<nos.length/\r=(k:Int)/\nos.getD k 0=no))):=by
 refine bG Tryz.func310 rfl Tryz.ntmps310 rfl λf h s=>bD ac 1 h rfl λf h=>ag (cw ac 1 h rfl λf h=>cb h (hN.keep s.ext) aB1 rfl rfl λf h=>e9 ac 1 h rfl λf h=>au4 (au6 (λnn aa ww=>∃ k:Nat,Sl 19 aa [(0,vn),(1,.int .i64 no),(6,vn),(7,.int .i64 (nos.length:Int)),(8,.int .i64 (k:Int))]/\St w [] ww/\nn=nos.length - k/\k<=nos.length/\∀ j,j<k->decide (no=nos.getD j 0)=false) (nos.length - (0)) ⟨0,h.only ⟨rfl,rfl,rfl,rfl,aw rfl (by omega),trivial⟩,s.as trivial,rfl,as3 _,λj hj=>ax7 hj (av6 _)⟩ ?_))
 rintro _ f w1 ⟨k,h,s,hnn,hp0,hp1⟩
 refine bD ac 1 h rfl λf h=>ag (cZ h rfl (λhc=>?_) (λhc=>?_))
 ·refine kt (ag (au4 (bD ac 2 h rfl λf h=>qr ?_)))
  have hkl:k<nos.length:=by omega
  refine ap ac 3 h rfl λf h=>ak h (bj (hN.keep s.ext) (k) aB1 W8 (h.ev rfl) (h.ev rfl) (by omega) (by omega)) rfl λf h=>ai ((hN.keep s.ext).el1 (k) (V:=.int .i64 (nos.getD k 0)) (XC nos k hkl)) h bQ rfl rfl λf h=>e9 ac 1 h rfl λf h=>cT h rfl (λhc=>?_) (λhc=>?_)
  ·refine bD ac 2 h rfl λf h=>au3 (aY (aQ (aQ (aY (aQ (aA rfl h s rfl (⟨_,rfl,.inr ⟨k,hkl,rfl,(ap9 hc).symm⟩⟩)))))))
  ·refine wpIn_skip (aW (aG (aC (ak h (bB (h.ev rfl) (h.ev rfl) (by omega)) rfl λf h=>e9 ac 1 h rfl λf h=>?_))))
   exact ⟨_,by omega,⟨k+1,h.only ⟨rfl,rfl,rfl,rfl,aw rfl (by omega),trivial⟩,St.as s trivial,rfl,by omega,eM (q:=λj=>decide (no=nos.getD j 0)) hp1 hc⟩⟩
 ·refine au5 (aT (aT (bS (aG (bD ac 1 h rfl λf h=>au3 (aA rfl h s rfl (⟨_,rfl,.inl ⟨rfl,λi hi e9=>aq0 (hp1 i (by omega)) e9.symm⟩⟩)))))))
theorem Fg (nos:List Int) (vn:Value) (no:Int) (w:World) (hN:a7 w vn 1 nos.length (nos.map (Value.int .i64))) (hnn:nos.length<=1000):Calls Tryz.prog 270 [vn,.int .i64 no].toArray w (bW w (is (.bool (nos.any λk=>decide (k=no))))):=by
 refine bG Tryz.func270 rfl Tryz.ntmps270 rfl λf h s=>bD ac 1 h rfl λf h=>cw ac 2 h rfl λf h=>bg h s Vr (FS nos vn no _ (hN.keep s.ext) hnn) rfl rfl ?_;rintro f w1 v9 ⟨r9,rfl,hr⟩ hE h s
 refine ol ac (.bool (nos.any λk=>decide (k=no))) h rfl (aq3 Value.bool (PW hr)) rfl λf h=>e9 ac 1 h rfl λf h=>au3 (aA rfl h s rfl (rfl))
end Go.Proofs.YthmlflaiidhoiaaGreatDoor
