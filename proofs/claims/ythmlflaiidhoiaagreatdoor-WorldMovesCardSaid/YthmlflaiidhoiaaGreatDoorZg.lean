/- Package table: what its functions answer. -/
import Derived.Test.YthmlflaiidhoiaaGreatDoorCon
set_option linter.unusedVariables false
namespace Go.Proofs.YthmlflaiidhoiaaGreatDoor
open Go.RowKit
theorem If (l:List Tg) (hln:l.length<=1000) (a9:Option Addr) (n9 c9:Nat) (w:World) (hR:bs w (.slice a9 n9 c9) 67 l.length (aX l)):Calls Tryz.prog 45 [.slice a9 n9 c9].toArray w (cb w (λv w'=>cF w' w.heap.size 49 67 v l.length (aX l))):=by
 refine bK Tryz.func45 rfl Tryz.ntmps45 rfl λf h s=>bE ac 1 h rfl λf h=>ah (ah ?_)
 cases hn:(a9.isNone:Bool)
 ·refine rs ac 1 h rfl λf h=>ai h (bz (.bool false) (ct aR9 (h.ev rfl) (h.ev rfl)) (aH3 Value.bool hn)) rfl λf h=>gS h rfl (qr (fB (base:=w.heap.size) h aR9 gp (aJ1 _) rfl λf w2 v5 h hE3 e5=>am ac 1 h rfl λf h=>dZ (base:=w.heap.size) e5 (hR.keep hE3) h aR9 gp rfl rfl hE3.le (pu _) (by unfold maxLen;omega) (by omega) rfl λf w3 v7 h hE4 e7=>?_))
  replace s:=s.sl_new (hE3.trans hE4) e7
  refine e9 ac 1 h rfl λf h=>aL3 (av rfl h s rfl (s.getSl 0 rfl))
 ·refine rs ac 1 h rfl λf h=>ai h (bz (.bool true) (ct aR9 (h.ev rfl) (h.ev rfl)) (aH3 Value.bool hn)) rfl λf h=>iY h rfl (bE ac 1 h rfl λf h=>rt (av rfl h s rfl (by obtain rfl:=DW hn hR;exact eh _ _ _ _)))
theorem ol (l:List Tg) (hln:l.length<=1000) (v9:Value) (w:World) (hR:bs w v9 67 l.length (aX l)):Calls Tryz.prog 45 [v9].toArray w (cb w (λv w'=>cF w' w.heap.size 49 67 v l.length (aX l))):=by
 obtain ⟨a,c,rfl⟩:=hR.len
 exact If l hln a _ c w hR
theorem wS (l:List Tg) (vh:Value) (g9:Nat) (caps:List Value) (p:Tg->Bool) (w:World) (hR:bs w vh 67 l.length (aX l)) (hln:l.length<=1000) (hg:Fnc Tryz.prog g9) (hp:∀ w9,Ext w w9->∀ y∈l,Calls Tryz.prog g9 (.agg (aU y)::caps).toArray w9 (cb w9 (is (.bool (p y))))):Calls Tryz.prog 260 [vh,.func (.func g9) #[] caps.toArray].toArray w (cb w (λv w'=>cF w' w.heap.size 49 67 v (l.filter p).length (aX (l.filter p)))):=by
 refine bK Tryz.func260 rfl Tryz.ntmps260 rfl λf h s=>bE ac 1 h rfl λf h=>bE ac 1 h rfl λf h=>ah (qr ?_)
 replace s:=s.nilSl 49 67
 refine am ac 1 h rfl λf h=>ck h (hR.keep s.ext) aR9 rfl rfl λf h=>e9 ac 1 h rfl λf h=>aL4 (aL6 (λnn aa ww=>∃ k:Nat,∃ vb:Value,Sl 23 aa [(0,vh),(1,.func (.func g9) #[] caps.toArray),(5,vb),(8,vh),(9,.int .i64 (l.length:Int)),(10,.int .i64 (k:Int))]/\St w [.sl vb 49 67 ((l.take k).filter p).length (aX ((l.take k).filter p))] ww/\nn=l.length - k/\k<=l.length) (l.length - (0)) ⟨0,ax,h.only ⟨rfl,rfl,rfl,rfl,rfl,ao rfl (by omega),trivial⟩,s.as ⟨rfl,trivial⟩,rfl,aJ3 _⟩ ?_)
 rintro _ f w1 ⟨k,vb,h,s,hnn,hp0⟩
 refine bE ac 1 h rfl λf h=>ah (cB h rfl (λhc=>?_) (λhc=>?_))
 ·refine kt (ah (aL4 (qr ?_)))
  have hkl:k<l.length:=by omega
  refine ai h (bj (hR.keep s.ext) (k) aR9 gf (h.ev rfl) (h.ev rfl) (by omega) (by omega)) rfl λf h=>ap ((hR.keep s.ext).el (k) (by omega) (by decide) (D:=aU (l.getD k cr)) (fP l k hkl)) h cn rfl (aE _) rfl λf h=>aK (aU cr) h s j9 rfl rfl λf w1 b7 h s=>al 0 h s cn rfl rfl rfl (aE _) (aE _) (cP _) λw1 s=>nt (bU ac 1 h rfl λf h=>ak 0 h s cn rfl rfl (aE _) rfl λf h=>cJ [.agg (aU (l.getD k cr))] (caps:=caps) h s hg rfl (hp _ s.ext _ (qt hkl)) rfl rfl ?_);intro f w1 v16 hT hE h s;obtain rfl:=hT
  refine nt (bV h rfl (λhc=>?_) (λhc=>?_))
  ·have hq:p (l.getD k cr)=true:=hc
   refine rs ac 1 h rfl λf h=>ak 0 h s cn rfl rfl (aE _) rfl λf h=>cf (vs:=[.agg (aU (l.getD k cr))]) [.tmp 18] h s aR9 gp rfl rfl (rA _) rfl rfl rfl λf w1 v19 h s=>dD 2 0 h s aR9 gp rfl rfl rfl rfl (by decide) (by rw [gG];exact cP _) (by have h9:=xB l p k;unfold maxLen;omega) (by have h9:=xB l p k;omega) rfl λf w1 v20 h s=>?_
   replace s:=s.pick _ (aJ2 _ _)
   replace s:=s.resl (m:=((l.take (k+1)).filter p).length) (ys:=aX ((l.take (k+1)).filter p)) 1 rfl (by rw [E3 hkl hq,aH7];rfl) (by rw [E3 hkl hq,gG,ly])
   refine am ac 1 h rfl λf h=>az (aW (aD (aw (ai h (bo (h.ev rfl) (h.ev rfl) (by omega)) rfl λf h=>e9 ac 1 h rfl λf h=>?_))))
   exact ⟨_,by omega,⟨k+1,v20,h.only ⟨rfl,rfl,rfl,rfl,rfl,ao rfl (by omega),trivial⟩,St.as (s.pick _ (aI8 [_] _)) ⟨rfl,trivial⟩,rfl,by omega⟩⟩
  ·have hq:p (l.getD k cr)=false:=hc
   refine wpIn_skip (aW (aD (aw (ai h (bo (h.ev rfl) (h.ev rfl) (by omega)) rfl λf h=>e9 ac 1 h rfl λf h=>?_))))
   exact ⟨_,by omega,⟨k+1,vb,h.only ⟨rfl,rfl,rfl,rfl,rfl,ao rfl (by omega),trivial⟩,St.as (s.pick _ (aI8 [_] _)) ⟨eC (by rw [Fh hkl hq]) (by rw [Fh hkl hq]),trivial⟩,rfl,by omega⟩⟩
 ·refine aL5 (aO (aO (bS (aD (bE ac 2 h rfl λf h=>aL3 (av rfl h s rfl ((by have h9:=s.getSl 0 rfl;rw [Fc (by omega)] at h9;exact h9))))))))
theorem ID (n:Nat) (hn:n<=1000) (w:World):Calls Tryz.prog 94 [.slice none 0 0,.int .i64 (n:Int)].toArray w (cb w (λv w'=>cF w' w.heap.size 49 67 v 0 [])):=by
 refine bK Tryz.func94 rfl Tryz.ntmps94 rfl λf h s=>bE ac 1 h rfl λf h=>ah (bU ac 1 h rfl λf h=>lj ac h rfl (aH1 (by omega)) λf h=>gS h rfl (ah (bU ac 2 h rfl λf h=>ai h (lz aR9 (h.ev rfl)) rfl λf h=>am ac 1 h rfl λf h=>ai h (k7 aR9 (h.ev rfl)) rfl λf h=>ai h (bz (.int .i64 0) (gj (h.ev rfl) (h.ev rfl) (by omega)) (rfl)) rfl λf h=>ai h (bz (.int .i64 (n:Int)) (gj (h.ev rfl) (h.ev rfl) (by omega)) (aH3 (Value.int .i64) (by omega))) rfl λf h=>e9 ac 1 h rfl λf h=>bE ac 2 h rfl λf h=>cB h rfl (λhc=>?_) (λhc=>?_))))
 ·refine rs ac 2 h rfl λf h=>ai h (lz aR9 (h.ev rfl)) rfl λf h=>ai h (pw aR9 gf (h.ev rfl) (h.ev rfl)) rfl λf h=>am ac 1 h rfl λf h=>md (n:=n) (base:=w.heap.size) h aR9 aR2 gp rfl rfl (by omega) (by omega) (by omega) (aJ1 _) rfl λf w1 v22 xs9 h hE9 hO9=>?_
  replace s:=s.sl_new hE9 hO9
  refine am ac 1 h rfl λf h=>ai h (k7 aR9 (h.ev rfl)) rfl λf h=>ai h (nN hO9 aR9 gf (h.ev rfl) (h.ev rfl)) rfl λf h=>e9 ac 1 h rfl λf h=>bE ac 2 h rfl λf h=>aL3 (av rfl h s rfl (hO9.cut0))
 ·refine kt (bE ac 2 h rfl λf h=>aL3 (av rfl h s rfl (eh _ _ _ _)))
theorem Bm (vh:Value) (us:List Value) (ls:List (List Tg)) (hls:us.length=ls.length) (htot:ls.flatten.length<=1000) (hvn:us.length<=1000) (w:World) (hv:bs w vh 1 us.length us) (hr:∀ k,k<us.length->bs w (us.getD k undef) 67 (ls.getD k []).length (aX (ls.getD k []))):Calls Tryz.prog 46 [vh].toArray w (cb w (λv w'=>cF w' w.heap.size 49 67 v ls.flatten.length (aX ls.flatten))):=by
 refine bK Tryz.func46 rfl Tryz.ntmps46 rfl λf h s=>bE ac 1 h rfl λf h=>bE ac 1 h rfl λf h=>ah (bU ac 1 h rfl λf h=>ck h (hv.keep s.ext) aU4 rfl rfl λf h=>e9 ac 1 h rfl λf h=>aL4 (aL6 (λnn aa ww=>∃ k:Nat,Sl 36 aa [(0,vh),(3,.int .i64 (((ls.take k).flatten.length:Nat):Int)),(9,vh),(10,.int .i64 (us.length:Int)),(11,.int .i64 (k:Int))]/\St w [] ww/\nn=us.length - k/\k<=us.length) (us.length - (0)) ⟨0,h.only ⟨rfl,ao rfl rfl,rfl,rfl,ao rfl (by omega),trivial⟩,s.as trivial,rfl,aJ3 _⟩ ?_))
 rintro _ f w1 ⟨k,h,s,hnn,hp0⟩
 refine bE ac 1 h rfl λf h=>ah (cB h rfl (λhc=>?_) (λhc=>?_))
 ·refine kt (ah (aL4 (qr ?_)))
  have hkl:k<us.length:=by omega
  refine ai h (bj (hv.keep s.ext) (k) aU4 Tl (h.ev rfl) (h.ev rfl) (by omega) (by omega)) rfl λf h=>ag ((hv.keep s.ext).el1 (k) (V:=us.getD k undef) (r6 hkl)) h jb rfl rfl λf h=>e9 ac 1 h rfl λf h=>bU ac 2 h rfl λf h=>ck h ((hr k hkl).keep s.ext) aR9 rfl rfl λf h=>?_
  have hk1:=ux ls k (by omega)
  have hk2:=Gn ls (k+1)
  refine ai h (bo (h.ev rfl) (h.ev rfl) (by omega)) rfl λf h=>e9 ac 1 h rfl λf h=>bU ac 1 h rfl λf h=>lj ac h rfl (aH1 (by omega)) λf h=>wV h rfl (wpIn_skip (aW (aD (aw (ai h (bo (h.ev rfl) (h.ev rfl) (by omega)) rfl λf h=>e9 ac 1 h rfl λf h=>?_)))))
  exact ⟨_,by omega,⟨k+1,h.only ⟨rfl,ao rfl (by omega),rfl,rfl,ao rfl (by omega),trivial⟩,St.as s trivial,rfl,by omega⟩⟩
 ·refine aL5 (aO (aO (bS (aD (qr ?_)))))
  obtain rfl:k=us.length:=by omega
  refine gW ac (.int .i64 ((ls.flatten.length:Nat):Int)) h rfl (by rw [hls,List.take_length]) rfl λf h=>aY h s Z7 (ID ls.flatten.length (by omega) _) rfl rfl ?_;intro f w1 v24 hT hE h sq;replace s:=s.sl_new hE hT
  refine e9 ac 1 h rfl λf h=>ah (bU ac 1 h rfl λf h=>ck h (hv.keep s.ext) aU4 rfl rfl λf h=>e9 ac 1 h rfl λf h=>aL4 (aL6 (λnn aa ww=>∃ i:Nat,∃ vb:Value,Sl 36 aa [(0,vh),(6,vb),(25,vh),(26,.int .i64 (us.length:Int)),(27,.int .i64 (i:Int))]/\St w [.sl vb 49 67 (ls.take i).flatten.length (aX (ls.take i).flatten)] ww/\nn=us.length - i/\i<=us.length) (us.length - (0)) ⟨0,v24,h.only ⟨rfl,rfl,rfl,rfl,ao rfl (by omega),trivial⟩,s.as ⟨eC rfl rfl,trivial⟩,rfl,aJ3 _⟩ ?_))
  rintro _ f w1 ⟨i,vb,h,s,hnn,hp0⟩
  refine bE ac 1 h rfl λf h=>ah (cB h rfl (λhc=>?_) (λhc=>?_))
  ·refine kt (ah (aL4 (qr ?_)))
   have hkl:i<us.length:=by omega
   have hk1:=ux ls i (by omega)
   have hk2:=Gn ls (i+1)
   refine ai h (bj (hv.keep s.ext) (i) aU4 Tl (h.ev rfl) (h.ev rfl) (by omega) (by omega)) rfl λf h=>ag ((hv.keep s.ext).el1 (i) (V:=us.getD i undef) (r6 hkl)) h jb rfl rfl λf h=>e9 ac 1 h rfl λf h=>rs ac 2 h rfl λf h=>jT 0 ((hr i hkl).keep s.ext) h s aR9 gp rfl rfl rfl (pu _) (by unfold maxLen;omega) (by omega) rfl λf w1 v33 h s=>am ac 1 h rfl λf h=>az (aW (aD (aw (ai h (bo (h.ev rfl) (h.ev rfl) (by omega)) rfl λf h=>e9 ac 1 h rfl λf h=>?_))))
   exact ⟨_,by omega,⟨i+1,v33,h.only ⟨rfl,rfl,rfl,rfl,ao rfl (by omega),trivial⟩,St.as s ⟨eC (ux ls i (by omega)) (CS ls i (by omega)),trivial⟩,rfl,by omega⟩⟩
  ·refine aL5 (aO (aO (bS (aD (bE ac 2 h rfl λf h=>aL3 (av rfl h s rfl (Au (by omega) (s.getSl 0 rfl))))))))
theorem uW (x:Tg) (i:Id) (e:dN) (w:World):Calls Tryz.prog 25 [.agg (aU x),iy i,.agg (cG e)].toArray w (cb w (is (.bool (oZ i e x)))):=by
 refine bK Tryz.func25 rfl Tryz.ntmps25 rfl λf h s=>qr (aV (aU x) h s rfl rfl rfl λf w1 b3 h s=>aV (aH i) h s rfl rfl rfl λf w1 b4 h s=>aV (cG e) h s rfl rfl rfl λf w1 b5 h s=>e9 ac 1 h rfl λf h=>ah ?_)
 cases h0:(decide (x.1=i):Bool)
 ·refine rs ac 1 h rfl λf h=>ap (aJ.subL (aJ.of_own s 2 rfl) 0 32 (D:=aH (_)) (gZ _)) h bW rfl (by first|exact aA _|exact au _ _) rfl λf h=>ak 1 h s bW rfl rfl (by first|exact aA _|exact au _ _) rfl λf h=>ai h (bz (.bool false) (dC gE (h.ev rfl) (h.ev rfl)) (aH3 Value.bool h0)) rfl λf h=>e9 ac 7 h rfl λf h=>aL3 (av rfl h s rfl (by show _=_;unfold oZ;rw [h0]<;>rfl))
 ·refine rs ac 1 h rfl λf h=>ap (aJ.subL (aJ.of_own s 2 rfl) 0 32 (D:=aH (_)) (gZ _)) h bW rfl (by first|exact aA _|exact au _ _) rfl λf h=>ak 1 h s bW rfl rfl (by first|exact aA _|exact au _ _) rfl λf h=>ai h (bz (.bool true) (dC gE (h.ev rfl) (h.ev rfl)) (aH3 Value.bool h0)) rfl λf h=>am ac 2 h rfl λf h=>cy h rfl (ap (aJ.subL (aJ.of_own s 2 rfl) 32 34 (D:=cG (_)) (pk _)) h eY rfl (bR _) rfl λf h=>cy h rfl (ak 0 h s eY rfl rfl (bR _) rfl λf h=>cy h rfl (ai h (ec (T0 _ _) (by kernel_rfl) (by decide) (h.ev rfl) (h.ev rfl) (decide (x.2.1=e)) (U2 _ _)) rfl λf h=>e9 ac 2 h rfl λf h=>aL3 (av rfl h s rfl (by show _=_;unfold oZ;rw [h0]<;>rfl)))))
theorem Ee (l:List Tg) (vh:Value) (i:Id) (e:dN) (w:World) (hR:bs w vh 67 l.length (aX l)) (hln:l.length<=1000):Calls Tryz.prog 10 [vh,iy i,.agg (cG e)].toArray w (cb w (is (.agg (aU (fq l i e))))):=by
 refine bK Tryz.func10 rfl Tryz.ntmps10 rfl λf h s=>qr (aV (aH i) h s rfl rfl rfl λf w1 b4 h s=>aV (cG e) h s rfl rfl rfl λf w1 b5 h s=>aK (aU cr) h s j9 rfl rfl λf w1 b6 h s=>nt (ah (bU ac 1 h rfl λf h=>ck h (hR.keep s.ext) aR9 rfl rfl λf h=>e9 ac 1 h rfl λf h=>aL4 (aL6 (λnn aa ww=>∃ k:Nat,Sl 22 aa [(0,vh),(1,iy i),(2,.agg (cG e)),(4,.pointer (some ⟨b4,0,none⟩)),(5,.pointer (some ⟨b5,0,none⟩)),(6,.pointer (some ⟨b6,0,none⟩)),(9,vh),(10,.int .i64 (l.length:Int)),(11,.int .i64 (k:Int))]/\St w [.blk b6 (.cells (aU cr) 49),.blk b5 (.cells (cG e) 47),.blk b4 (.cells (aH i) 42)] ww/\nn=l.length - k/\k<=l.length/\∀ j,j<k->oZ i e (l.getD j cr)=false) (l.length - (0)) ⟨0,h.only ⟨rfl,rfl,rfl,rfl,rfl,rfl,rfl,rfl,ao rfl (by omega),trivial⟩,s.as ⟨rfl,rfl,rfl,trivial⟩,rfl,aJ3 _,λj hj=>aO7 hj (aM6 _)⟩ ?_))))
 rintro _ f w1 ⟨k,h,s,hnn,hp0,hp1⟩
 refine bE ac 1 h rfl λf h=>ah (cB h rfl (λhc=>?_) (λhc=>?_))
 ·refine kt (ah (aL4 (qr ?_)))
  have hkl:k<l.length:=by omega
  refine ai h (bj (hR.keep s.ext) (k) aR9 gf (h.ev rfl) (h.ev rfl) (by omega) (by omega)) rfl λf h=>ap ((hR.keep s.ext).el (k) (by omega) (by decide) (D:=aU (l.getD k cr)) (fP l k hkl)) h cn rfl (aE _) rfl λf h=>aK (aU cr) h s j9 rfl rfl λf w1 b8 h s=>al 0 h s cn rfl rfl rfl (aE _) (aE _) (cP _) λw1 s=>nt (qr (ak 0 h s cn rfl rfl (aE _) rfl λf h=>ak 3 h s bW rfl rfl (by first|exact aA _|exact au _ _) rfl λf h=>ak 2 h s eY rfl rfl (bR _) rfl λf h=>dF h s Od (uW (l.getD k cr) i e _) rfl rfl λf w1 h s=>nt (bV h rfl (λhc=>?_) (λhc=>?_))))
  ·refine qr (ak 0 h s cn rfl rfl (aE _) rfl λf h=>al 1 h s cn rfl rfl rfl (aE _) (aE _) (cP _) λw1 s=>nt (aL3 (bA (aS (aS (bA (aS (lH 1 rfl h s cn rfl rfl (aE _) (by show _=_;unfold fq;rw [Pi hkl hp1 hc];rfl)))))))))
  ·refine wpIn_skip (aW (aD (aw (ai h (bo (h.ev rfl) (h.ev rfl) (by omega)) rfl λf h=>e9 ac 1 h rfl λf h=>?_))))
   exact ⟨_,by omega,⟨k+1,h.only ⟨rfl,rfl,rfl,rfl,rfl,rfl,rfl,rfl,ao rfl (by omega),trivial⟩,St.as (s.pick _ (aI8 [_] _)) ⟨rfl,rfl,rfl,trivial⟩,rfl,by omega,fF hp1 hc⟩⟩
 ·refine aL5 (aO (aO (bS (aD (qr (ai h (x8 as3 rfl) rfl λf h=>al 0 h s cn rfl rfl rfl (aE _) (aE _) (cP _) λw1 s=>nt (aL3 (lH 0 rfl h s cn rfl rfl (aE _) (by show _=_;unfold fq;rw [Qf (λj hj=>hp1 j (by omega))];rfl)))))))))
theorem H8 (l:List Tg) (vh:Value) (i:Id) (e:dN) (w:World) (hR:bs w vh 67 l.length (aX l)) (hln:l.length<=1000):Calls Tryz.prog 30 [vh,iy i,.agg (cG e)].toArray w (cb w (λv w'=>cF w' w.heap.size 49 67 v (l.filter (λy => !oZ i e y)).length (aX (l.filter (λy => !oZ i e y))))):=by
 refine bK Tryz.func30 rfl Tryz.ntmps30 rfl λf h s=>qr (aV (aH i) h s rfl rfl rfl λf w1 b4 h s=>aV (cG e) h s rfl rfl rfl λf w1 b5 h s=>e9 ac 1 h rfl λf h=>qr (cf (vs:=[]) [] h s aR9 gp rfl rfl (by simp) rfl rfl rfl λf w1 v10 h s=>?_))
 replace s:=s.resl (m:=((l.take 0).filter (λy => !oZ i e y)).length) (ys:=aX ((l.take 0).filter (λy => !oZ i e y))) 0 rfl (rfl) (rfl)
 refine e9 ac 1 h rfl λf h=>ah (bU ac 1 h rfl λf h=>ck h (hR.keep s.ext) aR9 rfl rfl λf h=>e9 ac 1 h rfl λf h=>aL4 (aL6 (λnn aa ww=>∃ k:Nat,∃ vb:Value,Sl 28 aa [(0,vh),(1,iy i),(2,.agg (cG e)),(4,.pointer (some ⟨b4,0,none⟩)),(5,.pointer (some ⟨b5,0,none⟩)),(11,vh),(12,.int .i64 (l.length:Int)),(13,.int .i64 (k:Int)),(7,vb)]/\St w [.sl vb 49 67 ((l.take k).filter (λy => !oZ i e y)).length (aX ((l.take k).filter (λy => !oZ i e y))),.blk b5 (.cells (cG e) 47),.blk b4 (.cells (aH i) 42)] ww/\nn=l.length - k/\k<=l.length) (l.length - (0)) ⟨0,v10,h.only ⟨rfl,rfl,rfl,rfl,rfl,rfl,rfl,ao rfl (by omega),rfl,trivial⟩,s.as ⟨rfl,rfl,rfl,trivial⟩,rfl,aJ3 _⟩ ?_))
 rintro _ f w1 ⟨k,vb,h,s,hnn,hp0⟩
 refine bE ac 1 h rfl λf h=>ah (cB h rfl (λhc=>?_) (λhc=>?_))
 ·refine kt (ah (aL4 (qr ?_)))
  have hkl:k<l.length:=by omega
  refine ai h (bj (hR.keep s.ext) (k) aR9 gf (h.ev rfl) (h.ev rfl) (by omega) (by omega)) rfl λf h=>ap ((hR.keep s.ext).el (k) (by omega) (by decide) (D:=aU (l.getD k cr)) (fP l k hkl)) h cn rfl (aE _) rfl λf h=>aK (aU cr) h s j9 rfl rfl λf w1 b9 h s=>al 0 h s cn rfl rfl rfl (aE _) (aE _) (cP _) λw1 s=>nt (ah ?_)
  cases hq:(!oZ i e (l.getD k cr):Bool)
  ·refine aw (ak 0 h s cn rfl rfl (aE _) rfl λf h=>ak 3 h s bW rfl rfl (by first|exact aA _|exact au _ _) rfl λf h=>ak 2 h s eY rfl rfl (bR _) rfl λf h=>jD true h s Od (uW (l.getD k cr) i e _) (by simpa using hq) rfl rfl λf w1 h s=>e9 ac 1 h rfl λf h=>kQ h rfl (wpIn_skip (aW (aD (aw (ai h (bo (h.ev rfl) (h.ev rfl) (by omega)) rfl λf h=>e9 ac 1 h rfl λf h=>?_))))))
   exact ⟨_,by omega,⟨k+1,vb,h.only ⟨rfl,rfl,rfl,rfl,rfl,rfl,rfl,ao rfl (by omega),rfl,trivial⟩,St.as (s.pick _ (aI8 [_] _)) ⟨eC (by rw [Fh hkl hq]) (by rw [Fh hkl hq]),rfl,rfl,trivial⟩,rfl,by omega⟩⟩
  ·refine aw (ak 0 h s cn rfl rfl (aE _) rfl λf h=>ak 3 h s bW rfl rfl (by first|exact aA _|exact au _ _) rfl λf h=>ak 2 h s eY rfl rfl (bR _) rfl λf h=>jD false h s Od (uW (l.getD k cr) i e _) (by simpa using hq) rfl rfl λf w1 h s=>e9 ac 1 h rfl λf h=>dG h rfl (rs ac 1 h rfl λf h=>ak 0 h s cn rfl rfl (aE _) rfl λf h=>cf (vs:=[.agg (aU (l.getD k cr))]) [.tmp 23] h s aR9 gp rfl rfl (rA _) rfl rfl rfl λf w1 v24 h s=>dD 2 0 h s aR9 gp rfl rfl rfl rfl (by decide) (by rw [gG];exact cP _) (by have h9:=xB l (λy => !oZ i e y) k;unfold maxLen;omega) (by have h9:=xB l (λy => !oZ i e y) k;omega) rfl λf w1 v25 h s=>?_))
   replace s:=s.pick _ (aJ2 _ _)
   replace s:=s.resl (m:=((l.take (k+1)).filter (λy => !oZ i e y)).length) (ys:=aX ((l.take (k+1)).filter (λy => !oZ i e y))) 1 rfl (by rw [E3 hkl hq,aH7];rfl) (by rw [E3 hkl hq,gG,ly])
   refine am ac 1 h rfl λf h=>az (aW (aD (aw (ai h (bo (h.ev rfl) (h.ev rfl) (by omega)) rfl λf h=>e9 ac 1 h rfl λf h=>?_))))
   exact ⟨_,by omega,⟨k+1,v25,h.only ⟨rfl,rfl,rfl,rfl,rfl,rfl,rfl,ao rfl (by omega),rfl,trivial⟩,St.as (s.pick _ (aI8 [_] _)) ⟨rfl,rfl,rfl,trivial⟩,rfl,by omega⟩⟩
 ·refine aL5 (aO (aO (bS (aD (bE ac 2 h rfl λf h=>aL3 (av rfl h s rfl ((by have h9:=s.getSl 0 rfl;rw [Fc (by omega)] at h9;exact h9))))))))
theorem Dz (l r:List Tg) (vh vu:Value) (w:World) (hR:bs w vh 67 l.length (aX l)) (hS:bs w vu 67 r.length (aX r)) (hln:l.length<=1000) (hln2:r.length<=1000):Calls Tryz.prog 16 [vh,vu].toArray w (cb w (is (.bool (decide (l=r))))):=by
 refine bK Tryz.func16 rfl Tryz.ntmps16 rfl λf h s=>bE ac 1 h rfl λf h=>ah (bU ac 1 h rfl λf h=>ck h (hR.keep s.ext) aR9 rfl rfl λf h=>am ac 1 h rfl λf h=>ck h (hS.keep s.ext) aR9 rfl rfl λf h=>e9 ac 1 h rfl λf h=>bV h rfl (λhc=>?_) (λhc=>?_))
 ·replace hc:=hc
  refine bE ac 1 h rfl λf h=>rt (av rfl h s rfl ((by show _=_;rw [aH1 (λe=>by subst e;simp at hc)])))
 ·have hl9:l.length=r.length:=by have:=hc;simp at this;omega
  refine kt (ah (bU ac 1 h rfl λf h=>ck h (hR.keep s.ext) aR9 rfl rfl λf h=>e9 ac 1 h rfl λf h=>aL4 (aL6 (λnn aa ww=>∃ k:Nat,Sl 26 aa [(0,vh),(1,vu),(12,.int .i64 (l.length:Int)),(13,.int .i64 (k:Int))]/\St w [] ww/\nn=l.length - k/\k<=l.length/\∀ j,j<k->l.getD j cr=r.getD j cr) (l.length - (0)) ⟨0,h.only ⟨rfl,rfl,rfl,ao rfl (by omega),trivial⟩,s.as trivial,rfl,aJ3 _,λj hj=>aO7 hj (aM6 _)⟩ ?_)))
  rintro _ f w1 ⟨k,h,s,hnn,hp0,hp1⟩
  refine bE ac 1 h rfl λf h=>ah (cB h rfl (λhc=>?_) (λhc=>?_))
  ·refine kt (ah (aL4 (qr ?_)))
   have hkl:k<l.length:=by omega
   have hkb:k<r.length:=by omega
   refine e9 ac 2 h rfl λf h=>ah (dJ 9 h (by kernel_rfl) (ay ac 2 h rfl λf h=>aF h (bj (hR.keep s.ext) (k) aR9 gf (h.ev rfl) (h.ev rfl) (by omega) (by omega)) rfl λf h=>bh ((hR.keep s.ext).el (k) (by omega) (by decide) (D:=aU (l.getD k cr)) (fP l k hkl)) h cn rfl (aE _) rfl λf h=>ay ac 2 h rfl λf h=>aF h (bj (hS.keep s.ext) (k) aR9 gf (h.ev rfl) (h.ev rfl) (by omega) (by omega)) rfl λf h=>bh ((hS.keep s.ext).el (k) (by omega) (by decide) (D:=aU (r.getD k cr)) (fP r k hkb)) h cn rfl (aE _) rfl λf h=>aF h (mM (eqG _ _) (by kernel_rfl) (by decide) (h.ev rfl) (h.ev rfl) (decide ((l.getD k cr)=r.getD k cr)) (aq1 _ _)) rfl λf h=>bY s λw1 s=>nt (bV h rfl (λhc=>?_) (λhc=>?_))))
   ·refine bE ac 1 h rfl λf h=>aL3 (bA (aS (aS (bA (aS (av rfl h s rfl ((by show _=_;rw [aH1 (λe=>by subst e;simp at hc)]))))))))
   ·refine wpIn_skip (aW (aD (aw (ai h (bo (h.ev rfl) (h.ev rfl) (by omega)) rfl λf h=>e9 ac 1 h rfl λf h=>?_))))
    exact ⟨_,by omega,⟨k+1,h.only ⟨rfl,rfl,rfl,ao rfl (by omega),trivial⟩,St.as s trivial,rfl,by omega,Lh hp1 (by simpa using hc)⟩⟩
  ·refine aL5 (aO (aO (bS (aD (bE ac 1 h rfl λf h=>aL3 (av rfl h s rfl ((by show _=_;rw [aH2 (RR hl9 (λj hj=>hp1 j (by omega)))]))))))))
end Go.Proofs.YthmlflaiidhoiaaGreatDoor
