/- Package table: what its functions answer. -/
import Derived.Test.YthmlflaiidhoiaaGreatDoorZf
import Derived.Test.YthmlflaiidhoiaaGreatDoorZa
import Derived.Test.YthmlflaiidhoiaaGreatDoorZe
import Derived.Test.YthmlflaiidhoiaaGreatDoorZg
set_option linter.unusedVariables false
namespace Go.Proofs.YthmlflaiidhoiaaGreatDoor
open Go.RowKit
theorem iT (x:Tg) (w:World):Calls Tryz.prog 43 [.agg (aU x)].toArray w (cb w (is (.bool (iV x)))):=by
 refine bK Tryz.func43 rfl Tryz.ntmps43 rfl λf h s=>qr (aV (aU x) h s rfl rfl rfl λf w1 b1 h s=>e9 ac 1 h rfl λf h=>ah ?_)
 refine rs ac 1 h rfl λf h=>ap (aJ.subL (aJ.of_own s 0 rfl) 32 34 (D:=cG (_)) (pk _)) h eY rfl (bR _) rfl λf h=>fh h s rj (mj x.2.1 _) rfl rfl (λh0 f w1 h s=>?_) (λh0 f w1 h s=>?_)
 ·refine e9 ac 11 h rfl λf h=>aL3 (av rfl h s rfl (by show _=_;unfold iV;rw [h0]<;>rfl))
 ·skip
  refine am ac 2 h rfl λf h=>cy h rfl (ag (ae (aJ.of_own s 0 rfl) 66 (fK _)) h bJ rfl rfl λf h=>cy h rfl (lL ac h rfl (λh1 f h=>?_) (λh1 f h=>?_)))
  ·refine e9 ac 7 h rfl λf h=>aL3 (av rfl h s rfl (by show _=_;unfold iV;rw [h0,h1]<;>rfl))
  ·refine am ac 3 h rfl λf h=>cy h rfl (ag (ae (aJ.of_own s 0 rfl) 66 (fK _)) h bJ rfl rfl λf h=>e9 ac 3 h rfl λf h=>aL3 (av rfl h s rfl (by show _=_;unfold iV;rw [h0,h1]<;>rfl)))
theorem Cc (x y:Tg) (w:World):Calls Tryz.prog 143 [.agg (aU x),.agg (aU y)].toArray w (cb w (is (.int .i64 (ri x y 1)))):=by
 refine bK Tryz.func143 rfl Tryz.ntmps143 rfl λf h s=>qr (aV (aU x) h s rfl rfl rfl λf w1 b2 h s=>aV (aU y) h s rfl rfl rfl λf w1 b3 h s=>e9 ac 1 h rfl λf h=>bU ac 2 h rfl λf h=>ag (ae (aJ.of_own s 1 rfl) 32 (iB _)) h bJ rfl rfl λf h=>am ac 2 h rfl λf h=>ag (ae (aJ.of_own s 0 rfl) 32 (iB _)) h bJ rfl rfl λf h=>dF h s uk (mo x.2.1.1 y.2.1.1 _) rfl rfl λf w1 h s=>e9 ac 1 h rfl λf h=>aL3 (av rfl h s rfl (rfl)))
theorem Cf (x y:Tg) (w:World):Calls Tryz.prog 145 [.agg (aU x),.agg (aU y)].toArray w (cb w (is (.int .i64 (ri x y 3)))):=by
 refine bK Tryz.func145 rfl Tryz.ntmps145 rfl λf h s=>qr (aV (aU x) h s rfl rfl rfl λf w1 b2 h s=>aV (aU y) h s rfl rfl rfl λf w1 b3 h s=>e9 ac 1 h rfl λf h=>bU ac 2 h rfl λf h=>ag (ae (aJ.of_own s 1 rfl) 65 (ln _)) h bJ rfl rfl λf h=>am ac 2 h rfl λf h=>ag (ae (aJ.of_own s 0 rfl) 65 (ln _)) h bJ rfl rfl λf h=>dF h s uk (mo x.2.1.2.2 y.2.1.2.2 _) rfl rfl λf w1 h s=>e9 ac 1 h rfl λf h=>aL3 (av rfl h s rfl (rfl)))
theorem DD (x y:Tg) (w:World):Calls Tryz.prog 31 [.agg (aU x),.agg (aU y)].toArray w (cb w (is (.bool (gz x y)))):=by
 refine bK Tryz.func31 rfl Tryz.ntmps31 rfl λf h s=>qr (aV (aU x) h s rfl rfl rfl λf w1 b2 h s=>aV (aU y) h s rfl rfl rfl λf w1 b3 h s=>e9 ac 1 h rfl λf h=>bU ac 1 h rfl λf h=>ap (aJ.subL (aJ.of_own s 1 rfl) 0 32 (D:=aH (_)) (gZ _)) h bW rfl (by first|exact aA _|exact au _ _) rfl λf h=>am ac 1 h rfl λf h=>ap (aJ.subL (aJ.of_own s 0 rfl) 0 32 (D:=aH (_)) (gZ _)) h bW rfl (by first|exact aA _|exact au _ _) rfl λf h=>dF h s SU (pB x.1 y.1 _) rfl rfl λf w1 h s=>e9 ac 1 h rfl λf h=>ah (bE ac 2 h rfl λf h=>bV h rfl (λhc=>?_) (λhc=>?_)))
 ·have h0:=aG9 hc
  refine bE ac 3 h rfl λf h=>rt (av rfl h s rfl (aH3 Value.bool (ao7 h0)))
 ·have h0:=aH0 hc
  refine kt (ah (bU ac 2 h rfl λf h=>ag (ae (aJ.of_own s 1 rfl) 32 (iB _)) h bJ rfl rfl λf h=>am ac 2 h rfl λf h=>ag (ae (aJ.of_own s 0 rfl) 32 (iB _)) h bJ rfl rfl λf h=>e9 ac 1 h rfl λf h=>bV h rfl (λhc=>?_) (λhc=>?_)))
  ·have h1:=aG9 hc
   refine bU ac 2 h rfl λf h=>ag (ae (aJ.of_own s 1 rfl) 32 (iB _)) h bJ rfl rfl λf h=>am ac 2 h rfl λf h=>ag (ae (aJ.of_own s 0 rfl) 32 (iB _)) h bJ rfl rfl λf h=>e9 ac 2 h rfl λf h=>rt (av rfl h s rfl (aH3 Value.bool (ar8 h0 h1)))
  ·have h1:=aH0 hc
   refine kt (bU ac 2 h rfl λf h=>ap (aJ.subL (aJ.of_own s 1 rfl) 33 32 (D:=aH (_)) (nr _)) h bW rfl (by first|exact aA _|exact au _ _) rfl λf h=>am ac 2 h rfl λf h=>ap (aJ.subL (aJ.of_own s 0 rfl) 33 32 (D:=aH (_)) (nr _)) h bW rfl (by first|exact aA _|exact au _ _) rfl λf h=>dF h s SU (pB x.2.1.2.1 y.2.1.2.1 _) rfl rfl λf w1 h s=>e9 ac 1 h rfl λf h=>ah (bE ac 2 h rfl λf h=>bV h rfl (λhc=>?_) (λhc=>?_)))
   ·have h2:=aG9 hc
    refine bE ac 3 h rfl λf h=>rt (av rfl h s rfl (aH3 Value.bool (av7 h0 h1 h2)))
   ·have h2:=aH0 hc
    refine kt (bU ac 2 h rfl λf h=>ag (ae (aJ.of_own s 1 rfl) 65 (ln _)) h bJ rfl rfl λf h=>am ac 2 h rfl λf h=>ag (ae (aJ.of_own s 0 rfl) 65 (ln _)) h bJ rfl rfl λf h=>e9 ac 2 h rfl λf h=>aL3 (av rfl h s rfl (aH3 Value.bool (ap5 h0 h1 h2))))
set_option maxHeartbeats 1000000 in
theorem wE (l:List Tg) (vh:Value) (x:Tg) (w:World) (hR:bs w vh 67 l.length (aX l)) (hln:l.length<=1000):Calls Tryz.prog 15 [vh,.agg (aU x)].toArray w (cb w (λv w'=>∃ p,v=.tuple #[p,.bool (decide ((ce l x).length<=32))]/\cF w' w.heap.size 49 67 p (ce l x).length (aX (ce l x)))):=by
 obtain ⟨W,hW⟩:∃ W,W=lO l x.1 x.2.1:=⟨_,rfl⟩
 refine bK Tryz.func15 rfl Tryz.ntmps15 rfl λf h s=>qr (aV (aU x) h s rfl rfl rfl λf w1 b3 h s=>e9 ac 2 h rfl λf h=>bU ac 2 h rfl λf h=>ap (aJ.subL (aJ.of_own s 0 rfl) 0 32 (D:=aH (_)) (gZ _)) h bW rfl (by first|exact aA _|exact au _ _) rfl λf h=>am ac 1 h rfl λf h=>ap (aJ.subL (aJ.of_own s 0 rfl) 32 34 (D:=cG (_)) (pk _)) h eY rfl (bR _) rfl λf h=>aY h s ab8 (Ee l vh x.1 x.2.1 _ (hR.keep s.ext) hln) rfl rfl ?_);intro f w1 v9 hT hE h s;obtain rfl:=hT
 refine aK (aU cr) h s j9 rfl rfl λf w1 b6 h s=>al 0 h s cn rfl rfl rfl (aE _) (aE _) (cP _) λw1 s=>nt (ah (bU ac 1 h rfl λf h=>ag (ae (aJ.of_own s 0 rfl) 66 (fK _)) h bJ rfl rfl λf h=>am ac 1 h rfl λf h=>ag (ae (aJ.of_own s 1 rfl) 66 (fK _)) h bJ rfl rfl λf h=>e9 ac 1 h rfl λf h=>uE (λaa ww=>Sl 63 aa [(0,vh),(1,.agg (aU x)),(3,.pointer (some ⟨b3,0,none⟩)),(6,.pointer (some ⟨b6,0,none⟩))]/\St w [.blk b6 (.cells (aU (fq l x.1 x.2.1)) 49),.blk b3 (.cells (aU (da l x)) 49)] ww) ?_ ?_))
 ·skip
  refine cB h rfl (λhc=>?_) (λhc=>?_)
  ·refine rs ac 1 h rfl λf h=>ag (ae (aJ.of_own s 0 rfl) 66 (fK _)) h bJ rfl rfl λf h=>am ac 1 h rfl λf h=>aM 1 h s bJ rfl rfl rfl (by rw [aE];omega) (rfl) λw1 s=>nt ?_
   replace s:=s.recell (D:=aU (da l x)) 1 rfl (by rw [EJ];unfold da;rw [aH2 hc];rfl)
   exact ⟨h.only ⟨rfl,rfl,rfl,rfl,trivial⟩,St.as s ⟨rfl,rfl,trivial⟩⟩
  ·refine kt ?_
   replace s:=s.recell (D:=aU (da l x)) 1 rfl (by unfold da;rw [aH1 hc];rfl)
   exact ⟨h.only ⟨rfl,rfl,rfl,rfl,trivial⟩,St.as s ⟨rfl,rfl,trivial⟩⟩
 rintro f w1 ⟨h,s⟩
 refine aD (qr (cf (vs:=[]) [] h s aR9 gp rfl rfl (by simp) rfl rfl rfl λf w1 v25 h s=>?_))
 replace s:=s.resl (m:=(o4 W (da l x) 0).length) (ys:=aX (o4 W (da l x) 0)) 0 rfl (rfl) (rfl)
 refine e9 ac 1 h rfl λf h=>bE ac 1 h rfl λf h=>ah (bU ac 2 h rfl λf h=>ap (aJ.subL (aJ.of_own s 2 rfl) 0 32 (D:=aH (_)) (gZ _)) h bW rfl (by first|exact aA _|exact au _ _) rfl λf h=>am ac 1 h rfl λf h=>ap (aJ.subL (aJ.of_own s 2 rfl) 32 34 (D:=cG (_)) (pk _)) h eY rfl (bR _) rfl λf h=>aY h s ad3 (H8 l vh (da l x).1 (da l x).2.1 _ (hR.keep s.ext) hln) rfl rfl ?_);intro f w1 v31 hT hE h sq;rw [(eL l x).1,(eL l x).2] at hT;change cF _ _ _ 67 _ (lO l x.1 x.2.1).length (aX (lO l x.1 x.2.1)) at hT;rw [← hW] at hT;replace s:=s.sl_new hE hT
 have hWl:W.length<=l.length:=by rw [hW];exact aL2 _ _
 refine eK 0 h s aR9 rfl rfl rfl λf h=>e9 ac 1 h rfl λf h=>aL4 (aL6 (λnn aa ww=>∃ k:Nat,∃ vb:Value,Sl 63 aa [(0,vh),(1,.agg (aU x)),(3,.pointer (some ⟨b3,0,none⟩)),(6,.pointer (some ⟨b6,0,none⟩)),(7,vb),(8,.bool (EI W (da l x) k)),(31,v31),(32,.int .i64 (W.length:Int)),(33,.int .i64 (k:Int))]/\St w [.sl v31 49 67 W.length (aX W),.sl vb 49 67 (o4 W (da l x) k).length (aX (o4 W (da l x) k)),.blk b6 (.cells (aU (fq l x.1 x.2.1)) 49),.blk b3 (.cells (aU (da l x)) 49)] ww/\nn=W.length - k/\k<=W.length) (W.length - (0)) ⟨0,v25,h.only ⟨rfl,rfl,rfl,rfl,rfl,rfl,rfl,rfl,ao rfl (by omega),trivial⟩,s.as ⟨rfl,rfl,rfl,rfl,trivial⟩,rfl,aJ3 _⟩ ?_)
 rintro _ f w1 ⟨k,vb,h,s,hnn,hp0⟩
 refine bE ac 1 h rfl λf h=>ah (cB h rfl (λhc=>?_) (λhc=>?_))
 ·refine kt (ah (aL4 (qr ?_)))
  have hkw:k<W.length:=by omega
  refine ai h (bj (bs.of_own (s.getSl 0 rfl)) (k) aR9 gf (h.ev rfl) (h.ev rfl) (by omega) (by omega)) rfl λf h=>ap ((bs.of_own (s.getSl 0 rfl)).el (k) (by omega) (by decide) (D:=aU (W.getD k cr)) (fP W k hkw)) h cn rfl (aE _) rfl λf h=>aK (aU cr) h s j9 rfl rfl λf w1 b10 h s=>al 0 h s cn rfl rfl rfl (aE _) (aE _) (cP _) λw1 s=>nt (ah (ah ?_))
  refine aw (j8 ac ((EI W (da l x) k)) h rfl (rfl) (λdn f h=>?_) (λdn f h=>?_))
  ·skip
   refine am ac 2 h rfl λf h=>cy h rfl (ak 4 h s cn rfl rfl (aE _) rfl λf h=>cy h rfl (ak 0 h s cn rfl rfl (aE _) rfl λf h=>cy h rfl (fh h s ak8 (DD (da l x) (W.getD k cr) _) rfl rfl (λhl f w1 h s=>?_) (λhl f w1 h s=>?_))))
   ·refine e9 ac 1 h rfl λf h=>nH h rfl (rs ac 1 h rfl λf h=>ak 0 h s cn rfl rfl (aE _) rfl λf h=>cf (vs:=[.agg (aU (W.getD k cr))]) [.tmp 49] h s aR9 gp rfl rfl (rA _) rfl rfl rfl λf w1 v50 h s=>dD 3 0 h s aR9 gp rfl rfl rfl rfl (by decide) (by rw [gG];exact cP _) (by have h9:=nX W (da l x) k;first|(unfold maxLen;omega)|(simp only [aH7,aK5,aK6];unfold maxLen;omega)) (by have h9:=nX W (da l x) k;first|omega|(simp only [aH7,aK5,aK6];omega)) rfl λf w1 v51 h s=>?_)
    replace s:=s.pick _ (aJ2 _ _)
    replace s:=s.resl (m:=(o4 W (da l x) (k+1)).length) (ys:=aX (o4 W (da l x) (k+1))) 2 rfl (by rw [Ut hkw dn hl];simp only [aH7,aK5,aK6]) (by rw [Ut hkw dn hl,gG,ly])
    refine am ac 1 h rfl λf h=>az (aW (aD (aw (ai h (bo (h.ev rfl) (h.ev rfl) (by omega)) rfl λf h=>e9 ac 1 h rfl λf h=>?_))))
    exact ⟨_,by omega,⟨k+1,v51,h.only ⟨rfl,rfl,rfl,rfl,rfl,qD rfl (by rw [m8 hkw,dn,hl];rfl),rfl,rfl,ao rfl (by omega),trivial⟩,St.as (s.pick _ (aI8 [_] _)) ⟨rfl,rfl,rfl,rfl,trivial⟩,rfl,by omega⟩⟩
   ·refine e9 ac 1 h rfl λf h=>dG h rfl (bU ac 1 h rfl λf h=>ak 4 h s cn rfl rfl (aE _) rfl λf h=>cf (vs:=[.agg (aU (da l x))]) [.tmp 45] h s aR9 gp rfl rfl (rA _) rfl rfl rfl λf w1 v46 h s=>dD 3 0 h s aR9 gp rfl rfl rfl rfl (by decide) (by rw [gG];exact cP _) (by have h9:=nX W (da l x) k;first|(unfold maxLen;omega)|(simp only [aH7,aK5,aK6];unfold maxLen;omega)) (by have h9:=nX W (da l x) k;first|omega|(simp only [aH7,aK5,aK6];omega)) rfl λf w1 v47 h s=>?_)
    replace s:=s.pick _ (aJ2 _ _)
    replace s:=s.resl (m:=((o4 W (da l x) k)++[(da l x)]).length) (ys:=aX ((o4 W (da l x) k)++[(da l x)])) 2 rfl (by rw [aH7];rfl) (by rw [gG,ly])
    refine e9 ac 1 h rfl λf h=>re ac 1 h rfl λf h=>rs ac 1 h rfl λf h=>ak 0 h s cn rfl rfl (aE _) rfl λf h=>cf (vs:=[.agg (aU (W.getD k cr))]) [.tmp 49] h s aR9 gp rfl rfl (rA _) rfl rfl rfl λf w1 v50 h s=>dD 3 0 h s aR9 gp rfl rfl rfl rfl (by decide) (by rw [gG];exact cP _) (by have h9:=nX W (da l x) k;first|(unfold maxLen;omega)|(simp only [aH7,aK5,aK6];unfold maxLen;omega)) (by have h9:=nX W (da l x) k;first|omega|(simp only [aH7,aK5,aK6];omega)) rfl λf w1 v51 h s=>?_
    replace s:=s.pick _ (aJ2 _ _)
    replace s:=s.resl (m:=(o4 W (da l x) (k+1)).length) (ys:=aX (o4 W (da l x) (k+1))) 2 rfl (by rw [FK hkw dn hl];simp only [aH7,aK5,aK6]) (by rw [FK hkw dn hl,gG,ly])
    refine am ac 1 h rfl λf h=>az (aW (aD (aw (ai h (bo (h.ev rfl) (h.ev rfl) (by omega)) rfl λf h=>e9 ac 1 h rfl λf h=>?_))))
    exact ⟨_,by omega,⟨k+1,v51,h.only ⟨rfl,rfl,rfl,rfl,rfl,qD rfl (by rw [m8 hkw,dn,hl];rfl),rfl,rfl,ao rfl (by omega),trivial⟩,St.as (s.pick _ (aI8 [_] _)) ⟨rfl,rfl,rfl,rfl,trivial⟩,rfl,by omega⟩⟩
  ·refine e9 ac 6 h rfl λf h=>nH h rfl (rs ac 1 h rfl λf h=>ak 0 h s cn rfl rfl (aE _) rfl λf h=>cf (vs:=[.agg (aU (W.getD k cr))]) [.tmp 49] h s aR9 gp rfl rfl (rA _) rfl rfl rfl λf w1 v50 h s=>dD 3 0 h s aR9 gp rfl rfl rfl rfl (by decide) (by rw [gG];exact cP _) (by have h9:=nX W (da l x) k;first|(unfold maxLen;omega)|(simp only [aH7,aK5,aK6];unfold maxLen;omega)) (by have h9:=nX W (da l x) k;first|omega|(simp only [aH7,aK5,aK6];omega)) rfl λf w1 v51 h s=>?_)
   replace s:=s.pick _ (aJ2 _ _)
   replace s:=s.resl (m:=(o4 W (da l x) (k+1)).length) (ys:=aX (o4 W (da l x) (k+1))) 2 rfl (by rw [GD hkw dn];simp only [aH7,aK5,aK6]) (by rw [GD hkw dn,gG,ly])
   refine am ac 1 h rfl λf h=>az (aW (aD (aw (ai h (bo (h.ev rfl) (h.ev rfl) (by omega)) rfl λf h=>e9 ac 1 h rfl λf h=>?_))))
   exact ⟨_,by omega,⟨k+1,v51,h.only ⟨rfl,rfl,rfl,rfl,rfl,qD rfl (by rw [m8 hkw,dn];rfl),rfl,rfl,ao rfl (by omega),trivial⟩,St.as (s.pick _ (aI8 [_] _)) ⟨rfl,rfl,rfl,rfl,trivial⟩,rfl,by omega⟩⟩
 ·refine aL5 (aO (aO (bS (aD (ah (ah ?_))))))
  cases de:((EI W (da l x) W.length):Bool)
  ·refine aw ?_
   obtain rfl:k=W.length:=by omega
   refine lj ac h rfl de λf h=>e9 ac 1 h rfl λf h=>dG h rfl (rs ac 1 h rfl λf h=>ak 3 h s cn rfl rfl (aE _) rfl λf h=>cf (vs:=[.agg (aU (da l x))]) [.tmp 56] h s aR9 gp rfl rfl (rA _) rfl rfl rfl λf w1 v57 h s=>dD 2 0 h s aR9 gp rfl rfl rfl rfl (by decide) (by rw [gG];exact cP _) (by have h9:=nX W (da l x) W.length;first|(unfold maxLen;omega)|(simp only [aH7,aK5,aK6];unfold maxLen;omega)) (by have h9:=nX W (da l x) W.length;first|omega|(simp only [aH7,aK5,aK6];omega)) rfl λf w1 v58 h s=>?_)
   replace s:=s.pick _ (aJ2 _ _)
   replace s:=s.resl (m:=((o4 W (da l x) W.length)++[(da l x)]).length) (ys:=aX ((o4 W (da l x) W.length)++[(da l x)])) 1 rfl (by rw [aH7];rfl) (by rw [gG,ly])
   refine e9 ac 1 h rfl λf h=>bU ac 2 h rfl λf h=>eK 1 h s aR9 rfl rfl rfl λf h=>e9 ac 3 h rfl λf h=>aL3 (fc rfl h s rfl rfl ((by have he:=Mw (W:=W) (y:=(da l x));rw [de] at he;exact BL (K:=((o4 W (da l x) W.length)++[(da l x)])) ((by rw [hW];rfl:ce l x=fW W (da l x)).trans he) (s.getSl 1 rfl))))
  ·refine aw ?_
   obtain rfl:k=W.length:=by omega
   refine jK ac h rfl de λf h=>e9 ac 1 h rfl λf h=>nH h rfl (bU ac 2 h rfl λf h=>eK 1 h s aR9 rfl rfl rfl λf h=>e9 ac 3 h rfl λf h=>aL3 (fc rfl h s rfl rfl ((by have he:=Mw (W:=W) (y:=(da l x));rw [de] at he;exact BL (K:=(o4 W (da l x) W.length)) ((by rw [hW];rfl:ce l x=fW W (da l x)).trans he) (s.getSl 1 rfl)))))
end Go.Proofs.YthmlflaiidhoiaaGreatDoor
