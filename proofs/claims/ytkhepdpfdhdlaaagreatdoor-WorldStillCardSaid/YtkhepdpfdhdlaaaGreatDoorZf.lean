/- Package stack and what it stands on, so far as it is wanted: what each function answers. -/
import Derived.Test.YtkhepdpfdhdlaaaGreatDoorCon
set_option linter.unusedVariables false
set_option linter.unusedSimpArgs false
set_option linter.unusedSectionVars false
namespace Go.Proofs.YtkhepdpfdhdlaaaGreatDoor
open Go.RowKit
theorem lw (e:dN) (w:World):Calls Tryz.prog 180 [.agg (df e)].toArray w (cd w (is (.bool (pk e)))):=by
 refine bN Tryz.func180 rfl Tryz.ntmps180 rfl λf h s=>qr (aZ ((df e)) h s rfl rfl rfl λf w1 b1 h s=>e9 ac 1 h rfl λf h=>ah (cw ac 1 h rfl λf h=>ag (ae (aF.of_own s 0 rfl) 0 (jA _)) h bu rfl rfl λf h=>nt (av9 (bJ ac 2 h rfl λf h=>dA h rfl (λhc=>?_) (λhc=>?_)))))
 ·refine cw ac 1 h rfl λf h=>ag (ae (aF.of_own s 0 rfl) 33 (gX _)) h bu rfl rfl λf h=>e9 ac 2 h rfl λf h=>av8 (bh (aU (aA rfl h s rfl (by show _=_;rw [Pe _ hc]))))
 ·have hk:=hc
  refine bJ ac 2 h rfl λf h=>dA h rfl (λhc=>?_) (λhc=>?_)
  ·refine ah ?_
   cases hz:(decide (e.2.1=0#256):Bool)
   ·refine rs ac 1 h rfl λf h=>az (aF.subL (aF.of_own s 0 rfl) 1 32 (D:=aI (_)) (lS _)) h ca rfl (by first|exact aC _|exact aB _ _) rfl λf h=>am h (fQ fE) rfl λf h=>am h (a8 (.bool false) (cZ fE (h.ev rfl) (h.ev rfl)) (ar8 Value.bool hz)) rfl λf h=>e9 ac 11 h rfl λf h=>av8 (bh (aU (aA rfl h s rfl (by show _=_;rw [wB _ hc,hz];rfl))))
   ·skip
    refine rs ac 1 h rfl λf h=>az (aF.subL (aF.of_own s 0 rfl) 1 32 (D:=aI (_)) (lS _)) h ca rfl (by first|exact aC _|exact aB _ _) rfl λf h=>am h (fQ fE) rfl λf h=>am h (a8 (.bool true) (cZ fE (h.ev rfl) (h.ev rfl)) (ar8 Value.bool hz)) rfl λf h=>al ac 2 h rfl λf h=>bF h rfl (ag (ae (aF.of_own s 0 rfl) 33 (gX _)) h bu rfl rfl λf h=>bF h rfl (iV ac h rfl (λhg f h=>?_) (λhg f h=>?_)))
    ·refine e9 ac 7 h rfl λf h=>av8 (bh (aU (aA rfl h s rfl (by show _=_;rw [wB _ hc,hz,hg];rfl))))
    ·refine al ac 3 h rfl λf h=>bF h rfl (ag (ae (aF.of_own s 0 rfl) 33 (gX _)) h bu rfl rfl λf h=>e9 ac 3 h rfl λf h=>av8 (bh (aU (aA rfl h s rfl (by show _=_;rw [wB _ hc,hz,hg];rfl)))))
  ·refine wpIn_skip (bo (aK (bJ ac 1 h rfl λf h=>av8 (aA rfl h s rfl (by show _=_;rw [Lp _ hk hc])))))
theorem Nv (l:List dN) (vh:Value) (w:World) (hv:br w vh 34 l.length (eo l)) (hln:l.length<=1000000):Calls Tryz.prog 224 [vh].toArray w (cd w (is (.bool (l.all pk)))):=by
 refine bN Tryz.func224 rfl Tryz.ntmps224 rfl λf h s=>bJ ac 1 h rfl λf h=>ah (cw ac 1 h rfl λf h=>bT h (hv.keep s.ext) aC4 rfl rfl λf h=>e9 ac 1 h rfl λf h=>av9 (aw1 (λnn aa ww=>∃ k:Nat,Sl 15 aa [(0,vh),(5,vh),(6,.int .i64 (l.length:Int)),(7,.int .i64 (k:Int))]/\St w [] ww/\nn=l.length - k/\k<=l.length/\∀ i (hi:i<l.length),i<k->pk l[i]=true) (l.length - (0)) ⟨0,h.only ⟨rfl,rfl,rfl,aD rfl (by omega),trivial⟩,s.as trivial,rfl,at8 _,λi hi h9=>az2 h9 (ax1 _)⟩ ?_))
 rintro _ f w1 ⟨k,h,s,hnn,hp0,hp1⟩
 refine bJ ac 1 h rfl λf h=>ah (dA h rfl (λhc=>?_) (λhc=>?_))
 ·refine kt (ah (av9 (qr ?_)))
  have hkl:k<l.length:=by omega
  refine am h (bg (hv.keep s.ext) (k) aC4 Dm (h.ev rfl) (h.ev rfl) (by omega) (by omega)) rfl λf h=>az ((hv.keep s.ext).el (k) (by omega) (by decide) (D:=df l[k]) (T5 l k hkl)) h gG rfl (ce _) rfl λf h=>aO (df (0,0#256,0)) h s Jp rfl rfl λf w1 b4 h s=>aj 0 h s gG rfl rfl rfl (ce _) (ce _) (jp _) λw1 s=>nt (qr (ak 0 h s gG rfl rfl (ce _) rfl λf h=>dM h s kZ (lw _ _) rfl rfl λf w1 h s=>e9 ac 1 h rfl λf h=>cr h rfl (λhc=>?_) (λhc=>?_)))
  ·refine bJ ac 1 h rfl λf h=>av8 (bh (aU (aU (bh (aU (aA rfl h s rfl (ar8 Value.bool (TU hkl hc))))))))
  ·refine wpIn_skip (bo (aK (aG (am h (bY (h.ev rfl) (h.ev rfl) (by omega)) rfl λf h=>e9 ac 1 h rfl λf h=>?_))))
   exact ⟨_,by omega,⟨k+1,h.only ⟨rfl,rfl,rfl,aD rfl (by omega),trivial⟩,St.as (s.pick _ (at3 [_] _)) trivial,rfl,by omega,ry (λy=>pk y=true) hp1 hkl (by simpa using hc)⟩⟩
 ·refine aw0 (ba (ba (cj (aK (bJ ac 1 h rfl λf h=>av8 (aA rfl h s rfl (ar8 Value.bool (PR (by omega) hp1))))))))
theorem eT (l:List dN) (vh:Value) (w:World) (hv:br w vh 34 l.length (eo l)) (hln:l.length<=1000000):Calls Tryz.prog 158 [vh].toArray w (cd w (is (.bool (dH l)))):=by
 refine bN Tryz.func158 rfl Tryz.ntmps158 rfl λf h s=>bJ ac 1 h rfl λf h=>ah ?_
 refine rs ac 1 h rfl λf h=>bT h (hv.keep s.ext) aC4 rfl rfl λf h=>kE ac (decide (0<l.length)) h rfl ((as8.2 (by omega))) (λh1 f h=>?_) (λh1 f h=>?_)
 ·refine e9 ac 10 h rfl λf h=>av8 (aA rfl h s rfl (by show _=_;unfold dH;rw [h1];rfl))
 ·skip
  refine al ac 2 h rfl λf h=>bF h rfl (bT h (hv.keep s.ext) aC4 rfl rfl λf h=>bF h rfl (kE ac (decide (l.length<=4)) h rfl ((as8.2 (by omega))) (λh2 f h=>?_) (λh2 f h=>?_)))
  ·refine e9 ac 6 h rfl λf h=>av8 (aA rfl h s rfl (by show _=_;unfold dH;rw [h1,h2];rfl))
  ·refine al ac 3 h rfl λf h=>bF h rfl (dM h s UP (Nv l vh _ (hv.keep s.ext) hln) rfl rfl λf w1 h s=>e9 ac 2 h rfl λf h=>av8 (aA rfl h s rfl (by show _=_;unfold dH;rw [h1,h2];rfl)))
theorem LC (l:List dN) (hr:dH l=false) (hln:l.length<=1000000) (vh:Value) (w:World) (hv:br w vh 34 l.length (eo l)):Calls Tryz.prog 310 [vh].toArray w (cd w (is (.tuple #[.string ⟨#[]⟩,.int .i64 1]))):=by
 refine bN Tryz.func310 rfl Tryz.ntmps310 rfl λf h s=>bJ ac 2 h rfl λf h=>ah (cw ac 1 h rfl λf h=>jc false h s jH (eT l vh _ (hv.keep s.ext) hln) (hr) rfl rfl λf w1 h s=>e9 ac 1 h rfl λf h=>dw h rfl (bJ ac 2 h rfl λf h=>rt (wQ rfl h s rfl rfl (rfl))))
theorem PW (l:List dN) (hr:dH l=true) (vh:Value) (w:World) (hv:br w vh 34 l.length (eo l)):Calls Tryz.prog 310 [vh].toArray w (cd w (is (.tuple #[.string (zu l),.int .i64 0]))):=by
 obtain ⟨hr1,hr2,hr3⟩:=(fc l).1 hr
 refine bN Tryz.func310 rfl Tryz.ntmps310 rfl λf h s=>bJ ac 2 h rfl λf h=>ah (cw ac 1 h rfl λf h=>bB h s jH (a6 (.bool true) (eT l vh _ (hv.keep s.ext) (by omega)) (ar8 Value.bool hr)) rfl rfl ?_);intro f w1 v9 hT hE h s;obtain rfl:=hT
 refine e9 ac 1 h rfl λf h=>mQ h rfl (cw ac 1 h rfl λf h=>bT h (hv.keep s.ext) aC4 rfl rfl λf h=>am h (a8 (.int .u8 ((l.length:Nat):Int)) (gj aB7 az4 (h.ev rfl)) (ar8 (Value.int .u8) (by omega))) rfl λf h=>cU (vs:=[.int .u8 ((l.length:Nat):Int)]) [.tmp 12] h s aE8 rx rfl rfl (by simp [Value.cells]) rfl rfl rfl λf w1 v13 h s=>e9 ac 1 h rfl λf h=>ah (cw ac 1 h rfl λf h=>bT h (hv.keep s.ext) aC4 rfl rfl λf h=>e9 ac 1 h rfl λf h=>av9 (aw1 (λnn aa ww=>∃ k:Nat,∃ vb:Value,Sl 42 aa [(0,vh),(4,vb),(14,vh),(15,.int .i64 (l.length:Int)),(16,.int .i64 (k:Int))]/\St w [.sl vb 5 1 (gB l k).length (je (gB l k))] ww/\nn=l.length - k/\k<=l.length) (l.length - (0)) ⟨0,v13,h.only ⟨rfl,rfl,rfl,rfl,aD rfl (by omega),trivial⟩,s.as ⟨ib rfl rfl,trivial⟩,rfl,at8 _⟩ ?_)))
 rintro _ f w1 ⟨k,vb,h,s,hnn,hp0⟩
 have hkb:=Fg l k
 refine bJ ac 1 h rfl λf h=>ah (dA h rfl (λhc=>?_) (λhc=>?_))
 ·refine kt (ah (av9 (qr ?_)))
  have hkl:k<l.length:=by omega
  refine am h (bg (hv.keep s.ext) (k) aC4 Dm (h.ev rfl) (h.ev rfl) (by omega) (by omega)) rfl λf h=>az ((hv.keep s.ext).el (k) (by omega) (by decide) (D:=df l[k]) (T5 l k hkl)) h gG rfl (ce _) rfl λf h=>aO (df (0,0#256,0)) h s Jp rfl rfl λf w1 b6 h s=>aj 0 h s gG rfl rfl rfl (ce _) (ce _) (jp _) λw1 s=>nt (cw ac 2 h rfl λf h=>ag (ae (aF.of_own s 0 rfl) 0 (jA _)) h bu rfl rfl λf h=>?_)
  have hE:=hr3 _ (ax6 hkl)
  have hkk:=G8 hE
  refine am h (a8 (.int .u8 ((l[k].1.toNat:Nat):Int)) (gj aB7 az4 (h.ev rfl)) (ar8 (Value.int .u8) (by omega))) rfl λf h=>cU (vs:=[.int .u8 ((l[k].1.toNat:Nat):Int)]) [.tmp 23] h s aE8 rx rfl rfl (by simp [Value.cells]) rfl rfl rfl λf w1 v24 h s=>ez 2 0 h s aE8 rx rfl rfl rfl rfl (by decide) (by simp [Value.oneCell',Value.cells]) (by unfold maxLen;omega) (by omega) rfl λf w1 v25 h s=>?_
  replace s:=s.pick _ (at7 _ _)
  refine e9 ac 1 h rfl λf h=>cw ac 1 h rfl λf h=>ag (ae (aF.of_own s 0 rfl) 0 (jA _)) h bu rfl rfl λf h=>e9 ac 1 h rfl λf h=>dA h rfl (λhc=>?_) (λhc=>?_)
  ·refine rs ac 2 h rfl λf h=>am h (ki az3 i4 (h.ev rfl)) rfl λf h=>ja 1 (br.of_has (aF.subL (o:=0) (aF.of_own s 0 rfl) 1 32 (D:=aI l[k].2.1) (lS _)) (by first|exact aB _ _|exact aC _) (at6 _)) h s aE8 rx rfl rfl rfl (by rw [dU];exact ef _ _) (by unfold maxLen;omega) (by omega) rfl λf w1 v32 h s=>al ac 1 h rfl λf h=>aw (bo (aK (aG (am h (bY (h.ev rfl) (h.ev rfl) (by omega)) rfl λf h=>e9 ac 1 h rfl λf h=>?_))))
   exact ⟨_,by omega,⟨k+1,v32,h.only ⟨rfl,rfl,rfl,rfl,aD rfl (by omega),trivial⟩,St.as (s.pick _ (ar3 _ (ar2 _ (at5 _)))) ⟨ib (R1 hkl hc) (Sm hkl hc),trivial⟩,rfl,by omega⟩⟩
  ·refine rs ac 2 h rfl λf h=>ag (ae (aF.of_own s 0 rfl) 33 (gX _)) h bu rfl rfl λf h=>?_
   have hho:=KR hE hc
   refine am h (a8 (.int .u8 ((l[k].2.2.toNat:Nat):Int)) (gj aB7 az4 (h.ev rfl)) (ar8 (Value.int .u8) (by omega))) rfl λf h=>cU (vs:=[.int .u8 ((l[k].2.2.toNat:Nat):Int)]) [.tmp 36] h s aE8 rx rfl rfl (by simp [Value.cells]) rfl rfl rfl λf w1 v37 h s=>ez 2 0 h s aE8 rx rfl rfl rfl rfl (by decide) (by simp [Value.oneCell',Value.cells]) (by unfold maxLen;omega) (by omega) rfl λf w1 v38 h s=>?_
   replace s:=s.pick _ (at7 _ _)
   refine al ac 1 h rfl λf h=>aw (bo (aK (aG (am h (bY (h.ev rfl) (h.ev rfl) (by omega)) rfl λf h=>e9 ac 1 h rfl λf h=>?_))))
   exact ⟨_,by omega,⟨k+1,v38,h.only ⟨rfl,rfl,rfl,rfl,aD rfl (by omega),trivial⟩,St.as (s.pick _ (ar3 _ (ar2 _ (at5 _)))) ⟨ib (Ul hkl hho.1) (Vn hkl hho.1),trivial⟩,rfl,by omega⟩⟩
 ·refine aw0 (ba (ba (cj (aK (qr ?_)))))
  obtain rfl:k=l.length:=by omega
  refine al ac 1 h rfl λf h=>Ai 0 h s aE8 az4 aB9 rfl rfl rfl ?_;intro f h
  refine e9 ac 2 h rfl λf h=>av8 (wQ rfl h s rfl rfl (by show _=_;rw [Fu];rfl))
theorem Hd (l:List dN) (hln:l.length<=1000000) (vh:Value) (w:World) (hv:br w vh 34 l.length (eo l)):Calls Tryz.prog 310 [vh].toArray w (cd w (is (.tuple #[.string (nP l),.int .i64 (Ak l)]))):=by
 cases h:dH l
 ·rw [show nP l=⟨#[]⟩ from by unfold nP;rw [h];rfl,show Ak l=1 from by unfold Ak;rw [h];rfl]
  exact LC l h hln vh w hv
 ·rw [show nP l=zu l from by unfold nP;rw [h];rfl,show Ak l=0 from by unfold Ak;rw [h];rfl]
  exact PW l h vh w hv
end Go.Proofs.YtkhepdpfdhdlaaaGreatDoor
