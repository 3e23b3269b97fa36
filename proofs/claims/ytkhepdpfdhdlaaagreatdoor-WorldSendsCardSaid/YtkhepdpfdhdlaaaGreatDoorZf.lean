/- Package stack and what it stands on, so far as it is wanted: what each function answers. -/
import Derived.Test.YtkhepdpfdhdlaaaGreatDoorCon
set_option linter.unusedVariables false
set_option linter.unusedSimpArgs false
set_option linter.unusedSectionVars false
namespace Go.Proofs.YtkhepdpfdhdlaaaGreatDoor
open Go.RowKit
theorem jA (e:cO) (w:World):Calls Tryz.prog 180 [.agg (co e)].toArray w (bW w (is (.bool (lY e)))):=by
 refine bG Tryz.func180 rfl Tryz.ntmps180 rfl λf h s=>qr (bh ((co e)) h s rfl rfl rfl λf w1 b1 h s=>e9 ac 1 h rfl λf h=>ah (cu ac 1 h rfl λf h=>ag (ae (aJ.of_own s 0 rfl) 0 (ic _)) h bs rfl rfl λf h=>nt (Y9 (bF ac 2 h rfl λf h=>dq h rfl (λhc=>?_) (λhc=>?_)))))
 ·refine cu ac 1 h rfl λf h=>ag (ae (aJ.of_own s 0 rfl) 33 (fH _)) h bs rfl rfl λf h=>e9 ac 2 h rfl λf h=>Y8 (bo (aV (au rfl h s rfl (by show _=_;rw [I6 _ hc]))))
 ·have hk:=hc
  refine bF ac 2 h rfl λf h=>dq h rfl (λhc=>?_) (λhc=>?_)
  ·refine ah ?_
   cases hz:(decide (e.2.1=0#256):Bool)
   ·refine rs ac 1 h rfl λf h=>aB (aJ.subL (aJ.of_own s 0 rfl) 1 32 (D:=aA (_)) (j9 _)) h cJ rfl (by first|exact aF _|exact aE _ _) rfl λf h=>ai h (ey fW) rfl λf h=>ai h (bq (.bool false) (dn fW (h.ev rfl) (h.ev rfl)) (Yu Value.bool hz)) rfl λf h=>e9 ac 11 h rfl λf h=>Y8 (bo (aV (au rfl h s rfl (by show _=_;rw [sP _ hc,hz];rfl))))
   ·skip
    refine rs ac 1 h rfl λf h=>aB (aJ.subL (aJ.of_own s 0 rfl) 1 32 (D:=aA (_)) (j9 _)) h cJ rfl (by first|exact aF _|exact aE _ _) rfl λf h=>ai h (ey fW) rfl λf h=>ai h (bq (.bool true) (dn fW (h.ev rfl) (h.ev rfl)) (Yu Value.bool hz)) rfl λf h=>ap ac 2 h rfl λf h=>bX h rfl (ag (ae (aJ.of_own s 0 rfl) 33 (fH _)) h bs rfl rfl λf h=>bX h rfl (kB ac h rfl (λhg f h=>?_) (λhg f h=>?_)))
    ·refine e9 ac 7 h rfl λf h=>Y8 (bo (aV (au rfl h s rfl (by show _=_;rw [sP _ hc,hz,hg];rfl))))
    ·refine ap ac 3 h rfl λf h=>bX h rfl (ag (ae (aJ.of_own s 0 rfl) 33 (fH _)) h bs rfl rfl λf h=>e9 ac 3 h rfl λf h=>Y8 (bo (aV (au rfl h s rfl (by show _=_;rw [sP _ hc,hz,hg];rfl)))))
  ·refine wpIn_skip (bw (aO (bF ac 1 h rfl λf h=>Y8 (au rfl h s rfl (by show _=_;rw [Hl _ hk hc])))))
theorem JL (l:List cO) (vh:Value) (w:World) (hv:bp w vh 34 l.length (db l)) (hln:l.length<=1000000):Calls Tryz.prog 224 [vh].toArray w (bW w (is (.bool (l.all lY)))):=by
 refine bG Tryz.func224 rfl Tryz.ntmps224 rfl λf h s=>bF ac 1 h rfl λf h=>ah (cu ac 1 h rfl λf h=>ce h (hv.keep s.ext) aa2 rfl rfl λf h=>e9 ac 1 h rfl λf h=>Y9 (Zb (λnn aa ww=>∃ k:Nat,Sl 15 aa [(0,vh),(5,vh),(6,.int .i64 (l.length:Int)),(7,.int .i64 (k:Int))]/\St w [] ww/\nn=l.length - k/\k<=l.length/\∀ i (hi:i<l.length),i<k->lY l[i]=true) (l.length - (0)) ⟨0,h.only ⟨rfl,rfl,rfl,av rfl (by omega),trivial⟩,s.as trivial,rfl,YO _,λi hi h9=>ZF h9 (Zl _)⟩ ?_))
 rintro _ f w1 ⟨k,h,s,hnn,hp0,hp1⟩
 refine bF ac 1 h rfl λf h=>ah (dq h rfl (λhc=>?_) (λhc=>?_))
 ·refine kt (ah (Y9 (qr ?_)))
  have hkl:k<l.length:=by omega
  refine ai h (bz (hv.keep s.ext) (k) aa2 wC (h.ev rfl) (h.ev rfl) (by omega) (by omega)) rfl λf h=>aB ((hv.keep s.ext).el (k) (by omega) (by decide) (D:=co l[k]) (Nv l k hkl)) h eQ rfl (br _) rfl λf h=>aS (co (0,0#256,0)) h s yG rfl rfl λf w1 b4 h s=>ak 0 h s eQ rfl rfl rfl (br _) (br _) (go _) λw1 s=>nt (qr (al 0 h s eQ rfl rfl (br _) rfl λf h=>da h s jV (jA _ _) rfl rfl λf w1 h s=>e9 ac 1 h rfl λf h=>cA h rfl (λhc=>?_) (λhc=>?_)))
  ·refine bF ac 1 h rfl λf h=>Y8 (bo (aV (aV (bo (aV (au rfl h s rfl (Yu Value.bool (Pc hkl hc))))))))
  ·refine wpIn_skip (bw (aO (aG (ai h (bS (h.ev rfl) (h.ev rfl) (by omega)) rfl λf h=>e9 ac 1 h rfl λf h=>?_))))
   exact ⟨_,by omega,⟨k+1,h.only ⟨rfl,rfl,rfl,av rfl (by omega),trivial⟩,St.as (s.pick _ (YJ [_] _)) trivial,rfl,by omega,wK (λy=>lY y=true) hp1 hkl (by simpa using hc)⟩⟩
 ·refine Za (a7 (a7 (cd (aO (bF ac 1 h rfl λf h=>Y8 (au rfl h s rfl (Yu Value.bool (KC (by omega) hp1))))))))
theorem ec (l:List cO) (vh:Value) (w:World) (hv:bp w vh 34 l.length (db l)) (hln:l.length<=1000000):Calls Tryz.prog 158 [vh].toArray w (bW w (is (.bool (cZ l)))):=by
 refine bG Tryz.func158 rfl Tryz.ntmps158 rfl λf h s=>bF ac 1 h rfl λf h=>ah ?_
 refine rs ac 1 h rfl λf h=>ce h (hv.keep s.ext) aa2 rfl rfl λf h=>jo ac (decide (0<l.length)) h rfl ((YE.2 (by omega))) (λh1 f h=>?_) (λh1 f h=>?_)
 ·refine e9 ac 10 h rfl λf h=>Y8 (au rfl h s rfl (by show _=_;unfold cZ;rw [h1];rfl))
 ·skip
  refine ap ac 2 h rfl λf h=>bX h rfl (ce h (hv.keep s.ext) aa2 rfl rfl λf h=>bX h rfl (jo ac (decide (l.length<=4)) h rfl ((YE.2 (by omega))) (λh2 f h=>?_) (λh2 f h=>?_)))
  ·refine e9 ac 6 h rfl λf h=>Y8 (au rfl h s rfl (by show _=_;unfold cZ;rw [h1,h2];rfl))
  ·refine ap ac 3 h rfl λf h=>bX h rfl (da h s QD (JL l vh _ (hv.keep s.ext) hln) rfl rfl λf w1 h s=>e9 ac 2 h rfl λf h=>Y8 (au rfl h s rfl (by show _=_;unfold cZ;rw [h1,h2];rfl)))
theorem EU (l:List cO) (hr:cZ l=false) (hln:l.length<=1000000) (vh:Value) (w:World) (hv:bp w vh 34 l.length (db l)):Calls Tryz.prog 310 [vh].toArray w (bW w (is (.tuple #[.string ⟨#[]⟩,.int .i64 1]))):=by
 refine bG Tryz.func310 rfl Tryz.ntmps310 rfl λf h s=>bF ac 2 h rfl λf h=>ah (cu ac 1 h rfl λf h=>m9 false h s iH (ec l vh _ (hv.keep s.ext) hln) (hr) rfl rfl λf w1 h s=>e9 ac 1 h rfl λf h=>dQ h rfl (bF ac 2 h rfl λf h=>rt (lr rfl h s rfl rfl (rfl))))
theorem Jr (l:List cO) (hr:cZ l=true) (vh:Value) (w:World) (hv:bp w vh 34 l.length (db l)):Calls Tryz.prog 310 [vh].toArray w (bW w (is (.tuple #[.string (xy l),.int .i64 0]))):=by
 obtain ⟨hr1,hr2,hr3⟩:=(ee l).1 hr
 refine bG Tryz.func310 rfl Tryz.ntmps310 rfl λf h s=>bF ac 2 h rfl λf h=>ah (cu ac 1 h rfl λf h=>bB h s iH (aX (.bool true) (ec l vh _ (hv.keep s.ext) (by omega)) (Yu Value.bool hr)) rfl rfl ?_);intro f w1 v9 hT hE h s;obtain rfl:=hT
 refine e9 ac 1 h rfl λf h=>qC h rfl (cu ac 1 h rfl λf h=>ce h (hv.keep s.ext) aa2 rfl rfl λf h=>ai h (bq (.int .u8 ((l.length:Nat):Int)) (eT Z5 ZH (h.ev rfl)) (Yu (Value.int .u8) (by omega))) rfl λf h=>cT (vs:=[.int .u8 ((l.length:Nat):Int)]) [.tmp 12] h s ac5 oI rfl rfl (by simp [Value.cells]) rfl rfl rfl λf w1 v13 h s=>e9 ac 1 h rfl λf h=>ah (cu ac 1 h rfl λf h=>ce h (hv.keep s.ext) aa2 rfl rfl λf h=>e9 ac 1 h rfl λf h=>Y9 (Zb (λnn aa ww=>∃ k:Nat,∃ vb:Value,Sl 42 aa [(0,vh),(4,vb),(14,vh),(15,.int .i64 (l.length:Int)),(16,.int .i64 (k:Int))]/\St w [.sl vb 5 1 (fv l k).length (g6 (fv l k))] ww/\nn=l.length - k/\k<=l.length) (l.length - (0)) ⟨0,v13,h.only ⟨rfl,rfl,rfl,rfl,av rfl (by omega),trivial⟩,s.as ⟨ge rfl rfl,trivial⟩,rfl,YO _⟩ ?_)))
 rintro _ f w1 ⟨k,vb,h,s,hnn,hp0⟩
 have hkb:=Co l k
 refine bF ac 1 h rfl λf h=>ah (dq h rfl (λhc=>?_) (λhc=>?_))
 ·refine kt (ah (Y9 (qr ?_)))
  have hkl:k<l.length:=by omega
  refine ai h (bz (hv.keep s.ext) (k) aa2 wC (h.ev rfl) (h.ev rfl) (by omega) (by omega)) rfl λf h=>aB ((hv.keep s.ext).el (k) (by omega) (by decide) (D:=co l[k]) (Nv l k hkl)) h eQ rfl (br _) rfl λf h=>aS (co (0,0#256,0)) h s yG rfl rfl λf w1 b6 h s=>ak 0 h s eQ rfl rfl rfl (br _) (br _) (go _) λw1 s=>nt (cu ac 2 h rfl λf h=>ag (ae (aJ.of_own s 0 rfl) 0 (ic _)) h bs rfl rfl λf h=>?_)
  have hE:=hr3 _ (Zq hkl)
  have hkk:=Ig hE
  refine ai h (bq (.int .u8 ((l[k].1.toNat:Nat):Int)) (eT Z5 ZH (h.ev rfl)) (Yu (Value.int .u8) (by omega))) rfl λf h=>cT (vs:=[.int .u8 ((l[k].1.toNat:Nat):Int)]) [.tmp 23] h s ac5 oI rfl rfl (by simp [Value.cells]) rfl rfl rfl λf w1 v24 h s=>ei 2 0 h s ac5 oI rfl rfl rfl rfl (by decide) (by simp [Value.oneCell',Value.cells]) (by unfold maxLen;omega) (by omega) rfl λf w1 v25 h s=>?_
  replace s:=s.pick _ (YN _ _)
  refine e9 ac 1 h rfl λf h=>cu ac 1 h rfl λf h=>ag (ae (aJ.of_own s 0 rfl) 0 (ic _)) h bs rfl rfl λf h=>e9 ac 1 h rfl λf h=>dq h rfl (λhc=>?_) (λhc=>?_)
  ·refine rs ac 2 h rfl λf h=>ai h (i7 ZG gW (h.ev rfl)) rfl λf h=>jm 1 (bp.of_has (aJ.subL (o:=0) (aJ.of_own s 0 rfl) 1 32 (D:=aA l[k].2.1) (j9 _)) (by first|exact aE _ _|exact aF _) (YM _)) h s ac5 oI rfl rfl rfl (by rw [di];exact dB _ _) (by unfold maxLen;omega) (by omega) rfl λf w1 v32 h s=>ap ac 1 h rfl λf h=>ay (bw (aO (aG (ai h (bS (h.ev rfl) (h.ev rfl) (by omega)) rfl λf h=>e9 ac 1 h rfl λf h=>?_))))
   exact ⟨_,by omega,⟨k+1,v32,h.only ⟨rfl,rfl,rfl,rfl,av rfl (by omega),trivial⟩,St.as (s.pick _ (Yp _ (Yo _ (YL _)))) ⟨ge (QC hkl hc) (O9 hkl hc),trivial⟩,rfl,by omega⟩⟩
  ·refine rs ac 2 h rfl λf h=>ag (ae (aJ.of_own s 0 rfl) 33 (fH _)) h bs rfl rfl λf h=>?_
   have hho:=Ey hE hc
   refine ai h (bq (.int .u8 ((l[k].2.2.toNat:Nat):Int)) (eT Z5 ZH (h.ev rfl)) (Yu (Value.int .u8) (by omega))) rfl λf h=>cT (vs:=[.int .u8 ((l[k].2.2.toNat:Nat):Int)]) [.tmp 36] h s ac5 oI rfl rfl (by simp [Value.cells]) rfl rfl rfl λf w1 v37 h s=>ei 2 0 h s ac5 oI rfl rfl rfl rfl (by decide) (by simp [Value.oneCell',Value.cells]) (by unfold maxLen;omega) (by omega) rfl λf w1 v38 h s=>?_
   replace s:=s.pick _ (YN _ _)
   refine ap ac 1 h rfl λf h=>ay (bw (aO (aG (ai h (bS (h.ev rfl) (h.ev rfl) (by omega)) rfl λf h=>e9 ac 1 h rfl λf h=>?_))))
   exact ⟨_,by omega,⟨k+1,v38,h.only ⟨rfl,rfl,rfl,rfl,av rfl (by omega),trivial⟩,St.as (s.pick _ (Yp _ (Yo _ (YL _)))) ⟨ge (QI hkl hho.1) (NF hkl hho.1),trivial⟩,rfl,by omega⟩⟩
 ·refine Za (a7 (a7 (cd (aO (qr ?_)))))
  obtain rfl:k=l.length:=by omega
  refine ap ac 1 h rfl λf h=>vZ 0 h s ac5 ZH Z7 rfl rfl rfl ?_;intro f h
  refine e9 ac 2 h rfl λf h=>Y8 (lr rfl h s rfl rfl (by show _=_;rw [CF];rfl))
theorem Gb (l:List cO) (hln:l.length<=1000000) (vh:Value) (w:World) (hv:bp w vh 34 l.length (db l)):Calls Tryz.prog 310 [vh].toArray w (bW w (is (.tuple #[.string (lI l),.int .i64 (wz l)]))):=by
 cases h:cZ l
 ·rw [show lI l=⟨#[]⟩ from by unfold lI;rw [h];rfl,show wz l=1 from by unfold wz;rw [h];rfl]
  exact EU l h hln vh w hv
 ·rw [show lI l=xy l from by unfold lI;rw [h];rfl,show wz l=0 from by unfold wz;rw [h];rfl]
  exact Jr l h vh w hv
end Go.Proofs.YtkhepdpfdhdlaaaGreatDoor
