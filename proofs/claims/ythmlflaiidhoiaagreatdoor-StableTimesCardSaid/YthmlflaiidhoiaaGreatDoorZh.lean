/- Package table and what it stands on, so far as it is wanted: what each function answers. -/
import Derived.Test.YthmlflaiidhoiaaGreatDoorCon
set_option linter.unusedVariables false
set_option linter.unusedSimpArgs false
set_option linter.unusedSectionVars false
namespace Go.Proofs.YthmlflaiidhoiaaGreatDoor
open Go.RowKit
theorem Fa (l:List Tg) (hln:l.length<=1000) (a9:Option Addr) (n9 c9:Nat) (w:World) (hR:a7 w (.slice a9 n9 c9) 67 l.length (bz l)):Calls Tryz.prog 45 [.slice a9 n9 c9].toArray w (bW w (λv w'=>cd w' w.heap.size 49 67 v l.length (bz l))):=by
 refine bG Tryz.func45 rfl Tryz.ntmps45 rfl λf h s=>bD ac 1 h rfl λf h=>ag (ag ?_)
 cases hn:(a9.isNone:Bool)
 ·refine rs ac 1 h rfl λf h=>ak h (bk (.bool false) (bZ aA5 (h.ev rfl) (h.ev rfl)) (aq3 Value.bool hn)) rfl λf h=>iA h rfl (qr (fC (base:=w.heap.size) h aA5 yC (as1 _) rfl λf w2 v5 h hE3 e5=>ap ac 1 h rfl λf h=>dL (base:=w.heap.size) e5 (hR.keep hE3) h aA5 yC rfl rfl hE3.le (pp _) (by unfold maxLen;omega) (by omega) rfl λf w3 v7 h hE4 e7=>?_))
  replace s:=s.sl_new (hE3.trans hE4) e7
  refine e9 ac 1 h rfl λf h=>au3 (aA rfl h s rfl (s.getSl 0 rfl))
 ·refine rs ac 1 h rfl λf h=>ak h (bk (.bool true) (bZ aA5 (h.ev rfl) (h.ev rfl)) (aq3 Value.bool hn)) rfl λf h=>iz h rfl (bD ac 1 h rfl λf h=>rt (aA rfl h s rfl (by obtain rfl:=Cv hn hR;exact dT _ _ _ _)))
theorem sG (l:List Tg) (hln:l.length<=1000) (v9:Value) (w:World) (hR:a7 w v9 67 l.length (bz l)):Calls Tryz.prog 45 [v9].toArray w (bW w (λv w'=>cd w' w.heap.size 49 67 v l.length (bz l))):=by
 obtain ⟨a,c,rfl⟩:=hR.len
 exact Fa l hln a _ c w hR
theorem FO (n:Nat) (hn:n<=1000) (w:World):Calls Tryz.prog 94 [.slice none 0 0,.int .i64 (n:Int)].toArray w (bW w (λv w'=>cd w' w.heap.size 49 67 v 0 [])):=by
 refine bG Tryz.func94 rfl Tryz.ntmps94 rfl λf h s=>bD ac 1 h rfl λf h=>ag (cw ac 1 h rfl λf h=>jd ac h rfl (aq1 (by omega)) λf h=>iA h rfl (ag (cw ac 2 h rfl λf h=>ak h (kg aA5 (h.ev rfl)) rfl λf h=>ap ac 1 h rfl λf h=>ak h (ke aA5 (h.ev rfl)) rfl λf h=>ak h (bk (.int .i64 0) (fp (h.ev rfl) (h.ev rfl) (by omega)) (rfl)) rfl λf h=>ak h (bk (.int .i64 (n:Int)) (fp (h.ev rfl) (h.ev rfl) (by omega)) (aq3 (Value.int .i64) (by omega))) rfl λf h=>e9 ac 1 h rfl λf h=>bD ac 2 h rfl λf h=>cZ h rfl (λhc=>?_) (λhc=>?_))))
 ·refine rs ac 2 h rfl λf h=>ak h (kg aA5 (h.ev rfl)) rfl λf h=>ak h (oh aA5 ir (h.ev rfl) (h.ev rfl)) rfl λf h=>ap ac 1 h rfl λf h=>lj (n:=n) (base:=w.heap.size) h aA5 az8 yC rfl rfl (by omega) (by omega) (by omega) (as1 _) rfl λf w1 v22 xs9 h hE9 hO9=>?_
  replace s:=s.sl_new hE9 hO9
  refine ap ac 1 h rfl λf h=>ak h (ke aA5 (h.ev rfl)) rfl λf h=>ak h (mN hO9 aA5 ir (h.ev rfl) (h.ev rfl)) rfl λf h=>e9 ac 1 h rfl λf h=>bD ac 2 h rfl λf h=>au3 (aA rfl h s rfl (hO9.cut0))
 ·refine kt (bD ac 2 h rfl λf h=>au3 (aA rfl h s rfl (dT _ _ _ _)))
theorem zT (vh:Value) (us:List Value) (ls:List (List Tg)) (hls:us.length=ls.length) (htot:ls.flatten.length<=1000) (hvn:us.length<=1000) (w:World) (hv:a7 w vh 1 us.length us) (hr:∀ k,k<us.length->a7 w (us.getD k undef) 67 (ls.getD k []).length (bz (ls.getD k []))):Calls Tryz.prog 46 [vh].toArray w (bW w (λv w'=>cd w' w.heap.size 49 67 v ls.flatten.length (bz ls.flatten))):=by
 refine bG Tryz.func46 rfl Tryz.ntmps46 rfl λf h s=>bD ac 1 h rfl λf h=>bD ac 1 h rfl λf h=>ag (cw ac 1 h rfl λf h=>cb h (hv.keep s.ext) aB8 rfl rfl λf h=>e9 ac 1 h rfl λf h=>au4 (au6 (λnn aa ww=>∃ k:Nat,Sl 36 aa [(0,vh),(3,.int .i64 (((ls.take k).flatten.length:Nat):Int)),(9,vh),(10,.int .i64 (us.length:Int)),(11,.int .i64 (k:Int))]/\St w [] ww/\nn=us.length - k/\k<=us.length) (us.length - (0)) ⟨0,h.only ⟨rfl,aw rfl rfl,rfl,rfl,aw rfl (by omega),trivial⟩,s.as trivial,rfl,as3 _⟩ ?_))
 rintro _ f w1 ⟨k,h,s,hnn,hp0⟩
 refine bD ac 1 h rfl λf h=>ag (cZ h rfl (λhc=>?_) (λhc=>?_))
 ·refine kt (ag (au4 (qr ?_)))
  have hkl:k<us.length:=by omega
  refine ak h (bj (hv.keep s.ext) (k) aB8 Q0 (h.ev rfl) (h.ev rfl) (by omega) (by omega)) rfl λf h=>ai ((hv.keep s.ext).el1 (k) (V:=us.getD k undef) (rL hkl)) h iu rfl rfl λf h=>e9 ac 1 h rfl λf h=>cw ac 2 h rfl λf h=>cb h ((hr k hkl).keep s.ext) aA5 rfl rfl λf h=>?_
  have hk1:=t7 ls k (by omega)
  have hk2:=Et ls (k+1)
  refine ak h (bB (h.ev rfl) (h.ev rfl) (by omega)) rfl λf h=>e9 ac 1 h rfl λf h=>cw ac 1 h rfl λf h=>jd ac h rfl (aq1 (by omega)) λf h=>tS h rfl (wpIn_skip (aW (aG (aC (ak h (bB (h.ev rfl) (h.ev rfl) (by omega)) rfl λf h=>e9 ac 1 h rfl λf h=>?_)))))
  exact ⟨_,by omega,⟨k+1,h.only ⟨rfl,aw rfl (by omega),rfl,rfl,aw rfl (by omega),trivial⟩,St.as s trivial,rfl,by omega⟩⟩
 ·refine au5 (aT (aT (bS (aG (qr ?_)))))
  obtain rfl:k=us.length:=by omega
  refine ol ac (.int .i64 ((ls.flatten.length:Nat):Int)) h rfl (by rw [hls,List.take_length]) rfl λf h=>bg h s Zv (FO ls.flatten.length (by omega) _) rfl rfl ?_;intro f w1 v24 hT hE h sq;replace s:=s.sl_new hE hT
  refine e9 ac 1 h rfl λf h=>ag (cw ac 1 h rfl λf h=>cb h (hv.keep s.ext) aB8 rfl rfl λf h=>e9 ac 1 h rfl λf h=>au4 (au6 (λnn aa ww=>∃ i:Nat,∃ vb:Value,Sl 36 aa [(0,vh),(6,vb),(25,vh),(26,.int .i64 (us.length:Int)),(27,.int .i64 (i:Int))]/\St w [.sl vb 49 67 (ls.take i).flatten.length (bz (ls.take i).flatten)] ww/\nn=us.length - i/\i<=us.length) (us.length - (0)) ⟨0,v24,h.only ⟨rfl,rfl,rfl,rfl,aw rfl (by omega),trivial⟩,s.as ⟨vP rfl rfl,trivial⟩,rfl,as3 _⟩ ?_))
  rintro _ f w1 ⟨i,vb,h,s,hnn,hp0⟩
  refine bD ac 1 h rfl λf h=>ag (cZ h rfl (λhc=>?_) (λhc=>?_))
  ·refine kt (ag (au4 (qr ?_)))
   have hkl:i<us.length:=by omega
   have hk1:=t7 ls i (by omega)
   have hk2:=Et ls (i+1)
   refine ak h (bj (hv.keep s.ext) (i) aB8 Q0 (h.ev rfl) (h.ev rfl) (by omega) (by omega)) rfl λf h=>ai ((hv.keep s.ext).el1 (i) (V:=us.getD i undef) (rL hkl)) h iu rfl rfl λf h=>e9 ac 1 h rfl λf h=>rs ac 2 h rfl λf h=>lc 0 ((hr i hkl).keep s.ext) h s aA5 yC rfl rfl rfl (pp _) (by unfold maxLen;omega) (by omega) rfl λf w1 v33 h s=>ap ac 1 h rfl λf h=>aE (aW (aG (aC (ak h (bB (h.ev rfl) (h.ev rfl) (by omega)) rfl λf h=>e9 ac 1 h rfl λf h=>?_))))
   exact ⟨_,by omega,⟨i+1,v33,h.only ⟨rfl,rfl,rfl,rfl,aw rfl (by omega),trivial⟩,St.as s ⟨vP (t7 ls i (by omega)) (BZ ls i (by omega)),trivial⟩,rfl,by omega⟩⟩
  ·refine au5 (aT (aT (bS (aG (bD ac 2 h rfl λf h=>au3 (aA rfl h s rfl (AG (by omega) (s.getSl 0 rfl))))))))
theorem JQ (x:Tg) (i:Id) (e:eA) (w:World):Calls Tryz.prog 25 [.agg (aV x),kL i,.agg (eR e)].toArray w (bW w (is (.bool (vC i e x)))):=by
 refine bG Tryz.func25 rfl Tryz.ntmps25 rfl λf h s=>qr (ba (aV x) h s rfl rfl rfl λf w1 b3 h s=>ba (aJ i) h s rfl rfl rfl λf w1 b4 h s=>ba (eR e) h s rfl rfl rfl λf w1 b5 h s=>e9 ac 1 h rfl λf h=>ag ?_)
 cases h0:(decide (x.1=i):Bool)
 ·refine rs ac 1 h rfl λf h=>ax (aX.subL (aX.of_own s 2 rfl) 0 32 (D:=aJ (_)) (jJ _)) h bO rfl (by first|exact az _|exact ay _ _) rfl λf h=>al 1 h s bO rfl rfl (by first|exact az _|exact ay _ _) rfl λf h=>ak h (bk (.bool false) (dQ jr (h.ev rfl) (h.ev rfl)) (aq3 Value.bool h0)) rfl λf h=>e9 ac 7 h rfl λf h=>au3 (aA rfl h s rfl (by show _=_;unfold vC;rw [h0]<;>rfl))
 ·refine rs ac 1 h rfl λf h=>ax (aX.subL (aX.of_own s 2 rfl) 0 32 (D:=aJ (_)) (jJ _)) h bO rfl (by first|exact az _|exact ay _ _) rfl λf h=>al 1 h s bO rfl rfl (by first|exact az _|exact ay _ _) rfl λf h=>ak h (bk (.bool true) (dQ jr (h.ev rfl) (h.ev rfl)) (aq3 Value.bool h0)) rfl λf h=>ap ac 2 h rfl λf h=>cg h rfl (ax (aX.subL (aX.of_own s 2 rfl) 32 34 (D:=eR (_)) (tL _)) h zS rfl (eU _) rfl λf h=>cg h rfl (al 0 h s zS rfl rfl (eU _) rfl λf h=>cg h rfl (ak h (gj (eqE _ _) (by kernel_rfl) (by decide) (h.ev rfl) (h.ev rfl) (decide (x.2.1=e)) (eEq _ _)) rfl λf h=>e9 ac 2 h rfl λf h=>au3 (aA rfl h s rfl (by show _=_;unfold vC;rw [h0]<;>rfl)))))
theorem C0 (l:List Tg) (vh:Value) (i:Id) (e:eA) (w:World) (hR:a7 w vh 67 l.length (bz l)) (hln:l.length<=1000):Calls Tryz.prog 10 [vh,kL i,.agg (eR e)].toArray w (bW w (is (.agg (aV (eT l i e))))):=by
 refine bG Tryz.func10 rfl Tryz.ntmps10 rfl λf h s=>qr (ba (aJ i) h s rfl rfl rfl λf w1 b4 h s=>ba (eR e) h s rfl rfl rfl λf w1 b5 h s=>aK (aV cr) h s nz rfl rfl λf w1 b6 h s=>nt (ag (cw ac 1 h rfl λf h=>cb h (hR.keep s.ext) aA5 rfl rfl λf h=>e9 ac 1 h rfl λf h=>au4 (au6 (λnn aa ww=>∃ k:Nat,Sl 22 aa [(0,vh),(1,kL i),(2,.agg (eR e)),(4,.pointer (some ⟨b4,0,none⟩)),(5,.pointer (some ⟨b5,0,none⟩)),(6,.pointer (some ⟨b6,0,none⟩)),(9,vh),(10,.int .i64 (l.length:Int)),(11,.int .i64 (k:Int))]/\St w [.blk b6 (.cells (aV cr) 49),.blk b5 (.cells (eR e) 47),.blk b4 (.cells (aJ i) 42)] ww/\nn=l.length - k/\k<=l.length/\∀ j,j<k->vC i e (l.getD j cr)=false) (l.length - (0)) ⟨0,h.only ⟨rfl,rfl,rfl,rfl,rfl,rfl,rfl,rfl,aw rfl (by omega),trivial⟩,s.as ⟨rfl,rfl,rfl,trivial⟩,rfl,as3 _,λj hj=>ax7 hj (av6 _)⟩ ?_))))
 rintro _ f w1 ⟨k,h,s,hnn,hp0,hp1⟩
 refine bD ac 1 h rfl λf h=>ag (cZ h rfl (λhc=>?_) (λhc=>?_))
 ·refine kt (ag (au4 (qr ?_)))
  have hkl:k<l.length:=by omega
  refine ak h (bj (hR.keep s.ext) (k) aA5 ir (h.ev rfl) (h.ev rfl) (by omega) (by omega)) rfl λf h=>ax ((hR.keep s.ext).el (k) (by omega) (by decide) (D:=aV (l.getD k cr)) (iO l k hkl)) h cO rfl (aN _) rfl λf h=>aK (aV cr) h s nz rfl rfl λf w1 b8 h s=>am 0 h s cO rfl rfl rfl (aN _) (aN _) (ft _) λw1 s=>nt (qr (al 0 h s cO rfl rfl (aN _) rfl λf h=>al 3 h s bO rfl rfl (by first|exact az _|exact ay _ _) rfl λf h=>al 2 h s zS rfl rfl (eU _) rfl λf h=>fP h s Yk (JQ (l.getD k cr) i e _) rfl rfl λf w1 h s=>nt (cT h rfl (λhc=>?_) (λhc=>?_))))
  ·refine qr (al 0 h s cO rfl rfl (aN _) rfl λf h=>am 1 h s cO rfl rfl rfl (aN _) (aN _) (ft _) λw1 s=>nt (au3 (aY (aQ (aQ (aY (aQ (g7 1 rfl h s cO rfl rfl (aN _) (by show _=_;unfold eT;rw [MJ hkl hp1 hc];rfl)))))))))
  ·refine wpIn_skip (aW (aG (aC (ak h (bB (h.ev rfl) (h.ev rfl) (by omega)) rfl λf h=>e9 ac 1 h rfl λf h=>?_))))
   exact ⟨_,by omega,⟨k+1,h.only ⟨rfl,rfl,rfl,rfl,rfl,rfl,rfl,rfl,aw rfl (by omega),trivial⟩,St.as (s.pick _ (ar8 [_] _)) ⟨rfl,rfl,rfl,trivial⟩,rfl,by omega,eM hp1 hc⟩⟩
 ·refine au5 (aT (aT (bS (aG (qr (ak h (yt ae9 rfl) rfl λf h=>am 0 h s cO rfl rfl rfl (aN _) (aN _) (ft _) λw1 s=>nt (au3 (g7 0 rfl h s cO rfl rfl (aN _) (by show _=_;unfold eT;rw [OC (λj hj=>hp1 j (by omega))];rfl)))))))))
end Go.Proofs.YthmlflaiidhoiaaGreatDoor
