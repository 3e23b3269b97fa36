/- Package world and what it stands on, so far as it is wanted: what each function answers. -/
import Derived.Test.YthmlflaiidhoiaaGreatDoorCon
set_option linter.unusedVariables false
set_option linter.unusedSimpArgs false
set_option linter.unusedSectionVars false
namespace Go.Proofs.YthmlflaiidhoiaaGreatDoor
open Go.RowKit
theorem Gy (x:Id) (w:World):Calls Tryz.prog 70 [kL x].toArray w (bW w (is (.bool (pD x)))):=by
 refine bG Tryz.func70 rfl Tryz.ntmps70 rfl λf h s=>qr (ba (aJ x) h s rfl rfl rfl λf w1 b1 h s=>e9 ac 1 h rfl λf h=>ag (qr (ak h (qW (16) ax8 pc (h.ev rfl) (h.ev rfl) (by omega) (by omega)) rfl λf h=>cb h (a7.of_has (aX.subL (o:=0) (aX.of_own s 0 rfl) 16 16 (D:=((eY x).drop 16).toArray) (Lx x)) (qg x) (as1 _)) Tryz.underlying198 rfl rfl λf h=>e9 ac 1 h rfl λf h=>au4 (au6 (λnn aa ww=>∃ k:Nat,Sl 14 aa [(0,kL x),(1,.pointer (some ⟨b1,0,none⟩)),(5,.slice (some ⟨b1,16,none⟩) 16 16),(6,.int .i64 16),(7,.int .i64 (k:Int))]/\St w [.blk b1 (.cells (aJ x) 42)] ww/\nn=16 - k/\k<=16/\∀ j,j<k->bA x (j+16)=255) (16 - (0)) ⟨0,h.only ⟨rfl,rfl,rfl,rfl,aw rfl (by omega),trivial⟩,s.as ⟨rfl,trivial⟩,rfl,as3 _,λj hj=>ax7 hj (av6 _)⟩ ?_))))
 rintro _ f w1 ⟨k,h,s,hnn,hp0,hp1⟩
 refine bD ac 1 h rfl λf h=>ag (cZ h rfl (λhc=>?_) (λhc=>?_))
 ·refine kt (ag (au4 (qr ?_)))
  have hk16:k<16:=by omega
  refine ak h (bj (a7.of_has (aX.subL (o:=0) (aX.of_own s 0 rfl) 16 16 (D:=((eY x).drop 16).toArray) (Lx x)) (qg x) (as1 _)) (k) Tryz.underlying198 ad3 (h.ev rfl) (h.ev rfl) (by omega) (by omega)) rfl λf h=>ai ((a7.of_has (aX.subL (o:=0) (aX.of_own s 0 rfl) 16 16 (D:=((eY x).drop 16).toArray) (Lx x)) (qg x) (as1 _)).el1 (k) (V:=.int .u8 (bA x (k+16):Int)) (Ja x hk16)) h x6 rfl rfl λf h=>e9 ac 1 h rfl λf h=>bD ac 2 h rfl λf h=>cZ h rfl (λhc=>?_) (λhc=>?_)
  ·refine bD ac 1 h rfl λf h=>au3 (aY (aQ (aQ (aY (aQ (aA rfl h s rfl (by show _=_;rw [Np (k:=k) (by omega) (by simp at hc;omega)])))))))
  ·refine wpIn_skip (aW (aG (aC (ak h (bB (h.ev rfl) (h.ev rfl) (by omega)) rfl λf h=>e9 ac 1 h rfl λf h=>?_))))
   exact ⟨_,by omega,⟨k+1,h.only ⟨rfl,rfl,rfl,rfl,aw rfl (by omega),trivial⟩,St.as s ⟨rfl,trivial⟩,rfl,by omega,gM hp1 (by simp at hc;omega)⟩⟩
 ·refine au5 (aT (aT (bS (aG (bD ac 1 h rfl λf h=>au3 (aA rfl h s rfl (by show _=_;rw [Qp (λj hj=>hp1 j (by omega))])))))))
def Ki:List (Int × Value):=[(1,.func (.func 47) #[] #[]),(2,.func (.func 48) #[] #[]),(3,.func (.func 49) #[] #[]),(4,.func (.func 50) #[] #[]),(5,.func (.func 51) #[] #[]),(6,.func (.func 52) #[] #[]),(7,.func (.func 53) #[] #[]),(8,.func (.func 54) #[] #[]),(9,.func (.func 55) #[] #[]),(10,.func (.func 56) #[] #[]),(11,.func (.func 57) #[] #[]),(12,.func (.func 58) #[] #[]),(13,.func (.func 59) #[] #[]),(14,.func (.func 60) #[] #[]),(15,.func (.func 61) #[] #[])]
set_option maxHeartbeats 1000000 in
theorem GE  (w:World):Calls Tryz.prog 23 [].toArray w (bW w (λv w'=>∃ b,v=.map (some b)/\St w [.blk b (KvO Ki)] w')):=by
 refine bG Tryz.func23 rfl Tryz.ntmps23 rfl λf h s=>bD ac 1 h rfl λf h=>qr (u0 h s rfl ?_);intro f w1 b1 h s
 refine dV 0 h s aB9 az8 (by exact rfl) rfl rfl rfl rfl (by rfl) ?_;intro w1 s
 refine dV 0 h s aB9 az8 (by exact rfl) rfl rfl rfl rfl (by rfl) ?_;intro w1 s
 refine dV 0 h s aB9 az8 (by exact rfl) rfl rfl rfl rfl (by rfl) ?_;intro w1 s
 refine dV 0 h s aB9 az8 (by exact rfl) rfl rfl rfl rfl (by rfl) ?_;intro w1 s
 refine dV 0 h s aB9 az8 (by exact rfl) rfl rfl rfl rfl (by rfl) ?_;intro w1 s
 refine dV 0 h s aB9 az8 (by exact rfl) rfl rfl rfl rfl (by rfl) ?_;intro w1 s
 refine dV 0 h s aB9 az8 (by exact rfl) rfl rfl rfl rfl (by rfl) ?_;intro w1 s
 refine dV 0 h s aB9 az8 (by exact rfl) rfl rfl rfl rfl (by rfl) ?_;intro w1 s
 refine dV 0 h s aB9 az8 (by exact rfl) rfl rfl rfl rfl (by rfl) ?_;intro w1 s
 refine dV 0 h s aB9 az8 (by exact rfl) rfl rfl rfl rfl (by rfl) ?_;intro w1 s
 refine dV 0 h s aB9 az8 (by exact rfl) rfl rfl rfl rfl (by rfl) ?_;intro w1 s
 refine dV 0 h s aB9 az8 (by exact rfl) rfl rfl rfl rfl (by rfl) ?_;intro w1 s
 refine dV 0 h s aB9 az8 (by exact rfl) rfl rfl rfl rfl (by rfl) ?_;intro w1 s
 refine dV 0 h s aB9 az8 (by exact rfl) rfl rfl rfl rfl (by rfl) ?_;intro w1 s
 refine dV 0 h s aB9 az8 (by exact rfl) rfl rfl rfl rfl (by rfl) ?_;intro w1 s
 refine e9 ac 2 h rfl λf h=>au3 (aA rfl h s rfl (⟨b1,rfl,s.sel [0] rfl (by decide)⟩))
theorem NF (l:List V2) (hln:l.length<=1000) (a9:Option Addr) (n9 c9:Nat) (w:World) (hR:a7 w (.slice a9 n9 c9) 3 l.length (bM l)) (hx9:∀ x∈l,x.2.oneCell'=true):Calls Tryz.prog 64 [.slice a9 n9 c9].toArray w (bW w (λv w'=>cd w' w.heap.size 54 3 v l.length (bM l))):=by
 refine bG Tryz.func64 rfl Tryz.ntmps64 rfl λf h s=>bD ac 1 h rfl λf h=>ag (ag ?_)
 cases hn:(a9.isNone:Bool)
 ·refine rs ac 1 h rfl λf h=>ak h (bk (.bool false) (bZ aA2 (h.ev rfl) (h.ev rfl)) (aq3 Value.bool hn)) rfl λf h=>iA h rfl (qr (fC (base:=w.heap.size) h aA2 Q9 (as1 _) rfl λf w2 v5 h hE3 e5=>ap ac 1 h rfl λf h=>dL (base:=w.heap.size) e5 (hR.keep hE3) h aA2 Q9 rfl rfl hE3.le (Nz hx9) (by unfold maxLen;omega) (by omega) rfl λf w3 v7 h hE4 e7=>?_))
  replace s:=s.sl_new (hE3.trans hE4) e7
  refine e9 ac 1 h rfl λf h=>au3 (aA rfl h s rfl (s.getSl 0 rfl))
 ·refine rs ac 1 h rfl λf h=>ak h (bk (.bool true) (bZ aA2 (h.ev rfl) (h.ev rfl)) (aq3 Value.bool hn)) rfl λf h=>iz h rfl (bD ac 1 h rfl λf h=>rt (aA rfl h s rfl (by obtain rfl:=i8 hn hR;exact dT _ _ _ _)))
theorem LO (l:List V2) (hln:l.length<=1000) (v9:Value) (w:World) (hR:a7 w v9 3 l.length (bM l)) (hx9:∀ x∈l,x.2.oneCell'=true):Calls Tryz.prog 64 [v9].toArray w (bW w (λv w'=>cd w' w.heap.size 54 3 v l.length (bM l))):=by
 obtain ⟨a,c,rfl⟩:=hR.len
 exact NF l hln a _ c w hR hx9
theorem Pa (l:List H4) (hln:l.length<=1000) (a9:Option Addr) (n9 c9:Nat) (w:World) (hR:a7 w (.slice a9 n9 c9) 5 l.length (bC l)) (hx9:∀ x∈l,x.2.1.oneCell'=true/\x.2.2.1.oneCell'=true/\x.2.2.2.oneCell'=true):Calls Tryz.prog 65 [.slice a9 n9 c9].toArray w (bW w (λv w'=>cd w' w.heap.size 68 5 v l.length (bC l))):=by
 refine bG Tryz.func65 rfl Tryz.ntmps65 rfl λf h s=>bD ac 1 h rfl λf h=>ag (ag ?_)
 cases hn:(a9.isNone:Bool)
 ·refine rs ac 1 h rfl λf h=>ak h (bk (.bool false) (bZ aA3 (h.ev rfl) (h.ev rfl)) (aq3 Value.bool hn)) rfl λf h=>iA h rfl (qr (fC (base:=w.heap.size) h aA3 QD (as1 _) rfl λf w2 v5 h hE3 e5=>ap ac 1 h rfl λf h=>dL (base:=w.heap.size) e5 (hR.keep hE3) h aA3 QD rfl rfl hE3.le (O3 hx9) (by unfold maxLen;omega) (by omega) rfl λf w3 v7 h hE4 e7=>?_))
  replace s:=s.sl_new (hE3.trans hE4) e7
  refine e9 ac 1 h rfl λf h=>au3 (aA rfl h s rfl (s.getSl 0 rfl))
 ·refine rs ac 1 h rfl λf h=>ak h (bk (.bool true) (bZ aA3 (h.ev rfl) (h.ev rfl)) (aq3 Value.bool hn)) rfl λf h=>iz h rfl (bD ac 1 h rfl λf h=>rt (aA rfl h s rfl (by obtain rfl:=i8 hn hR;exact dT _ _ _ _)))
theorem Hv (l:List H4) (hln:l.length<=1000) (v9:Value) (w:World) (hR:a7 w v9 5 l.length (bC l)) (hx9:∀ x∈l,x.2.1.oneCell'=true/\x.2.2.1.oneCell'=true/\x.2.2.2.oneCell'=true):Calls Tryz.prog 65 [v9].toArray w (bW w (λv w'=>cd w' w.heap.size 68 5 v l.length (bC l))):=by
 obtain ⟨a,c,rfl⟩:=hR.len
 exact Pa l hln a _ c w hR hx9
theorem Ny (l:List Wn) (hln:l.length<=1000) (a9:Option Addr) (n9 c9:Nat) (w:World) (hR:a7 w (.slice a9 n9 c9) 33 l.length (cm l)):Calls Tryz.prog 66 [.slice a9 n9 c9].toArray w (bW w (λv w'=>cd w' w.heap.size 125 33 v l.length (cm l))):=by
 refine bG Tryz.func66 rfl Tryz.ntmps66 rfl λf h s=>bD ac 1 h rfl λf h=>ag (ag ?_)
 cases hn:(a9.isNone:Bool)
 ·refine rs ac 1 h rfl λf h=>ak h (bk (.bool false) (bZ aA7 (h.ev rfl) (h.ev rfl)) (aq3 Value.bool hn)) rfl λf h=>iA h rfl (qr (fC (base:=w.heap.size) h aA7 HT (as1 _) rfl λf w2 v5 h hE3 e5=>ap ac 1 h rfl λf h=>dL (base:=w.heap.size) e5 (hR.keep hE3) h aA7 HT rfl rfl hE3.le (wQ _) (by unfold maxLen;omega) (by omega) rfl λf w3 v7 h hE4 e7=>?_))
  replace s:=s.sl_new (hE3.trans hE4) e7
  refine e9 ac 1 h rfl λf h=>au3 (aA rfl h s rfl (s.getSl 0 rfl))
 ·refine rs ac 1 h rfl λf h=>ak h (bk (.bool true) (bZ aA7 (h.ev rfl) (h.ev rfl)) (aq3 Value.bool hn)) rfl λf h=>iz h rfl (bD ac 1 h rfl λf h=>rt (aA rfl h s rfl (by obtain rfl:=i8 hn hR;exact dT _ _ _ _)))
theorem IY (l:List Wn) (hln:l.length<=1000) (v9:Value) (w:World) (hR:a7 w v9 33 l.length (cm l)):Calls Tryz.prog 66 [v9].toArray w (bW w (λv w'=>cd w' w.heap.size 125 33 v l.length (cm l))):=by
 obtain ⟨a,c,rfl⟩:=hR.len
 exact Ny l hln a _ c w hR
theorem N0 (l:List Hn) (hln:l.length<=1000) (a9:Option Addr) (n9 c9:Nat) (w:World) (hR:a7 w (.slice a9 n9 c9) 34 l.length (cG l)):Calls Tryz.prog 67 [.slice a9 n9 c9].toArray w (bW w (λv w'=>cd w' w.heap.size 128 34 v l.length (cG l))):=by
 refine bG Tryz.func67 rfl Tryz.ntmps67 rfl λf h s=>bD ac 1 h rfl λf h=>ag (ag ?_)
 cases hn:(a9.isNone:Bool)
 ·refine rs ac 1 h rfl λf h=>ak h (bk (.bool false) (bZ aA8 (h.ev rfl) (h.ev rfl)) (aq3 Value.bool hn)) rfl λf h=>iA h rfl (qr (fC (base:=w.heap.size) h aA8 Hg (as1 _) rfl λf w2 v5 h hE3 e5=>ap ac 1 h rfl λf h=>dL (base:=w.heap.size) e5 (hR.keep hE3) h aA8 Hg rfl rfl hE3.le (yu _) (by unfold maxLen;omega) (by omega) rfl λf w3 v7 h hE4 e7=>?_))
  replace s:=s.sl_new (hE3.trans hE4) e7
  refine e9 ac 1 h rfl λf h=>au3 (aA rfl h s rfl (s.getSl 0 rfl))
 ·refine rs ac 1 h rfl λf h=>ak h (bk (.bool true) (bZ aA8 (h.ev rfl) (h.ev rfl)) (aq3 Value.bool hn)) rfl λf h=>iz h rfl (bD ac 1 h rfl λf h=>rt (aA rfl h s rfl (by obtain rfl:=i8 hn hR;exact dT _ _ _ _)))
theorem Ko (l:List Hn) (hln:l.length<=1000) (v9:Value) (w:World) (hR:a7 w v9 34 l.length (cG l)):Calls Tryz.prog 67 [v9].toArray w (bW w (λv w'=>cd w' w.heap.size 128 34 v l.length (cG l))):=by
 obtain ⟨a,c,rfl⟩:=hR.len
 exact N0 l hln a _ c w hR
theorem Fe (vo vs vh vl vn vx:Value) (la nw la2 nw2:Int) (bc:Nat) (B9:List Own) (ee:Int) (w0 w:World) (s:St w0 (.blk bc (.cells (qP vo vs vh vl la nw vn) 84)::B9) w) (h1:vx.oneCell'=true):Calls Tryz.prog 105 [.pointer (some ⟨bc,0,none⟩),.agg (#[vx,.int .i64 la2,.int .i64 nw2]),.int .i64 ee].toArray w (λe w9=>∃ v,e=.returned v/\v=.int .i64 ee/\St w0 (.blk bc (.cells (qP vo vs vh vx la2 nw2 vn) 84)::B9) w9):=by
 refine da Tryz.func105 rfl Tryz.ntmps105 rfl [(0,.pointer (some ⟨bc,0,none⟩)),(1,.agg (#[vx,.int .i64 la2,.int .i64 nw2])),(2,.int .i64 ee)] (by simp) λf h=>?_
 refine qr (ba (#[vx,.int .i64 la2,.int .i64 nw2]) h s rfl rfl rfl λf w1 b4 h s=>e9 ac 1 h rfl λf h=>cw ac 1 h rfl λf h=>al 0 h s iN rfl rfl (rfl) rfl λf h=>ap ac 3 h rfl λf h=>ga 1 h s iN rfl rfl rfl (rfl) (by rw [oG];omega) (HP _ _ (h1)) λw1 s=>?_)
 replace s:=s.recell (D:=qP vo vs vh vx la2 nw2 vn) 1 rfl rfl
 refine nt (bD ac 2 h rfl λf h=>au3 (gB rfl h rfl (by replace s:=s.bring 1 rfl;exact ⟨_,rfl,rfl,(s.pick _ (ap7 _ (ap8 _ (List.Sublist.refl _))))⟩)))
end Go.Proofs.YthmlflaiidhoiaaGreatDoor
