/- Package host and what it stands on, so far as it is wanted: what each function answers. -/
import Derived.Test.YthmlflaiidhoiaaGreatDoorCon
set_option linter.unusedVariables false
set_option linter.unusedSimpArgs false
set_option linter.unusedSectionVars false
namespace Go.Proofs.YthmlflaiidhoiaaGreatDoor
open Go.RowKit
theorem Om (l:List ByteArray) (hln:l.length<=1000) (a9:Option Addr) (n9 c9:Nat) (w:World) (hR:a7 w (.slice a9 n9 c9) 1 l.length (uN l)):Calls Tryz.prog 68 [.slice a9 n9 c9].toArray w (bW w (λv w'=>cd w' w.heap.size 9 1 v l.length (uN l))):=by
 refine bG Tryz.func68 rfl Tryz.ntmps68 rfl λf h s=>bD ac 1 h rfl λf h=>ag (ag ?_)
 cases hn:(a9.isNone:Bool)
 ·refine rs ac 1 h rfl λf h=>ak h (bk (.bool false) (bZ aA9 (h.ev rfl) (h.ev rfl)) (aq3 Value.bool hn)) rfl λf h=>iA h rfl (qr (fC (base:=w.heap.size) h aA9 YP (as1 _) rfl λf w2 v5 h hE3 e5=>ap ac 1 h rfl λf h=>dL (base:=w.heap.size) e5 (hR.keep hE3) h aA9 YP rfl rfl hE3.le (IZ _) (by unfold maxLen;omega) (by omega) rfl λf w3 v7 h hE4 e7=>?_))
  replace s:=s.sl_new (hE3.trans hE4) e7
  refine e9 ac 1 h rfl λf h=>au3 (aA rfl h s rfl (s.getSl 0 rfl))
 ·refine rs ac 1 h rfl λf h=>ak h (bk (.bool true) (bZ aA9 (h.ev rfl) (h.ev rfl)) (aq3 Value.bool hn)) rfl λf h=>iz h rfl (bD ac 1 h rfl λf h=>rt (aA rfl h s rfl (by obtain rfl:=i8 hn hR;exact dT _ _ _ _)))
theorem yY (l:List ByteArray) (hln:l.length<=1000) (v9:Value) (w:World) (hR:a7 w v9 1 l.length (uN l)):Calls Tryz.prog 68 [v9].toArray w (bW w (λv w'=>cd w' w.heap.size 9 1 v l.length (uN l))):=by
 obtain ⟨a,c,rfl⟩:=hR.len
 exact Om l hln a _ c w hR
set_option maxHeartbeats 2000000 in
theorem GP (ho:Ho) (vw vh vi:Value)  (w:World) (hHo:EV w vw vh vi ho) (hB9:ho.ws.length<=1000/\ho.hs.length<=1000/\ho.bx.length<=1000):Calls Tryz.prog 125 [.agg (cB ho.no ho.gt vw vh vi)].toArray w (bW w (OwH w 247 277 9 ho)):=by
 obtain ⟨hw9,hh9,hi9⟩:=hB9
 refine bG Tryz.func125 rfl Tryz.ntmps125 rfl λf h s=>qr (ba (cB ho.no ho.gt vw vh vi) h s rfl rfl rfl λf w1 b1 h s=>aK (cB 0 0 aq aq aq) h s Ei rfl rfl λf w1 b2 h s=>nt (ag (jC 0 9 [[],[0],[],[2],[],[4],[4,5],[0,1,2,3,4,5,6],[],[0,1,2,3,4,5,6,7,8]] [[],[],[],[],[],[],[],[],[],[]] [] [.v _,.v (.int .i64 ho.no),.v _,.v (.int .i64 ho.gt),.v _,.v vi,.r (λv=>[.sl (v 6) 9 1 ho.bx.length (uN ho.bx)]) (λv=>(v 6).oneCell'=true),.f (λv=>v 7=.agg (cB ho.no ho.gt aq aq (v 6))),.q (λv=>[.blk (G4 (v 8)) (.cells (cB 0 0 aq aq aq) 202)]),.n] _ h s rfl (by kernel_rfl) (by kernel_rfl) (by kernel_rfl) (iG ac h rfl rfl rfl (cq ?_ (iG ac h rfl rfl rfl (cq ?_ (iG ac h rfl rfl rfl (cq ?_ (cq ?_ (cq ?_ (cq ?_ (trivial)))))))))) [0,1,2,3,4,5,6,7,8] (by kernel_rfl) ?_)))
 ·intro f9 w2 vl1 E9 hs9 hd9 hl hF s
  have h:=cJ [(8,_)] h hs9 hd9 ⟨bp hl 8 0 (by kernel_rfl) (hF 0 (by decide)),trivial⟩
  refine ai (V:=.int .i64 ho.no) (ah (aX.of_own s 1 rfl) 0 (TX _ _ _ _ _)) h bQ rfl rfl λf h=>aE ⟨_,bq 9 h rfl rfl,rfl,s⟩
 ·intro f9 w2 vl1 E9 hs9 hd9 hl hF s
  have h:=cJ [(10,_)] h hs9 hd9 ⟨bp hl 10 2 (by kernel_rfl) (hF 2 (by decide)),trivial⟩
  refine ai (V:=.int .i64 ho.gt) (ah (aX.of_own s 1 rfl) 1 (Wk _ _ _ _ _)) h bQ rfl rfl λf h=>aE ⟨_,bq 11 h rfl rfl,rfl,s⟩
 ·intro f9 w2 vl1 E9 hs9 hd9 hl hF s
  have h:=cJ [(12,_)] h hs9 hd9 ⟨bp hl 12 4 (by kernel_rfl) (hF 4 (by decide)),trivial⟩
  refine ai (V:=vi) (ah (aX.of_own s 1 rfl) 4 (OB _ _ _ _ _)) h uQ rfl rfl λf h=>aE ⟨_,bq 13 h rfl rfl,rfl,s⟩
 ·intro f9 w2 vl1 E9 hs9 hd9 hl hF s
  have h:=cJ [(13,_)] h hs9 hd9 ⟨bp hl 13 5 (by kernel_rfl) (hF 5 (by decide)),trivial⟩
  refine bg h s Ra (yY ho.bx hi9 vi _ (hHo.2.2.keep s.ext)) rfl rfl ?_;intro f w3 v14 hT hE h sq;replace s:=s.sl_new hE hT
  exact aE ⟨_,bq 14 h rfl rfl,aZ (s.getSl 0 rfl),s⟩
 ·intro f9 w2 vl1 E9 hs9 hd9 hl hF s
  have e9:f9.tmps.getD 9 undef=.int .i64 ho.no:=(eN hl 9 1 (by kernel_rfl) (by kernel_rfl)).trans (hF 1 (by decide))
  have e11:f9.tmps.getD 11 undef=.int .i64 ho.gt:=(eN hl 11 3 (by kernel_rfl) (by kernel_rfl)).trans (hF 3 (by decide))
  have e14:f9.tmps.getD 14 undef=(vl1 6):=eN hl 14 6 (by kernel_rfl) (by kernel_rfl)
  have h:=dU [(9,.int .i64 ho.no),(11,.int .i64 ho.gt),(14,(vl1 6))] (hs9.trans h.size) (hd9.trans h.defers) (holds_lk ⟨e9,e11,e14,trivial⟩)
  refine ak h (xN Wo (y9 (hF 6 (by decide))).1 (y9 (hF 6 (by decide))).2 (h.ev rfl) (h.ev rfl) (h.ev rfl)) rfl λf h=>aE ⟨_,bq 15 h rfl rfl,rfl,s⟩
 ·intro f9 w2 vl1 E9 hs9 hd9 hl hF s
  have h:=dU [] (hs9.trans h.size) (hd9.trans h.defers) (holds_lk trivial)
  refine aK (cB 0 0 aq aq aq) h s Ei rfl rfl λf w1 b3 h s=>aE ⟨_,bq 3 h rfl rfl,⟨_,rfl⟩,s⟩
 intro f w1 vl1 hs9 hd9 hv hr hF s
 replace hv:=λi d h9=>hv i d (show Nat.blt i 9=true from h9)
 obtain ⟨b3,hb3⟩:∃ b,vl1 8=.pointer (some ⟨b,0,none⟩):=hF 8 (by kernel_rfl)
 replace h:=jx 9 (ops:=_) [(8,_),(9,_),(10,_),(11,_),(12,_),(13,_),(14,(vl1 6)),(15,.agg (cB ho.no ho.gt aq aq (vl1 6))),(3,.pointer (some ⟨b3,0,none⟩))] h hs9 hd9 hr ⟨(hv 0 8 rfl rfl).trans (hF 0 rfl),(hv 1 9 rfl rfl).trans (hF 1 rfl),(hv 2 10 rfl rfl).trans (hF 2 rfl),(hv 3 11 rfl rfl).trans (hF 3 rfl),(hv 4 12 rfl rfl).trans (hF 4 rfl),(hv 5 13 rfl rfl).trans (hF 5 rfl),hv 6 14 rfl rfl,(hv 7 15 rfl rfl).trans (hF 7 rfl),(hv 8 3 rfl rfl).trans hb3,trivial⟩ (by kernel_rfl)
 replace s:St w [.sl (vl1 6) 9 1 ho.bx.length (uN ho.bx),.blk (G4 (vl1 8)) (.cells (cB 0 0 aq aq aq) 202),.blk b2 (.cells (cB 0 0 aq aq aq) 202),.blk b1 (.cells (cB ho.no ho.gt vw vh vi) 68)] _:=s
 rw [hb3] at s
 replace s:St w [.sl (vl1 6) 9 1 ho.bx.length (uN ho.bx),.blk b3 (.cells (cB 0 0 aq aq aq) 202),.blk b2 (.cells (cB 0 0 aq aq aq) 202),.blk b1 (.cells (cB ho.no ho.gt vw vh vi) 68)] _:=s
 refine am 1 h s wR rfl rfl rfl (ct _ _ _ _ _) (ct _ _ _ _ _) (kB _ _ (rfl) (rfl) (hF 6 (by kernel_rfl))) λw1 s=>nt (ag (cw ac 1 h rfl λf h=>?_))
 replace s:=s.nilSl 247 33
 refine ai (V:=vw) (ah (aX.of_own s 4 rfl) 2 (N9 _ _ _ _ _)) h Eo rfl rfl λf h=>cb h (hHo.1.keep s.ext) aA7 rfl rfl λf h=>e9 ac 1 h rfl λf h=>au4 (au6 (λnn aa ww=>∃ k:Nat,∃ va:Value,Sl 57 aa [(0,.agg (cB ho.no ho.gt vw vh vi)),(1,.pointer (some ⟨b1,0,none⟩)),(2,.pointer (some ⟨b2,0,none⟩)),(3,.pointer (some ⟨b3,0,none⟩)),(14,(vl1 6)),(17,vw),(18,.int .i64 (ho.ws.length:Int)),(19,.int .i64 (k:Int))]/\St w [.sl va 247 33 (ho.ws.take k).length (cm (ho.ws.take k)),.sl (vl1 6) 9 1 ho.bx.length (uN ho.bx),.blk b3 (.cells (cB ho.no ho.gt va aq (vl1 6)) 202),.blk b2 (.cells (cB 0 0 aq aq aq) 202),.blk b1 (.cells (cB ho.no ho.gt vw vh vi) 68)] ww/\nn=ho.ws.length - k/\k<=ho.ws.length) (ho.ws.length - (0)) ⟨0,aq,h.only ⟨rfl,rfl,rfl,rfl,rfl,rfl,rfl,aw rfl (by omega),trivial⟩,s.as ⟨rfl,rfl,rfl,rfl,rfl,trivial⟩,rfl,as3 _⟩ ?_)
 rintro _ f w1 ⟨k,va,h,s,hnn,hp0⟩
 refine bD ac 1 h rfl λf h=>ag (cZ h rfl (λhc=>?_) (λhc=>?_))
 ·refine kt (ag (au4 (qr ?_)))
  have hkl:k<ho.ws.length:=by omega
  refine ak h (bj (hHo.1.keep s.ext) (k) aA7 Sc (h.ev rfl) (h.ev rfl) (by omega) (by omega)) rfl λf h=>ax ((hHo.1.keep s.ext).el (k) (by omega) (by decide) (D:=dq (ho.ws.getD k iI)) (Jb _ k hkl)) h Me rfl (cR _) rfl λf h=>aK (dq iI) h s Of rfl rfl λf w1 b5 h s=>am 0 h s Me rfl rfl rfl (cR _) (cR _) (nV _) λw1 s=>nt (rs ac 1 h rfl λf h=>ai (V:=va) (ah (aX.of_own s 3 rfl) 2 (N9 _ _ _ _ _)) h BN rfl rfl λf h=>ap ac 1 h rfl λf h=>ax (aX.subL (aX.of_own s 0 rfl) 0 32 (D:=aJ (ho.ws.getD k iI).1) (zh _)) h bO rfl (by first|exact az _|exact ay _ _) rfl λf h=>ak h (qH QH (h.ev rfl)) rfl λf h=>ap ac 1 h rfl λf h=>ai (V:=.int .i64 (ho.ws.getD k iI).2) (ah (aX.of_own s 0 rfl) 32 (nC _)) h bQ rfl rfl λf h=>ak h (zR YE (h.ev rfl) (h.ev rfl)) rfl λf h=>ef (vs:=[.agg (dq (ho.ws.getD k iI))]) [.tmp 30] h s aB2 IS rfl rfl (XM _) rfl rfl rfl λf w1 v31 h s=>jS 2 0 h s aB2 IS rfl rfl rfl rfl (by decide) (by rw [G9];exact nV _) (by have h9:(ho.ws.take k).length<=k:=(by rw [au0];omega);unfold maxLen;omega) (by have h9:(ho.ws.take k).length<=k:=(by rw [au0];omega);omega) rfl λf w1 v32 h s=>?_)
  replace s:=s.pick _ (as2 _ _)
  replace s:=s.resl (m:=(ho.ws.take (k+1)).length) (ys:=cm (ho.ws.take (k+1))) 1 rfl (by rw [ET hkl,aq7];rfl) (by rw [ET hkl,G9,Qa])
  refine ap ac 1 h rfl λf h=>aB 3 h s BN rfl rfl rfl (by rw [ct];omega) (aZ (s.getSl 1 rfl)) λw1 s=>?_
  replace s:=s.recell (D:=cB ho.no ho.gt v32 aq (vl1 6)) 3 rfl (rfl)
  refine aE (aW (aG (aC (ak h (bB (h.ev rfl) (h.ev rfl) (by omega)) rfl λf h=>e9 ac 1 h rfl λf h=>?_))))
  exact ⟨_,by omega,⟨k+1,v32,h.only ⟨rfl,rfl,rfl,rfl,rfl,rfl,rfl,aw rfl (by omega),trivial⟩,St.as (s.pick _ (ap8 _ (ap7 _ (ap7 _ (ap7 _ (ap7 _ (ap7 _ (as0 _)))))))) ⟨rfl,rfl,rfl,rfl,rfl,trivial⟩,rfl,by omega⟩⟩
 ·refine au5 (aT (aT (bS (aG (ag (cw ac 1 h rfl λf h=>?_))))))
  obtain rfl:k=ho.ws.length:=by omega
  rw [List.take_length] at s
  replace s:=s.nilSl 277 34
  refine ai (V:=vh) (ah (aX.of_own s 5 rfl) 3 (Od _ _ _ _ _)) h EL rfl rfl λf h=>cb h (hHo.2.1.keep s.ext) aA8 rfl rfl λf h=>e9 ac 1 h rfl λf h=>au4 (au6 (λnn aa ww=>∃ k:Nat,∃ vc:Value,Sl 57 aa [(0,.agg (cB ho.no ho.gt vw vh vi)),(1,.pointer (some ⟨b1,0,none⟩)),(2,.pointer (some ⟨b2,0,none⟩)),(3,.pointer (some ⟨b3,0,none⟩)),(14,(vl1 6)),(36,vh),(37,.int .i64 (ho.hs.length:Int)),(38,.int .i64 (k:Int))]/\St w [.sl vc 277 34 (ho.hs.take k).length (cG (ho.hs.take k)),.sl va 247 33 ho.ws.length (cm ho.ws),.sl (vl1 6) 9 1 ho.bx.length (uN ho.bx),.blk b3 (.cells (cB ho.no ho.gt va vc (vl1 6)) 202),.blk b2 (.cells (cB 0 0 aq aq aq) 202),.blk b1 (.cells (cB ho.no ho.gt vw vh vi) 68)] ww/\nn=ho.hs.length - k/\k<=ho.hs.length) (ho.hs.length - (0)) ⟨0,aq,h.only ⟨rfl,rfl,rfl,rfl,rfl,rfl,rfl,aw rfl (by omega),trivial⟩,s.as ⟨rfl,rfl,rfl,rfl,rfl,rfl,trivial⟩,rfl,as3 _⟩ ?_)
  rintro _ f w1 ⟨k,vc,h,s,hnn,hp0⟩
  refine bD ac 1 h rfl λf h=>ag (cZ h rfl (λhc=>?_) (λhc=>?_))
  ·refine kt (ag (au4 (qr ?_)))
   have hkl:k<ho.hs.length:=by omega
   refine ak h (bj (hHo.2.1.keep s.ext) (k) aA8 TQ (h.ev rfl) (h.ev rfl) (by omega) (by omega)) rfl λf h=>ax ((hHo.2.1.keep s.ext).el (k) (by omega) (by decide) (D:=dh (ho.hs.getD k ij)) (Hu _ k hkl)) h Jz rfl (cP _) rfl λf h=>aK (dh ij) h s OH rfl rfl λf w1 b7 h s=>am 0 h s Jz rfl rfl rfl (cP _) (cP _) (mY _) λw1 s=>nt (rs ac 1 h rfl λf h=>ai (V:=vc) (ah (aX.of_own s 4 rfl) 3 (Od _ _ _ _ _)) h Bo rfl rfl λf h=>ap ac 1 h rfl λf h=>ax (aX.subL (aX.of_own s 0 rfl) 0 32 (D:=aJ (ho.hs.getD k ij).1) (yN _)) h bO rfl (by first|exact az _|exact ay _ _) rfl λf h=>ak h (qH QH (h.ev rfl)) rfl λf h=>ap ac 1 h rfl λf h=>ai (V:=.int .i64 (ho.hs.getD k ij).2.1) (ah (aX.of_own s 0 rfl) 32 (zZ _)) h bQ rfl rfl λf h=>ap ac 1 h rfl λf h=>ai (V:=.int .i64 (ho.hs.getD k ij).2.2) (ah (aX.of_own s 0 rfl) 33 (qo _)) h bQ rfl rfl λf h=>ak h (yS YC (h.ev rfl) (h.ev rfl) (h.ev rfl)) rfl λf h=>ef (vs:=[.agg (dh (ho.hs.getD k ij))]) [.tmp 51] h s aB3 JV rfl rfl (Y0 _) rfl rfl rfl λf w1 v52 h s=>jS 2 0 h s aB3 JV rfl rfl rfl rfl (by decide) (by rw [Lv];exact mY _) (by have h9:(ho.hs.take k).length<=k:=(by rw [au0];omega);unfold maxLen;omega) (by have h9:(ho.hs.take k).length<=k:=(by rw [au0];omega);omega) rfl λf w1 v53 h s=>?_)
   replace s:=s.pick _ (as2 _ _)
   replace s:=s.resl (m:=(ho.hs.take (k+1)).length) (ys:=cG (ho.hs.take (k+1))) 1 rfl (by rw [DE hkl,aq7];rfl) (by rw [DE hkl,Lv,Ol])
   refine ap ac 1 h rfl λf h=>aB 4 h s Bo rfl rfl rfl (by rw [ct];omega) (aZ (s.getSl 1 rfl)) λw1 s=>?_
   replace s:=s.recell (D:=cB ho.no ho.gt va v53 (vl1 6)) 4 rfl (rfl)
   refine aE (aW (aG (aC (ak h (bB (h.ev rfl) (h.ev rfl) (by omega)) rfl λf h=>e9 ac 1 h rfl λf h=>?_))))
   exact ⟨_,by omega,⟨k+1,v53,h.only ⟨rfl,rfl,rfl,rfl,rfl,rfl,rfl,aw rfl (by omega),trivial⟩,St.as (s.pick _ (ap8 _ (ap7 _ (ap7 _ (ap7 _ (ap7 _ (ap7 _ (ap7 _ (as0 _))))))))) ⟨rfl,rfl,rfl,rfl,rfl,rfl,trivial⟩,rfl,by omega⟩⟩
  ·refine au5 (aT (aT (bS (aG (qr (al 3 h s wR rfl rfl (ct _ _ _ _ _) rfl λf h=>am 4 h s wR rfl rfl rfl (ct _ _ _ _ _) (ct _ _ _ _ _) (kB _ _ (aZ (s.getSl 1 rfl)) (aZ (s.getSl 0 rfl)) (hF 6 (by kernel_rfl))) λw1 s=>nt (au3 (g7 4 rfl h s wR rfl rfl (ct _ _ _ _ _) (by obtain rfl:k=ho.hs.length:=(by omega);rw [List.take_length] at s;exact ⟨_,_,_,rfl,s.sel [1,0,2] rfl (by decide)⟩)))))))))
theorem KP (n:Int) (w:World):Calls Tryz.prog 198 [.int .i64 n].toArray w (bW w (is (.bool (gh n 0 15)))):=by
 refine bG Tryz.func198 rfl Tryz.ntmps198 rfl λf h s=>bD ac 1 h rfl λf h=>ag ?_
 refine rs ac 1 h rfl λf h=>kJ ac h rfl (λh0 f h=>?_) (λh0 f h=>?_)
 ·refine e9 ac 5 h rfl λf h=>au3 (aA rfl h s rfl (by show _=_;unfold gh;rw [h0]<;>rfl))
 ·refine ap ac 2 h rfl λf h=>cg h rfl (ol ac (.bool (decide (n<=15))) h rfl (aq3 Value.bool (ar3.2 (by omega))) rfl λf h=>e9 ac 2 h rfl λf h=>au3 (aA rfl h s rfl (by show _=_;unfold gh;rw [h0]<;>rfl)))
theorem Aw (n:Int) (w:World):Calls Tryz.prog 199 [.int .i64 n].toArray w (bW w (is (.bool (gh n 0 15)))):=by
 refine bG Tryz.func199 rfl Tryz.ntmps199 rfl λf h s=>bD ac 1 h rfl λf h=>ag ?_
 refine rs ac 1 h rfl λf h=>kJ ac h rfl (λh0 f h=>?_) (λh0 f h=>?_)
 ·refine e9 ac 5 h rfl λf h=>au3 (aA rfl h s rfl (by show _=_;unfold gh;rw [h0]<;>rfl))
 ·refine ap ac 2 h rfl λf h=>cg h rfl (ol ac (.bool (decide (n<=15))) h rfl (aq3 Value.bool (ar3.2 (by omega))) rfl λf h=>e9 ac 2 h rfl λf h=>au3 (aA rfl h s rfl (by show _=_;unfold gh;rw [h0]<;>rfl)))
theorem Bn (v:Value):ZM Tryz.prog 247 v "posthouse/host.right" 166:=λw=>by kernel_rfl
theorem B6 (x:Wn):Oe Tryz.prog 247 (.agg (dq x)) "posthouse/host.id" 171 (.agg (aJ x.1)):=λw=>by
 rw [← zh x];generalize dq x=C;kernel_rfl
theorem BU (v:Value):ZM Tryz.prog 277 v "posthouse/host.right" 416:=λw=>by kernel_rfl
theorem Ca (x:Hn):Oe Tryz.prog 277 (.agg (dh x)) "posthouse/host.id" 171 (.agg (aJ x.1)):=λw=>by
 rw [← yN x];generalize dh x=C;kernel_rfl
theorem xt (y:Wn) (w:World):Calls Tryz.prog 166 [.agg (dq y)].toArray w (bW w (is (.bool (gh y.2 1 1048576)))):=by
 refine bG Tryz.func166 rfl Tryz.ntmps166 rfl λf h s=>qr (ba (dq y) h s rfl rfl rfl λf w1 b1 h s=>e9 ac 1 h rfl λf h=>ag ?_)
 refine rs ac 1 h rfl λf h=>ai (V:=.int .i64 y.2) (ah (aX.of_own s 0 rfl) 32 (nC _)) h bQ rfl rfl λf h=>kJ ac h rfl (λh0 f h=>?_) (λh0 f h=>?_)
 ·refine e9 ac 6 h rfl λf h=>au3 (aA rfl h s rfl (by show _=_;unfold gh;rw [h0]<;>rfl))
 ·refine ap ac 2 h rfl λf h=>cg h rfl (ai (V:=.int .i64 y.2) (ah (aX.of_own s 0 rfl) 32 (nC _)) h bQ rfl rfl λf h=>e9 ac 3 h rfl λf h=>au3 (aA rfl h s rfl (by show _=_;unfold gh;rw [h0]<;>rfl)))
theorem lY (x:Id) (w:World):Calls Tryz.prog 171 [kL x].toArray w (bW w (is (kL x))):=by
 refine bG Tryz.func171 rfl Tryz.ntmps171 rfl λf h s=>qr (ba (aJ x) h s rfl rfl rfl λf w1 b1 h s=>aK (aJ 0#256) h s Cy rfl rfl λf w1 b2 h s=>nt (cw ac 1 h rfl λf h=>ax (aX.subL (aX.of_own s 1 rfl) 0 32 (D:=aJ x) (Cm x)) h bO rfl (by first|exact az _|exact ay _ _) rfl λf h=>am 0 h s bO rfl rfl rfl (by first|exact az _|exact ay _ _) (by first|exact az _|exact ay _ _) (by first|exact uj _|exact ff _ _) λw1 s=>nt (au3 (g7 0 rfl h s bO rfl rfl (by first|exact az _|exact ay _ _) (rfl)))))
theorem IL (l:List Wn) (vh:Value) (g9:Nat) (caps:List Value) (p:Wn->Bool) (w:World) (hR:a7 w vh 33 l.length (cm l)) (hln:l.length<=1000) (hg:Fnc Tryz.prog g9) (hp:∀ w9,Ext w w9->∀ x∈l,Calls Tryz.prog g9 (.agg (dq x)::caps).toArray w9 (bW w9 (is (.bool (p x))))):Calls Tryz.prog 224 [vh,.func (.func g9) #[] caps.toArray].toArray w (bW w (λv _=>∃ r:Int,v=.int .i64 r/\((r = -1/\∀ x∈l,p x=false)∨∃ k:Nat,k<l.length/\r=(k:Int)/\p (l.getD k iI)=true/\∀ i,i<k->p (l.getD i iI)=false))):=by
 refine bG Tryz.func224 rfl Tryz.ntmps224 rfl λf h s=>bD ac 1 h rfl λf h=>ag (cw ac 1 h rfl λf h=>cb h (hR.keep s.ext) aB2 rfl rfl λf h=>e9 ac 1 h rfl λf h=>au4 (au6 (λnn aa ww=>∃ k:Nat,Sl 19 aa [(0,vh),(1,.func (.func g9) #[] caps.toArray),(6,vh),(7,.int .i64 (l.length:Int)),(8,.int .i64 (k:Int))]/\St w [] ww/\nn=l.length - k/\k<=l.length/\∀ i,i<k->p (l.getD i iI)=false) (l.length - (0)) ⟨0,h.only ⟨rfl,rfl,rfl,rfl,aw rfl (by omega),trivial⟩,s.as trivial,rfl,as3 _,λi hi=>ax7 hi (av6 _)⟩ ?_))
 rintro _ f w1 ⟨k,h,s,hnn,hp0,hp1⟩
 refine bD ac 1 h rfl λf h=>ag (cZ h rfl (λhc=>?_) (λhc=>?_))
 ·refine kt (ag (au4 (bD ac 2 h rfl λf h=>qr ?_)))
  have hkl:k<l.length:=by omega
  refine ap ac 3 h rfl λf h=>ak h (bj (hR.keep s.ext) (k) aB2 wx (h.ev rfl) (h.ev rfl) (by omega) (by omega)) rfl λf h=>ax ((hR.keep s.ext).el (k) (by omega) (by decide) (D:=dq (l.getD k iI)) (Jb l k hkl)) h km rfl (cR _) rfl λf h=>gQ [.agg (dq (l.getD k iI))] (caps:=caps) h s hg rfl (hp _ s.ext _ (xz hkl)) rfl rfl ?_;intro f w1 v9 hT hE h s;obtain rfl:=hT
  refine nt (cT h rfl (λhc=>?_) (λhc=>?_))
  ·refine bD ac 2 h rfl λf h=>au3 (aY (aQ (aQ (aY (aQ (aA rfl h s rfl (⟨_,rfl,.inr ⟨k,hkl,rfl,hc,hp1⟩⟩)))))))
  ·refine wpIn_skip (aW (aG (aC (ak h (bB (h.ev rfl) (h.ev rfl) (by omega)) rfl λf h=>e9 ac 1 h rfl λf h=>?_))))
   exact ⟨_,by omega,⟨k+1,h.only ⟨rfl,rfl,rfl,rfl,aw rfl (by omega),trivial⟩,St.as s trivial,rfl,by omega,eM (q:=λj=>p (l.getD j iI)) hp1 hc⟩⟩
 ·refine au5 (aT (aT (bS (aG (bD ac 1 h rfl λf h=>au3 (aA rfl h s rfl (⟨_,rfl,.inl ⟨rfl,λx hx=>(by obtain ⟨i,hi,rfl⟩:=Rv hx;exact hp1 i (by omega))⟩⟩)))))))
theorem If (y:Wn) (x:Id) (bx:Nat) (w:World) (hb:jA w bx (aJ x)):Calls Tryz.prog 225 [.agg (dq y),.pointer (some ⟨bx,0,none⟩)].toArray w (bW w (is (.bool (decide (y.1=x))))):=by
 refine bG Tryz.func225 rfl Tryz.ntmps225 rfl λf h s=>qr (ba (dq y) h s rfl rfl rfl λf w1 b2 h s=>e9 ac 1 h rfl λf h=>ag (cK 6 h (by kernel_rfl) (aH 0 h s km rfl rfl (cR _) rfl λf h=>aF h (cM az6 rfl (h.ev rfl)) rfl λf h=>lX h pF (B6 _) rfl (λw9 hE9=>lY y.1 w9) rfl ?_)));intro f h
 refine aU (aX.subL (aX.of_tab (hb.keep s.ext)) 0 32 (D:=aJ x) (Cm x)) h bO rfl (by first|exact az _|exact ay _ _) rfl λf h=>aF h (dQ jr (h.ev rfl) (h.ev rfl)) rfl λf h=>aD ac 1 h rfl λf h=>bF s λw1 s=>nt (au3 (aA rfl h s rfl (rfl)))
theorem AF (l:List Wn) (vh:Value) (x:Id) (w:World) (hR:a7 w vh 33 l.length (cm l)) (hln:l.length<=1000):Calls Tryz.prog 167 [vh,kL x].toArray w (bW w (is (.int .i64 (l8 (wk l) x)))):=by
 refine bG Tryz.func167 rfl Tryz.ntmps167 rfl λf h s=>qr (ba (aJ x) h s rfl rfl rfl λf w1 b3 h s=>e9 ac 1 h rfl λf h=>cw ac 1 h rfl λf h=>ak h (de [.pointer (some ⟨b3,0,none⟩)] (lL h rfl)) rfl λf h=>bg h s SZ (IL l vh 225 [.pointer (some ⟨b3,0,none⟩)] (λy=>decide (y.1=x)) _ (hR.keep s.ext) hln Vk (λw9 h9 y _=>If y x b3 w9 ((jA.of_own s 0 rfl).keep h9))) rfl rfl ?_);rintro f w1 v9 ⟨r9,rfl,hr⟩ hE h s;obtain rfl:=Xo hr
 refine e9 ac 1 h rfl λf h=>au3 (aA rfl h s rfl (rfl))
set_option maxHeartbeats 1000000 in
theorem Gb (l:List Wn) (vh:Value) (w:World) (hR:a7 w vh 33 l.length (cm l)) (hln:l.length<=1000):Calls Tryz.prog 200 [vh].toArray w (bW w (is (.bool (G6 l)))):=by
 refine bG Tryz.func200 rfl Tryz.ntmps200 rfl λf h s=>bD ac 1 h rfl λf h=>ag (cw ac 1 h rfl λf h=>cb h (hR.keep s.ext) aB2 rfl rfl λf h=>e9 ac 1 h rfl λf h=>cT h rfl (λhc=>?_) (λhc=>?_))
 ·have h8:8<l.length:=by have:=ap9 hc;omega
  refine bD ac 1 h rfl λf h=>rt (aA rfl h s rfl (by show _=_;rw [VH h8]))
 ·have h8:l.length<=8:=by have:=aq0 hc;omega
  refine kt (ag (cw ac 1 h rfl λf h=>cb h (hR.keep s.ext) aB2 rfl rfl λf h=>e9 ac 1 h rfl λf h=>au4 (au6 (λnn aa ww=>∃ k:Nat,Sl 30 aa [(8,vh),(9,.int .i64 (l.length:Int)),(10,.int .i64 (k:Int)),(0,vh)]/\St w [] ww/\nn=l.length - k/\k<=l.length/\∀ j,j<k->Fq l j=true) (l.length - (0)) ⟨0,h.only ⟨rfl,rfl,aw rfl (by omega),rfl,trivial⟩,s.as trivial,rfl,as3 _,λj hj=>ax7 hj (av6 _)⟩ ?_)))
  rintro _ f w1 ⟨k,h,s,hnn,hp0,hp1⟩
  refine bD ac 1 h rfl λf h=>ag (cZ h rfl (λhc=>?_) (λhc=>?_))
  ·refine kt (ag (au4 (cw ac 1 h rfl λf h=>?_)))
   have hkl:k<l.length:=by omega
   refine ak h (bj (hR.keep s.ext) (k) aB2 wx (h.ev rfl) (h.ev rfl) (by omega) (by omega)) rfl λf h=>ax ((hR.keep s.ext).el (k) (by omega) (by decide) (D:=dq (l.getD k iI)) (Jb l k hkl)) h km rfl (cR _) rfl λf h=>aK (dq iI) h s NQ rfl rfl λf w1 b4 h s=>ap ac 1 h rfl λf h=>am 0 h s km rfl rfl rfl (cR _) (cR _) (nV _) λw1 s=>nt (ag ?_)
   cases i0:(gh (l.getD k iI).2 1 1048576:Bool)
   ·refine cK 14 h (by kernel_rfl) (aH 0 h s km rfl rfl (cR _) rfl λf h=>aF h (cM az6 rfl (h.ev rfl)) rfl λf h=>mg h CF (Bn _) rfl (λw9 hE9=>bK (.bool false) (xt (l.getD k iI) w9) (aq3 Value.bool i0)) rfl ?_);intro f h
    refine aD ac 11 h rfl λf h=>bF s λw1 s=>iz h rfl (bD ac 1 h rfl λf h=>au3 (aY (aQ (aQ (aY (aQ (aA rfl h s rfl (by show _=_;rw [QC hkl (Xj i0)]))))))))
   ·skip
    cases q0:(decide (l8 (wk l) (l.getD k iI).1=(k:Int)):Bool)
    ·refine cK 14 h (by kernel_rfl) (aH 0 h s km rfl rfl (cR _) rfl λf h=>aF h (cM az6 rfl (h.ev rfl)) rfl λf h=>mg h CF (Bn _) rfl (λw9 hE9=>bK (.bool true) (xt (l.getD k iI) w9) (aq3 Value.bool i0)) rfl ?_);intro f h
     refine aD ac 4 h rfl λf h=>cj h rfl (aF h (ei (hR.keep s.ext) (k) aB2 wx (h.ev rfl) (h.ev rfl) (rfl) (by omega)) rfl λf h=>cj h rfl (aH 0 h s km rfl rfl (cR _) rfl λf h=>cj h rfl (aF h (cM az6 rfl (h.ev rfl)) rfl λf h=>cj h rfl (lX h pF (B6 _) rfl (λw9 hE9=>lY (l.getD k iI).1 w9) rfl ?_))));intro f h
     refine cj h rfl (bR h KA (λw9 hE9=>AF (l.take k) (gG vh k) (l.getD k iI).1 w9 (Di (hR.keep (s.ext.trans hE9)) k (by omega)) (by rw [au0];omega)) rfl rfl λf h=>cj h rfl (ql ac h rfl ((QT hkl).trans (by rw [q0];rfl)) λf h=>aD ac 1 h rfl λf h=>bF s λw1 s=>iz h rfl (bD ac 1 h rfl λf h=>au3 (aY (aQ (aQ (aY (aQ (aA rfl h s rfl (by show _=_;rw [QC hkl (R0 i0 q0)]))))))))))
    ·refine cK 14 h (by kernel_rfl) (aH 0 h s km rfl rfl (cR _) rfl λf h=>aF h (cM az6 rfl (h.ev rfl)) rfl λf h=>mg h CF (Bn _) rfl (λw9 hE9=>bK (.bool true) (xt (l.getD k iI) w9) (aq3 Value.bool i0)) rfl ?_);intro f h
     refine aD ac 4 h rfl λf h=>cj h rfl (aF h (ei (hR.keep s.ext) (k) aB2 wx (h.ev rfl) (h.ev rfl) (rfl) (by omega)) rfl λf h=>cj h rfl (aH 0 h s km rfl rfl (cR _) rfl λf h=>cj h rfl (aF h (cM az6 rfl (h.ev rfl)) rfl λf h=>cj h rfl (lX h pF (B6 _) rfl (λw9 hE9=>lY (l.getD k iI).1 w9) rfl ?_))));intro f h
     refine cj h rfl (bR h KA (λw9 hE9=>AF (l.take k) (gG vh k) (l.getD k iI).1 w9 (Di (hR.keep (s.ext.trans hE9)) k (by omega)) (by rw [au0];omega)) rfl rfl λf h=>cj h rfl (sT ac h rfl ((QT hkl).trans (by rw [q0];rfl)) λf h=>aD ac 1 h rfl λf h=>bF s λw1 s=>tS h rfl (wpIn_skip (aW (aG (aC (ak h (bB (h.ev rfl) (h.ev rfl) (by omega)) rfl λf h=>e9 ac 1 h rfl λf h=>?_)))))))
     exact ⟨_,by omega,⟨k+1,h.only ⟨rfl,rfl,aw rfl (by omega),rfl,trivial⟩,St.as (s.pick _ (ar8 [_] _)) trivial,rfl,by omega,gM hp1 (R0 i0 q0)⟩⟩
  ·refine au5 (aT (aT (bS (aG (bD ac 1 h rfl λf h=>au3 (aA rfl h s rfl (by show _=_;rw [SA h8 (λj hj=>hp1 j (by omega))])))))))
theorem Gx (n:Int) (w:World):Calls Tryz.prog 170 [.int .i64 n].toArray w (bW w (is (.bool (gh n 0 1099511627776)))):=by
 refine bG Tryz.func170 rfl Tryz.ntmps170 rfl λf h s=>bD ac 1 h rfl λf h=>ag ?_
 refine rs ac 1 h rfl λf h=>kJ ac h rfl (λh0 f h=>?_) (λh0 f h=>?_)
 ·refine e9 ac 5 h rfl λf h=>au3 (aA rfl h s rfl (by show _=_;unfold gh;rw [h0]<;>rfl))
 ·refine e9 ac 5 h rfl λf h=>au3 (aA rfl h s rfl (by show _=_;unfold gh;rw [h0]<;>rfl))
theorem xe (y:Hn) (w:World):Calls Tryz.prog 416 [.agg (dh y)].toArray w (bW w (is (.bool (QQ y)))):=by
 refine bG Tryz.func416 rfl Tryz.ntmps416 rfl λf h s=>qr (ba (dh y) h s rfl rfl rfl λf w1 b1 h s=>e9 ac 1 h rfl λf h=>ag ?_)
 refine rs ac 1 h rfl λf h=>ai (V:=.int .i64 y.2.1) (ah (aX.of_own s 0 rfl) 32 (zZ _)) h bQ rfl rfl λf h=>fx h s HZ (Aw y.2.1 _) rfl rfl (λh0 f w1 h s=>?_) (λh0 f w1 h s=>?_)
 ·refine e9 ac 6 h rfl λf h=>au3 (aA rfl h s rfl (by show _=_;unfold QQ;rw [h0]<;>rfl))
 ·refine ap ac 2 h rfl λf h=>cg h rfl (ai (V:=.int .i64 y.2.2) (ah (aX.of_own s 0 rfl) 33 (qo _)) h bQ rfl rfl λf h=>cg h rfl (fP h s Te (Gx y.2.2 _) rfl rfl λf w1 h s=>e9 ac 2 h rfl λf h=>au3 (aA rfl h s rfl (by show _=_;unfold QQ;rw [h0]<;>rfl))))
theorem Ls (l:List Hn) (vh:Value) (g9:Nat) (caps:List Value) (p:Hn->Bool) (w:World) (hR:a7 w vh 34 l.length (cG l)) (hln:l.length<=1000) (hg:Fnc Tryz.prog g9) (hp:∀ w9,Ext w w9->∀ x∈l,Calls Tryz.prog g9 (.agg (dh x)::caps).toArray w9 (bW w9 (is (.bool (p x))))):Calls Tryz.prog 284 [vh,.func (.func g9) #[] caps.toArray].toArray w (bW w (λv _=>∃ r:Int,v=.int .i64 r/\((r = -1/\∀ x∈l,p x=false)∨∃ k:Nat,k<l.length/\r=(k:Int)/\p (l.getD k ij)=true/\∀ i,i<k->p (l.getD i ij)=false))):=by
 refine bG Tryz.func284 rfl Tryz.ntmps284 rfl λf h s=>bD ac 1 h rfl λf h=>ag (cw ac 1 h rfl λf h=>cb h (hR.keep s.ext) aB3 rfl rfl λf h=>e9 ac 1 h rfl λf h=>au4 (au6 (λnn aa ww=>∃ k:Nat,Sl 19 aa [(0,vh),(1,.func (.func g9) #[] caps.toArray),(6,vh),(7,.int .i64 (l.length:Int)),(8,.int .i64 (k:Int))]/\St w [] ww/\nn=l.length - k/\k<=l.length/\∀ i,i<k->p (l.getD i ij)=false) (l.length - (0)) ⟨0,h.only ⟨rfl,rfl,rfl,rfl,aw rfl (by omega),trivial⟩,s.as trivial,rfl,as3 _,λi hi=>ax7 hi (av6 _)⟩ ?_))
 rintro _ f w1 ⟨k,h,s,hnn,hp0,hp1⟩
 refine bD ac 1 h rfl λf h=>ag (cZ h rfl (λhc=>?_) (λhc=>?_))
 ·refine kt (ag (au4 (bD ac 2 h rfl λf h=>qr ?_)))
  have hkl:k<l.length:=by omega
  refine ap ac 3 h rfl λf h=>ak h (bj (hR.keep s.ext) (k) aB3 wN (h.ev rfl) (h.ev rfl) (by omega) (by omega)) rfl λf h=>ax ((hR.keep s.ext).el (k) (by omega) (by decide) (D:=dh (l.getD k ij)) (Hu l k hkl)) h j5 rfl (cP _) rfl λf h=>gQ [.agg (dh (l.getD k ij))] (caps:=caps) h s hg rfl (hp _ s.ext _ (xg hkl)) rfl rfl ?_;intro f w1 v9 hT hE h s;obtain rfl:=hT
  refine nt (cT h rfl (λhc=>?_) (λhc=>?_))
  ·refine bD ac 2 h rfl λf h=>au3 (aY (aQ (aQ (aY (aQ (aA rfl h s rfl (⟨_,rfl,.inr ⟨k,hkl,rfl,hc,hp1⟩⟩)))))))
  ·refine wpIn_skip (aW (aG (aC (ak h (bB (h.ev rfl) (h.ev rfl) (by omega)) rfl λf h=>e9 ac 1 h rfl λf h=>?_))))
   exact ⟨_,by omega,⟨k+1,h.only ⟨rfl,rfl,rfl,rfl,aw rfl (by omega),trivial⟩,St.as s trivial,rfl,by omega,eM (q:=λj=>p (l.getD j ij)) hp1 hc⟩⟩
 ·refine au5 (aT (aT (bS (aG (bD ac 1 h rfl λf h=>au3 (aA rfl h s rfl (⟨_,rfl,.inl ⟨rfl,λx hx=>(by obtain ⟨i,hi,rfl⟩:=RI hx;exact hp1 i (by omega))⟩⟩)))))))
theorem KV (y:Hn) (x:Id) (bx:Nat) (w:World) (hb:jA w bx (aJ x)):Calls Tryz.prog 285 [.agg (dh y),.pointer (some ⟨bx,0,none⟩)].toArray w (bW w (is (.bool (decide (y.1=x))))):=by
 refine bG Tryz.func285 rfl Tryz.ntmps285 rfl λf h s=>qr (ba (dh y) h s rfl rfl rfl λf w1 b2 h s=>e9 ac 1 h rfl λf h=>ag (cK 6 h (by kernel_rfl) (aH 0 h s j5 rfl rfl (cP _) rfl λf h=>aF h (cM az7 rfl (h.ev rfl)) rfl λf h=>lX h pF (Ca _) rfl (λw9 hE9=>lY y.1 w9) rfl ?_)));intro f h
 refine aU (aX.subL (aX.of_tab (hb.keep s.ext)) 0 32 (D:=aJ x) (Cm x)) h bO rfl (by first|exact az _|exact ay _ _) rfl λf h=>aF h (dQ jr (h.ev rfl) (h.ev rfl)) rfl λf h=>aD ac 1 h rfl λf h=>bF s λw1 s=>nt (au3 (aA rfl h s rfl (rfl)))
theorem AK (l:List Hn) (vh:Value) (x:Id) (w:World) (hR:a7 w vh 34 l.length (cG l)) (hln:l.length<=1000):Calls Tryz.prog 228 [vh,kL x].toArray w (bW w (is (.int .i64 (l8 (hk l) x)))):=by
 refine bG Tryz.func228 rfl Tryz.ntmps228 rfl λf h s=>qr (ba (aJ x) h s rfl rfl rfl λf w1 b3 h s=>e9 ac 1 h rfl λf h=>cw ac 1 h rfl λf h=>ak h (de [.pointer (some ⟨b3,0,none⟩)] (lL h rfl)) rfl λf h=>bg h s Sa (Ls l vh 285 [.pointer (some ⟨b3,0,none⟩)] (λy=>decide (y.1=x)) _ (hR.keep s.ext) hln TW (λw9 h9 y _=>KV y x b3 w9 ((jA.of_own s 0 rfl).keep h9))) rfl rfl ?_);rintro f w1 v9 ⟨r9,rfl,hr⟩ hE h s;obtain rfl:=W5 hr
 refine e9 ac 1 h rfl λf h=>au3 (aA rfl h s rfl (rfl))
set_option maxHeartbeats 1000000 in
theorem E5 (l:List Hn) (vh:Value) (w:World) (hR:a7 w vh 34 l.length (cG l)) (hln:l.length<=1000):Calls Tryz.prog 201 [vh].toArray w (bW w (is (.bool (Jv l)))):=by
 refine bG Tryz.func201 rfl Tryz.ntmps201 rfl λf h s=>bD ac 1 h rfl λf h=>ag (cw ac 1 h rfl λf h=>cb h (hR.keep s.ext) aB3 rfl rfl λf h=>e9 ac 1 h rfl λf h=>cT h rfl (λhc=>?_) (λhc=>?_))
 ·have h8:8<l.length:=by have:=ap9 hc;omega
  refine bD ac 1 h rfl λf h=>rt (aA rfl h s rfl (by show _=_;rw [UX h8]))
 ·have h8:l.length<=8:=by have:=aq0 hc;omega
  refine kt (ag (cw ac 1 h rfl λf h=>cb h (hR.keep s.ext) aB3 rfl rfl λf h=>e9 ac 1 h rfl λf h=>au4 (au6 (λnn aa ww=>∃ k:Nat,Sl 30 aa [(8,vh),(9,.int .i64 (l.length:Int)),(10,.int .i64 (k:Int)),(0,vh)]/\St w [] ww/\nn=l.length - k/\k<=l.length/\∀ j,j<k->qc l j=true) (l.length - (0)) ⟨0,h.only ⟨rfl,rfl,aw rfl (by omega),rfl,trivial⟩,s.as trivial,rfl,as3 _,λj hj=>ax7 hj (av6 _)⟩ ?_)))
  rintro _ f w1 ⟨k,h,s,hnn,hp0,hp1⟩
  refine bD ac 1 h rfl λf h=>ag (cZ h rfl (λhc=>?_) (λhc=>?_))
  ·refine kt (ag (au4 (cw ac 1 h rfl λf h=>?_)))
   have hkl:k<l.length:=by omega
   refine ak h (bj (hR.keep s.ext) (k) aB3 wN (h.ev rfl) (h.ev rfl) (by omega) (by omega)) rfl λf h=>ax ((hR.keep s.ext).el (k) (by omega) (by decide) (D:=dh (l.getD k ij)) (Hu l k hkl)) h j5 rfl (cP _) rfl λf h=>aK (dh ij) h s OA rfl rfl λf w1 b4 h s=>ap ac 1 h rfl λf h=>am 0 h s j5 rfl rfl rfl (cP _) (cP _) (mY _) λw1 s=>nt (ag ?_)
   cases i0:(QQ (l.getD k ij):Bool)
   ·refine cK 14 h (by kernel_rfl) (aH 0 h s j5 rfl rfl (cP _) rfl λf h=>aF h (cM az7 rfl (h.ev rfl)) rfl λf h=>mg h CE (BU _) rfl (λw9 hE9=>bK (.bool false) (xe (l.getD k ij) w9) (aq3 Value.bool i0)) rfl ?_);intro f h
    refine aD ac 11 h rfl λf h=>bF s λw1 s=>iz h rfl (bD ac 1 h rfl λf h=>au3 (aY (aQ (aQ (aY (aQ (aA rfl h s rfl (by show _=_;rw [RZ hkl (WV i0)]))))))))
   ·skip
    cases q0:(decide (l8 (hk l) (l.getD k ij).1=(k:Int)):Bool)
    ·refine cK 14 h (by kernel_rfl) (aH 0 h s j5 rfl rfl (cP _) rfl λf h=>aF h (cM az7 rfl (h.ev rfl)) rfl λf h=>mg h CE (BU _) rfl (λw9 hE9=>bK (.bool true) (xe (l.getD k ij) w9) (aq3 Value.bool i0)) rfl ?_);intro f h
     refine aD ac 4 h rfl λf h=>cj h rfl (aF h (ei (hR.keep s.ext) (k) aB3 wN (h.ev rfl) (h.ev rfl) (rfl) (by omega)) rfl λf h=>cj h rfl (aH 0 h s j5 rfl rfl (cP _) rfl λf h=>cj h rfl (aF h (cM az7 rfl (h.ev rfl)) rfl λf h=>cj h rfl (lX h pF (Ca _) rfl (λw9 hE9=>lY (l.getD k ij).1 w9) rfl ?_))));intro f h
     refine cj h rfl (bR h Lc (λw9 hE9=>AK (l.take k) (gG vh k) (l.getD k ij).1 w9 (EN (hR.keep (s.ext.trans hE9)) k (by omega)) (by rw [au0];omega)) rfl rfl λf h=>cj h rfl (ql ac h rfl ((Ri hkl).trans (by rw [q0];rfl)) λf h=>aD ac 1 h rfl λf h=>bF s λw1 s=>iz h rfl (bD ac 1 h rfl λf h=>au3 (aY (aQ (aQ (aY (aQ (aA rfl h s rfl (by show _=_;rw [RZ hkl (QY i0 q0)]))))))))))
    ·refine cK 14 h (by kernel_rfl) (aH 0 h s j5 rfl rfl (cP _) rfl λf h=>aF h (cM az7 rfl (h.ev rfl)) rfl λf h=>mg h CE (BU _) rfl (λw9 hE9=>bK (.bool true) (xe (l.getD k ij) w9) (aq3 Value.bool i0)) rfl ?_);intro f h
     refine aD ac 4 h rfl λf h=>cj h rfl (aF h (ei (hR.keep s.ext) (k) aB3 wN (h.ev rfl) (h.ev rfl) (rfl) (by omega)) rfl λf h=>cj h rfl (aH 0 h s j5 rfl rfl (cP _) rfl λf h=>cj h rfl (aF h (cM az7 rfl (h.ev rfl)) rfl λf h=>cj h rfl (lX h pF (Ca _) rfl (λw9 hE9=>lY (l.getD k ij).1 w9) rfl ?_))));intro f h
     refine cj h rfl (bR h Lc (λw9 hE9=>AK (l.take k) (gG vh k) (l.getD k ij).1 w9 (EN (hR.keep (s.ext.trans hE9)) k (by omega)) (by rw [au0];omega)) rfl rfl λf h=>cj h rfl (sT ac h rfl ((Ri hkl).trans (by rw [q0];rfl)) λf h=>aD ac 1 h rfl λf h=>bF s λw1 s=>tS h rfl (wpIn_skip (aW (aG (aC (ak h (bB (h.ev rfl) (h.ev rfl) (by omega)) rfl λf h=>e9 ac 1 h rfl λf h=>?_)))))))
     exact ⟨_,by omega,⟨k+1,h.only ⟨rfl,rfl,aw rfl (by omega),rfl,trivial⟩,St.as (s.pick _ (ar8 [_] _)) trivial,rfl,by omega,gM hp1 (QY i0 q0)⟩⟩
  ·refine au5 (aT (aT (bS (aG (bD ac 1 h rfl λf h=>au3 (aA rfl h s rfl (by show _=_;rw [VO h8 (λj hj=>hp1 j (by omega))])))))))
theorem Gz (sx:ByteArray) (w:World):Calls Tryz.prog 197 [.string sx].toArray w (bW w (is (.bool (uS sx)))):=by
 refine bG Tryz.func197 rfl Tryz.ntmps197 rfl λf h s=>bD ac 1 h rfl λf h=>cw ac 1 h rfl λf h=>ak h (kv aA0 (h.ev rfl)) rfl λf h=>ol ac (.bool (uS sx)) h rfl (aq3 Value.bool (ar3.2 (by omega))) rfl λf h=>e9 ac 1 h rfl λf h=>au3 (aA rfl h s rfl (rfl))
theorem HI (l:List ByteArray) (vh:Value) (w:World) (hR:a7 w vh 1 l.length (uN l)) (hln:l.length<=1000):Calls Tryz.prog 241 [vh,.func (.func 197) #[] #[]].toArray w (bW w (λv _=>∃ r:Int,v=.int .i64 r/\((r = -1/\∀ x∈l,uS x=false)∨∃ k:Nat,k<l.length/\r=(k:Int)/\uS (l.getD k ByteArray.empty)=true))):=by
 refine bG Tryz.func241 rfl Tryz.ntmps241 rfl λf h s=>bD ac 1 h rfl λf h=>ag (cw ac 1 h rfl λf h=>cb h (hR.keep s.ext) aA9 rfl rfl λf h=>e9 ac 1 h rfl λf h=>au4 (au6 (λnn aa ww=>∃ k:Nat,Sl 19 aa [(0,vh),(1,.func (.func 197) #[] #[]),(6,vh),(7,.int .i64 (l.length:Int)),(8,.int .i64 (k:Int))]/\St w [] ww/\nn=l.length - k/\k<=l.length/\∀ i,i<k->uS (l.getD i ByteArray.empty)=false) (l.length - (0)) ⟨0,h.only ⟨rfl,rfl,rfl,rfl,aw rfl (by omega),trivial⟩,s.as trivial,rfl,as3 _,λi hi=>ax7 hi (av6 _)⟩ ?_))
 rintro _ f w1 ⟨k,h,s,hnn,hp0,hp1⟩
 refine bD ac 1 h rfl λf h=>ag (cZ h rfl (λhc=>?_) (λhc=>?_))
 ·refine kt (ag (au4 (bD ac 2 h rfl λf h=>qr ?_)))
  have hkl:k<l.length:=by omega
  refine ap ac 3 h rfl λf h=>ak h (bj (hR.keep s.ext) (k) aA9 ah4 (h.ev rfl) (h.ev rfl) (by omega) (by omega)) rfl λf h=>ai ((hR.keep s.ext).el1 (k) (V:=.string (l.getD k ByteArray.empty)) (SK hkl)) h Nr rfl rfl λf h=>gQ [.string (l.getD k ByteArray.empty)] (caps:=[]) h s Sj rfl (Gz _ _) rfl rfl ?_;intro f w1 v16 hT hE h s;obtain rfl:=hT
  refine nt (cT h rfl (λhc=>?_) (λhc=>?_))
  ·have hc:uS (l.getD k ByteArray.empty)=true:=hc
   refine bD ac 2 h rfl λf h=>au3 (aY (aQ (aQ (aY (aQ (aA rfl h s rfl (⟨_,rfl,.inr ⟨k,hkl,rfl,hc⟩⟩)))))))
  ·have hc:uS (l.getD k ByteArray.empty)=false:=hc
   refine wpIn_skip (aW (aG (aC (ak h (bB (h.ev rfl) (h.ev rfl) (by omega)) rfl λf h=>e9 ac 1 h rfl λf h=>?_))))
   exact ⟨_,by omega,⟨k+1,h.only ⟨rfl,rfl,rfl,rfl,aw rfl (by omega),trivial⟩,St.as s trivial,rfl,by omega,eM (q:=λj=>uS (l.getD j ByteArray.empty)) hp1 hc⟩⟩
 ·refine au5 (aT (aT (bS (aG (bD ac 1 h rfl λf h=>au3 (aA rfl h s rfl (⟨_,rfl,.inl ⟨rfl,λx hx=>(by obtain ⟨i,hi,rfl⟩:=List.mem_iff_getElem.1 hx;rw [WK hi];exact hp1 i (by omega))⟩⟩)))))))
theorem LT (l:List ByteArray) (vh:Value) (w:World) (hR:a7 w vh 1 l.length (uN l)) (hln:l.length<=1000):Calls Tryz.prog 202 [vh,.func (.func 197) #[] #[]].toArray w (bW w (is (.bool (l.any uS)))):=by
 refine bG Tryz.func202 rfl Tryz.ntmps202 rfl λf h s=>bD ac 1 h rfl λf h=>cw ac 2 h rfl λf h=>bg h s S0 (HI l vh _ (hR.keep s.ext) hln) rfl rfl ?_;rintro f w1 v9 ⟨r9,rfl,hr⟩ hE h s
 refine ol ac (.bool (l.any uS)) h rfl (aq3 Value.bool (TM hr)) rfl λf h=>e9 ac 1 h rfl λf h=>au3 (aA rfl h s rfl (rfl))
theorem OJ (ho:Ho) (vw vh vi:Value)  (w:World) (hHo:EV w vw vh vi ho) (hB9:ho.ws.length<=1000/\ho.hs.length<=1000/\ho.bx.length<=1000):Calls Tryz.prog 126 [.agg (cB ho.no ho.gt vw vh vi)].toArray w (bW w (is (.bool (cp ho)))):=by
 obtain ⟨hw9,hh9,hi9⟩:=hB9
 refine bG Tryz.func126 rfl Tryz.ntmps126 rfl λf h s=>qr (ba (cB ho.no ho.gt vw vh vi) h s rfl rfl rfl λf w1 b1 h s=>e9 ac 1 h rfl λf h=>bD ac 1 h rfl λf h=>ag ?_)
 refine rs ac 1 h rfl λf h=>ai (V:=.int .i64 ho.no) (ah (aX.of_own s 0 rfl) 0 (TX _ _ _ _ _)) h bQ rfl rfl λf h=>fx h s UI (KP ho.no _) rfl rfl (λb0 f w1 h s=>?_) (λb0 f w1 h s=>?_)
 ·refine e9 ac 29 h rfl λf h=>au3 (aA rfl h s rfl (by show _=_;rw [XE b0]))
 ·skip
  refine ap ac 2 h rfl λf h=>cg h rfl (ai (V:=.int .i64 ho.gt) (ah (aX.of_own s 0 rfl) 1 (Wk _ _ _ _ _)) h bQ rfl rfl λf h=>cg h rfl (fx h s HZ (Aw ho.gt _) rfl rfl (λb1 f w1 h s=>?_) (λb1 f w1 h s=>?_)))
  ·refine e9 ac 25 h rfl λf h=>au3 (aA rfl h s rfl (by show _=_;rw [Xy b0 b1]))
  ·skip
   refine ap ac 3 h rfl λf h=>cg h rfl (ai (V:=vw) (ah (aX.of_own s 0 rfl) 2 (N9 _ _ _ _ _)) h BN rfl rfl λf h=>cg h rfl (fx h s S9 (Gb ho.ws vw _ (hHo.1.keep s.ext) hw9) rfl rfl (λb2 f w1 h s=>?_) (λb2 f w1 h s=>?_)))
   ·refine e9 ac 20 h rfl λf h=>au3 (aA rfl h s rfl (by show _=_;rw [XH b0 b1 b2]))
   ·skip
    refine ap ac 3 h rfl λf h=>cg h rfl (ai (V:=vh) (ah (aX.of_own s 0 rfl) 3 (Od _ _ _ _ _)) h Bo rfl rfl λf h=>cg h rfl (fx h s Tr (E5 ho.hs vh _ (hHo.2.1.keep s.ext) hh9) rfl rfl (λb3 f w1 h s=>?_) (λb3 f w1 h s=>?_)))
    ·refine e9 ac 15 h rfl λf h=>au3 (aA rfl h s rfl (by show _=_;rw [WB b0 b1 b2 b3]))
    ·skip
     refine ap ac 3 h rfl λf h=>cg h rfl (ai (V:=vi) (ah (aX.of_own s 0 rfl) 4 (OB _ _ _ _ _)) h uQ rfl rfl λf h=>cg h rfl (cb h (hHo.2.2.keep s.ext) aA9 rfl rfl λf h=>cg h rfl (nq ac (decide (ho.bx.length<=32)) h rfl ((ar3.2 (by omega))) (λb4 f h=>?_) (λb4 f h=>?_))))
     ·refine e9 ac 9 h rfl λf h=>au3 (aA rfl h s rfl (by show _=_;rw [R1 b0 b1 b2 b3 b4];rfl))
     ·refine ap ac 3 h rfl λf h=>cg h rfl (ai (V:=vi) (ah (aX.of_own s 0 rfl) 4 (OB _ _ _ _ _)) h uQ rfl rfl λf h=>ap ac 1 h rfl λf h=>cg h rfl (fP h s Uo (LT ho.bx vi _ (hHo.2.2.keep s.ext) hi9) rfl rfl λf w1 h s=>e9 ac 3 h rfl λf h=>au3 (aA rfl h s rfl (by show _=_;rw [R1 b0 b1 b2 b3 b4];rfl))))
theorem ui (ho:Ho) (vw vh vi:Value)  (w:World) (hHo:EV w vw vh vi ho) (hB9:B9 ho):Calls Tryz.prog 72 [.agg (cB ho.no ho.gt vw vh vi)].toArray w (bW w (is (.bool (cp ho)))):=by
 obtain ⟨hw9,hh9,hi9⟩:=hB9
 refine bG Tryz.func72 rfl Tryz.ntmps72 rfl λf h s=>qr (ba (cB ho.no ho.gt vw vh vi) h s rfl rfl rfl λf w1 b1 h s=>e9 ac 1 h rfl λf h=>qr (al 0 h s tH rfl rfl (ct _ _ _ _ _) rfl λf h=>bg h s Tb (GP ho vw vh vi _ (hHo.keep s.ext) ⟨hw9,hh9,hi9⟩) rfl rfl ?_));rintro f w1 v4 ⟨oa,ob,oc,rfl,hO⟩ hE h sq;replace s:=s.add hO;clear hO
 have ho1:=bJ (a7.of_own (s.getSl 0 rfl))
 have ho2:=bJ (a7.of_own (s.getSl 1 rfl))
 have ho3:=bJ (a7.of_own (s.getSl 2 rfl))
 obtain ⟨ko,s⟩:=UV s
 refine fP h s TB (OJ ho oa ob oc _ (s.getG 0 rfl) ⟨hw9,hh9,hi9⟩) rfl rfl λf w1 h s=>e9 ac 1 h rfl λf h=>au3 (aA rfl h s rfl (rfl))
end Go.Proofs.YthmlflaiidhoiaaGreatDoor
