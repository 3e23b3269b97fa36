/- Package host and what it stands on, so far as it is wanted: what each function answers. -/
import Derived.Test.YtkhepdpfdhdlaaaGreatDoorCon
set_option linter.unusedVariables false
set_option linter.unusedSimpArgs false
set_option linter.unusedSectionVars false
namespace Go.Proofs.YtkhepdpfdhdlaaaGreatDoor
open Go.RowKit
theorem OV (l:List ByteArray) (hln:l.length<=1000) (a9:Option Addr) (n9 c9:Nat) (w:World) (hR:br w (.slice a9 n9 c9) 1 l.length (tP l)):Calls Tryz.prog 56 [.slice a9 n9 c9].toArray w (cd w (λv w'=>cI w' w.heap.size 9 1 v l.length (tP l))):=by
 refine bN Tryz.func56 rfl Tryz.ntmps56 rfl λf h s=>bJ ac 1 h rfl λf h=>ah (ah ?_)
 cases hn:(a9.isNone:Bool)
 ·refine rs ac 1 h rfl λf h=>am h (a8 (.bool false) (cq aD0 (h.ev rfl) (h.ev rfl)) (ar8 Value.bool hn)) rfl λf h=>fL h rfl (qr (fo (base:=w.heap.size) h aD0 Xk (at6 _) rfl λf w2 v5 h hE3 e5=>al ac 1 h rfl λf h=>dQ (base:=w.heap.size) e5 (hR.keep hE3) h aD0 Xk rfl rfl hE3.le (K6 _) (by unfold maxLen;omega) (by omega) rfl λf w3 v7 h hE4 e7=>?_))
  replace s:=s.sl_new (hE3.trans hE4) e7
  refine e9 ac 1 h rfl λf h=>av8 (aA rfl h s rfl (s.getSl 0 rfl))
 ·refine rs ac 1 h rfl λf h=>am h (a8 (.bool true) (cq aD0 (h.ev rfl) (h.ev rfl)) (ar8 Value.bool hn)) rfl λf h=>gh h rfl (bJ ac 1 h rfl λf h=>rt (aA rfl h s rfl (by obtain rfl:=gQ hn hR;exact d6 _ _ _ _)))
theorem z6 (l:List ByteArray) (hln:l.length<=1000) (v9:Value) (w:World) (hR:br w v9 1 l.length (tP l)):Calls Tryz.prog 56 [v9].toArray w (cd w (λv w'=>cI w' w.heap.size 9 1 v l.length (tP l))):=by
 obtain ⟨a,c,rfl⟩:=hR.len
 exact OV l hln a _ c w hR
set_option maxHeartbeats 2000000 in
theorem uK (ho:Ho) (vw vh vi:Value)  (w:World) (hHo:ma w vw vh vi ho) (hB9:ho.ws.length<=1000/\ho.hs.length<=1000/\ho.bx.length<=1000):Calls Tryz.prog 68 [.agg (bE ho.no ho.gt vw vh vi)].toArray w (cd w (OwH w 197 199 9 ho)):=by
 obtain ⟨hw9,hh9,hi9⟩:=hB9
 refine bN Tryz.func68 rfl Tryz.ntmps68 rfl λf h s=>qr (aZ (bE ho.no ho.gt vw vh vi) h s rfl rfl rfl λf w1 b1 h s=>aO (bE 0 0 au au au) h s wg rfl rfl λf w1 b2 h s=>nt (ah (fH 0 9 [[],[0],[],[2],[],[4],[4,5],[0,1,2,3,4,5,6],[],[0,1,2,3,4,5,6,7,8]] [[],[],[],[],[],[],[],[],[],[]] [] [.v _,.v (.int .i64 ho.no),.v _,.v (.int .i64 ho.gt),.v _,.v vi,.r (λv=>[.sl (v 6) 9 1 ho.bx.length (tP ho.bx)]) (λv=>(v 6).oneCell'=true),.f (λv=>v 7=.agg (bE ho.no ho.gt au au (v 6))),.q (λv=>[.blk (sO (v 8)) (.cells (bE 0 0 au au au) 131)]),.n] _ h s rfl (by kernel_rfl) (by kernel_rfl) (by kernel_rfl) (fJ ac h rfl rfl rfl (bW ?_ (fJ ac h rfl rfl rfl (bW ?_ (fJ ac h rfl rfl rfl (bW ?_ (bW ?_ (bW ?_ (bW ?_ (trivial)))))))))) [0,1,2,3,4,5,6,7,8] (by kernel_rfl) ?_)))
 ·intro f9 w2 vl1 E9 hs9 hd9 hl hF s
  have h:=cb [(8,_)] h hs9 hd9 ⟨aS hl 8 0 (by kernel_rfl) (hF 0 (by decide)),trivial⟩
  refine ag (V:=.int .i64 ho.no) (ae (aF.of_own s 1 rfl) 0 (l9 _ _ _ _ _)) h bu rfl rfl λf h=>aw ⟨_,aV 9 h rfl rfl,rfl,s⟩
 ·intro f9 w2 vl1 E9 hs9 hd9 hl hF s
  have h:=cb [(10,_)] h hs9 hd9 ⟨aS hl 10 2 (by kernel_rfl) (hF 2 (by decide)),trivial⟩
  refine ag (V:=.int .i64 ho.gt) (ae (aF.of_own s 1 rfl) 1 (ni _ _ _ _ _)) h bu rfl rfl λf h=>aw ⟨_,aV 11 h rfl rfl,rfl,s⟩
 ·intro f9 w2 vl1 E9 hs9 hd9 hl hF s
  have h:=cb [(12,_)] h hs9 hd9 ⟨aS hl 12 4 (by kernel_rfl) (hF 4 (by decide)),trivial⟩
  refine ag (V:=vi) (ae (aF.of_own s 1 rfl) 4 (pm _ _ _ _ _)) h iQ rfl rfl λf h=>aw ⟨_,aV 13 h rfl rfl,rfl,s⟩
 ·intro f9 w2 vl1 E9 hs9 hd9 hl hF s
  have h:=cb [(13,_)] h hs9 hd9 ⟨aS hl 13 5 (by kernel_rfl) (hF 5 (by decide)),trivial⟩
  refine bB h s Rc (z6 ho.bx hi9 vi _ (hHo.2.2.keep s.ext)) rfl rfl ?_;intro f w3 v14 hT hE h sq;replace s:=s.sl_new hE hT
  exact aw ⟨_,aV 14 h rfl rfl,aT (s.getSl 0 rfl),s⟩
 ·intro f9 w2 vl1 E9 hs9 hd9 hl hF s
  have e9:f9.tmps.getD 9 undef=.int .i64 ho.no:=(dO hl 9 1 (by kernel_rfl) (by kernel_rfl)).trans (hF 1 (by decide))
  have e11:f9.tmps.getD 11 undef=.int .i64 ho.gt:=(dO hl 11 3 (by kernel_rfl) (by kernel_rfl)).trans (hF 3 (by decide))
  have e14:f9.tmps.getD 14 undef=(vl1 6):=dO hl 14 6 (by kernel_rfl) (by kernel_rfl)
  have h:=dy [(9,.int .i64 ho.no),(11,.int .i64 ho.gt),(14,(vl1 6))] (hs9.trans h.size) (hd9.trans h.defers) (holds_lk ⟨e9,e11,e14,trivial⟩)
  refine am h (xF W8 (y9 (hF 6 (by decide))).1 (y9 (hF 6 (by decide))).2 (h.ev rfl) (h.ev rfl) (h.ev rfl)) rfl λf h=>aw ⟨_,aV 15 h rfl rfl,rfl,s⟩
 ·intro f9 w2 vl1 E9 hs9 hd9 hl hF s
  have h:=dy [] (hs9.trans h.size) (hd9.trans h.defers) (holds_lk trivial)
  refine aO (bE 0 0 au au au) h s wg rfl rfl λf w1 b3 h s=>aw ⟨_,aV 3 h rfl rfl,⟨_,rfl⟩,s⟩
 intro f w1 vl1 hs9 hd9 hv hr hF s
 replace hv:=λi d h9=>hv i d (show Nat.blt i 9=true from h9)
 obtain ⟨b3,hb3⟩:∃ b,vl1 8=.pointer (some ⟨b,0,none⟩):=hF 8 (by kernel_rfl)
 replace h:=eI 9 (ops:=_) [(8,_),(9,_),(10,_),(11,_),(12,_),(13,_),(14,(vl1 6)),(15,.agg (bE ho.no ho.gt au au (vl1 6))),(3,.pointer (some ⟨b3,0,none⟩))] h hs9 hd9 hr ⟨(hv 0 8 rfl rfl).trans (hF 0 rfl),(hv 1 9 rfl rfl).trans (hF 1 rfl),(hv 2 10 rfl rfl).trans (hF 2 rfl),(hv 3 11 rfl rfl).trans (hF 3 rfl),(hv 4 12 rfl rfl).trans (hF 4 rfl),(hv 5 13 rfl rfl).trans (hF 5 rfl),hv 6 14 rfl rfl,(hv 7 15 rfl rfl).trans (hF 7 rfl),(hv 8 3 rfl rfl).trans hb3,trivial⟩ (by kernel_rfl)
 replace s:St w [.sl (vl1 6) 9 1 ho.bx.length (tP ho.bx),.blk (sO (vl1 8)) (.cells (bE 0 0 au au au) 131),.blk b2 (.cells (bE 0 0 au au au) 131),.blk b1 (.cells (bE ho.no ho.gt vw vh vi) 66)] _:=s
 rw [hb3] at s
 replace s:St w [.sl (vl1 6) 9 1 ho.bx.length (tP ho.bx),.blk b3 (.cells (bE 0 0 au au au) 131),.blk b2 (.cells (bE 0 0 au au au) 131),.blk b1 (.cells (bE ho.no ho.gt vw vh vi) 66)] _:=s
 refine aj 1 h s nl rfl rfl rfl (bq _ _ _ _ _) (bq _ _ _ _ _) (eW _ _ (rfl) (rfl) (hF 6 (by kernel_rfl))) λw1 s=>nt (ah (cw ac 1 h rfl λf h=>?_))
 replace s:=s.nilSl 197 33
 refine ag (V:=vw) (ae (aF.of_own s 4 rfl) 2 (kY _ _ _ _ _)) h ii rfl rfl λf h=>bT h (hHo.1.keep s.ext) aC8 rfl rfl λf h=>e9 ac 1 h rfl λf h=>av9 (aw1 (λnn aa ww=>∃ k:Nat,∃ va:Value,Sl 57 aa [(0,.agg (bE ho.no ho.gt vw vh vi)),(1,.pointer (some ⟨b1,0,none⟩)),(2,.pointer (some ⟨b2,0,none⟩)),(3,.pointer (some ⟨b3,0,none⟩)),(14,(vl1 6)),(17,vw),(18,.int .i64 (ho.ws.length:Int)),(19,.int .i64 (k:Int))]/\St w [.sl va 197 33 (ho.ws.take k).length (cX (ho.ws.take k)),.sl (vl1 6) 9 1 ho.bx.length (tP ho.bx),.blk b3 (.cells (bE ho.no ho.gt va au (vl1 6)) 131),.blk b2 (.cells (bE 0 0 au au au) 131),.blk b1 (.cells (bE ho.no ho.gt vw vh vi) 66)] ww/\nn=ho.ws.length - k/\k<=ho.ws.length) (ho.ws.length - (0)) ⟨0,au,h.only ⟨rfl,rfl,rfl,rfl,rfl,rfl,rfl,aD rfl (by omega),trivial⟩,s.as ⟨rfl,rfl,rfl,rfl,rfl,trivial⟩,rfl,at8 _⟩ ?_)
 rintro _ f w1 ⟨k,va,h,s,hnn,hp0⟩
 refine bJ ac 1 h rfl λf h=>ah (dA h rfl (λhc=>?_) (λhc=>?_))
 ·refine kt (ah (av9 (qr ?_)))
  have hkl:k<ho.ws.length:=by omega
  refine am h (bg (hHo.1.keep s.ext) (k) aC8 qS (h.ev rfl) (h.ev rfl) (by omega) (by omega)) rfl λf h=>az ((hHo.1.keep s.ext).el (k) (by omega) (by decide) (D:=dc (ho.ws.getD k gm)) (qR _ k hkl)) h oZ rfl (cA _) rfl λf h=>aO (dc gm) h s Ps rfl rfl λf w1 b5 h s=>aj 0 h s oZ rfl rfl rfl (cA _) (cA _) (mA _) λw1 s=>nt (rs ac 1 h rfl λf h=>ag (V:=va) (ae (aF.of_own s 3 rfl) 2 (kY _ _ _ _ _)) h CN rfl rfl λf h=>al ac 1 h rfl λf h=>az (aF.subL (aF.of_own s 0 rfl) 0 32 (D:=aI (ho.ws.getD k gm).1) (yK _)) h ca rfl (by first|exact aC _|exact aB _ _) rfl λf h=>am h (pO QX (h.ev rfl)) rfl λf h=>al ac 1 h rfl λf h=>ag (V:=.int .i64 (ho.ws.getD k gm).2) (ae (aF.of_own s 0 rfl) 32 (m9 _)) h bu rfl rfl λf h=>am h (zq YS (h.ev rfl) (h.ev rfl)) rfl λf h=>cU (vs:=[.agg (dc (ho.ws.getD k gm))]) [.tmp 30] h s aD3 Jc rfl rfl (XD _) rfl rfl rfl λf w1 v31 h s=>ez 2 0 h s aD3 Jc rfl rfl rfl rfl (by decide) (by rw [Hf];exact mA _) (by have h9:(ho.ws.take k).length<=k:=(by rw [av5];omega);unfold maxLen;omega) (by have h9:(ho.ws.take k).length<=k:=(by rw [av5];omega);omega) rfl λf w1 v32 h s=>?_)
  replace s:=s.pick _ (at7 _ _)
  replace s:=s.resl (m:=(ho.ws.take (k+1)).length) (ys:=cX (ho.ws.take (k+1))) 1 rfl (by rw [DY hkl,as2];rfl) (by rw [DY hkl,Hf,OJ])
  refine al ac 1 h rfl λf h=>aJ 3 h s CN rfl rfl rfl (by rw [bq];omega) (aT (s.getSl 1 rfl)) λw1 s=>?_
  replace s:=s.recell (D:=bE ho.no ho.gt v32 au (vl1 6)) 3 rfl (rfl)
  refine aw (bo (aK (aG (am h (bY (h.ev rfl) (h.ev rfl) (by omega)) rfl λf h=>e9 ac 1 h rfl λf h=>?_))))
  exact ⟨_,by omega,⟨k+1,v32,h.only ⟨rfl,rfl,rfl,rfl,rfl,rfl,rfl,aD rfl (by omega),trivial⟩,St.as (s.pick _ (ar3 _ (ar2 _ (ar2 _ (ar2 _ (ar2 _ (ar2 _ (at5 _)))))))) ⟨rfl,rfl,rfl,rfl,rfl,trivial⟩,rfl,by omega⟩⟩
 ·refine aw0 (ba (ba (cj (aK (ah (cw ac 1 h rfl λf h=>?_))))))
  obtain rfl:k=ho.ws.length:=by omega
  rw [List.take_length] at s
  replace s:=s.nilSl 199 34
  refine ag (V:=vh) (ae (aF.of_own s 5 rfl) 3 (j4 _ _ _ _ _)) h iO rfl rfl λf h=>bT h (hHo.2.1.keep s.ext) aC9 rfl rfl λf h=>e9 ac 1 h rfl λf h=>av9 (aw1 (λnn aa ww=>∃ k:Nat,∃ vc:Value,Sl 57 aa [(0,.agg (bE ho.no ho.gt vw vh vi)),(1,.pointer (some ⟨b1,0,none⟩)),(2,.pointer (some ⟨b2,0,none⟩)),(3,.pointer (some ⟨b3,0,none⟩)),(14,(vl1 6)),(36,vh),(37,.int .i64 (ho.hs.length:Int)),(38,.int .i64 (k:Int))]/\St w [.sl vc 199 34 (ho.hs.take k).length (cV (ho.hs.take k)),.sl va 197 33 ho.ws.length (cX ho.ws),.sl (vl1 6) 9 1 ho.bx.length (tP ho.bx),.blk b3 (.cells (bE ho.no ho.gt va vc (vl1 6)) 131),.blk b2 (.cells (bE 0 0 au au au) 131),.blk b1 (.cells (bE ho.no ho.gt vw vh vi) 66)] ww/\nn=ho.hs.length - k/\k<=ho.hs.length) (ho.hs.length - (0)) ⟨0,au,h.only ⟨rfl,rfl,rfl,rfl,rfl,rfl,rfl,aD rfl (by omega),trivial⟩,s.as ⟨rfl,rfl,rfl,rfl,rfl,rfl,trivial⟩,rfl,at8 _⟩ ?_)
  rintro _ f w1 ⟨k,vc,h,s,hnn,hp0⟩
  refine bJ ac 1 h rfl λf h=>ah (dA h rfl (λhc=>?_) (λhc=>?_))
  ·refine kt (ah (av9 (qr ?_)))
   have hkl:k<ho.hs.length:=by omega
   refine am h (bg (hHo.2.1.keep s.ext) (k) aC9 sG (h.ev rfl) (h.ev rfl) (by omega) (by omega)) rfl λf h=>az ((hHo.2.1.keep s.ext).el (k) (by omega) (by decide) (D:=cW (ho.hs.getD k eO)) (om _ k hkl)) h oN rfl (cy _) rfl λf h=>aO (cW eO) h s Px rfl rfl λf w1 b7 h s=>aj 0 h s oN rfl rfl rfl (cy _) (cy _) (m5 _) λw1 s=>nt (rs ac 1 h rfl λf h=>ag (V:=vc) (ae (aF.of_own s 4 rfl) 3 (j4 _ _ _ _ _)) h my rfl rfl λf h=>al ac 1 h rfl λf h=>az (aF.subL (aF.of_own s 0 rfl) 0 32 (D:=aI (ho.hs.getD k eO).1) (zv _)) h ca rfl (by first|exact aC _|exact aB _ _) rfl λf h=>am h (pO QX (h.ev rfl)) rfl λf h=>al ac 1 h rfl λf h=>ag (V:=.int .i64 (ho.hs.getD k eO).2.1) (ae (aF.of_own s 0 rfl) 32 (rz _)) h bu rfl rfl λf h=>al ac 1 h rfl λf h=>ag (V:=.int .i64 (ho.hs.getD k eO).2.2) (ae (aF.of_own s 0 rfl) 33 (lx _)) h bu rfl rfl λf h=>am h (AS XT (h.ev rfl) (h.ev rfl) (h.ev rfl)) rfl λf h=>cU (vs:=[.agg (cW (ho.hs.getD k eO))]) [.tmp 51] h s aD4 Jl rfl rfl (X9 _) rfl rfl rfl λf w1 v52 h s=>ez 2 0 h s aD4 Jl rfl rfl rfl rfl (by decide) (by rw [G6];exact m5 _) (by have h9:(ho.hs.take k).length<=k:=(by rw [av5];omega);unfold maxLen;omega) (by have h9:(ho.hs.take k).length<=k:=(by rw [av5];omega);omega) rfl λf w1 v53 h s=>?_)
   replace s:=s.pick _ (at7 _ _)
   replace s:=s.resl (m:=(ho.hs.take (k+1)).length) (ys:=cV (ho.hs.take (k+1))) 1 rfl (by rw [C0 hkl,as2];rfl) (by rw [C0 hkl,G6,Oz])
   refine al ac 1 h rfl λf h=>aJ 4 h s my rfl rfl rfl (by rw [bq];omega) (aT (s.getSl 1 rfl)) λw1 s=>?_
   replace s:=s.recell (D:=bE ho.no ho.gt va v53 (vl1 6)) 4 rfl (rfl)
   refine aw (bo (aK (aG (am h (bY (h.ev rfl) (h.ev rfl) (by omega)) rfl λf h=>e9 ac 1 h rfl λf h=>?_))))
   exact ⟨_,by omega,⟨k+1,v53,h.only ⟨rfl,rfl,rfl,rfl,rfl,rfl,rfl,aD rfl (by omega),trivial⟩,St.as (s.pick _ (ar3 _ (ar2 _ (ar2 _ (ar2 _ (ar2 _ (ar2 _ (ar2 _ (at5 _))))))))) ⟨rfl,rfl,rfl,rfl,rfl,rfl,trivial⟩,rfl,by omega⟩⟩
  ·refine aw0 (ba (ba (cj (aK (qr (ak 3 h s nl rfl rfl (bq _ _ _ _ _) rfl λf h=>aj 4 h s nl rfl rfl rfl (bq _ _ _ _ _) (bq _ _ _ _ _) (eW _ _ (aT (s.getSl 1 rfl)) (aT (s.getSl 0 rfl)) (hF 6 (by kernel_rfl))) λw1 s=>nt (av8 (iP 4 rfl h s nl rfl rfl (bq _ _ _ _ _) (by obtain rfl:k=ho.hs.length:=(by omega);rw [List.take_length] at s;exact ⟨_,_,_,rfl,s.sel [1,0,2] rfl (by decide)⟩)))))))))
theorem JC (n:Int) (w:World):Calls Tryz.prog 118 [.int .i64 n].toArray w (cd w (is (.bool (gv n 0 15)))):=by
 refine bN Tryz.func118 rfl Tryz.ntmps118 rfl λf h s=>bJ ac 1 h rfl λf h=>ah ?_
 refine rs ac 1 h rfl λf h=>iV ac h rfl (λh0 f h=>?_) (λh0 f h=>?_)
 ·refine e9 ac 5 h rfl λf h=>av8 (aA rfl h s rfl (by show _=_;unfold gv;rw [h0]<;>rfl))
 ·refine al ac 2 h rfl λf h=>bF h rfl (lr ac (.bool (decide (n<=15))) h rfl (ar8 Value.bool (as8.2 (by omega))) rfl λf h=>e9 ac 2 h rfl λf h=>av8 (aA rfl h s rfl (by show _=_;unfold gv;rw [h0]<;>rfl)))
theorem zh (n:Int) (w:World):Calls Tryz.prog 119 [.int .i64 n].toArray w (cd w (is (.bool (gv n 0 15)))):=by
 refine bN Tryz.func119 rfl Tryz.ntmps119 rfl λf h s=>bJ ac 1 h rfl λf h=>ah ?_
 refine rs ac 1 h rfl λf h=>iV ac h rfl (λh0 f h=>?_) (λh0 f h=>?_)
 ·refine e9 ac 5 h rfl λf h=>av8 (aA rfl h s rfl (by show _=_;unfold gv;rw [h0]<;>rfl))
 ·refine al ac 2 h rfl λf h=>bF h rfl (lr ac (.bool (decide (n<=15))) h rfl (ar8 Value.bool (as8.2 (by omega))) rfl λf h=>e9 ac 2 h rfl λf h=>av8 (aA rfl h s rfl (by show _=_;unfold gv;rw [h0]<;>rfl)))
theorem Bi (v:Value):ZC Tryz.prog 197 v "posthouse/host.right" 149:=λw=>by kernel_rfl
theorem BJ (x:Wn):MF Tryz.prog 197 (.agg (dc x)) "posthouse/host.id" 154 (.agg (aI x.1)):=λw=>by
 rw [← yK x];generalize dc x=C;kernel_rfl
theorem Cp (v:Value):ZC Tryz.prog 199 v "posthouse/host.right" 411:=λw=>by kernel_rfl
theorem Cz (x:Hn):MF Tryz.prog 199 (.agg (cW x)) "posthouse/host.id" 154 (.agg (aI x.1)):=λw=>by
 rw [← zv x];generalize cW x=C;kernel_rfl
theorem xy (y:Wn) (w:World):Calls Tryz.prog 149 [.agg (dc y)].toArray w (cd w (is (.bool (gv y.2 1 1048576)))):=by
 refine bN Tryz.func149 rfl Tryz.ntmps149 rfl λf h s=>qr (aZ (dc y) h s rfl rfl rfl λf w1 b1 h s=>e9 ac 1 h rfl λf h=>ah ?_)
 refine rs ac 1 h rfl λf h=>ag (V:=.int .i64 y.2) (ae (aF.of_own s 0 rfl) 32 (m9 _)) h bu rfl rfl λf h=>iV ac h rfl (λh0 f h=>?_) (λh0 f h=>?_)
 ·refine e9 ac 6 h rfl λf h=>av8 (aA rfl h s rfl (by show _=_;unfold gv;rw [h0]<;>rfl))
 ·refine al ac 2 h rfl λf h=>bF h rfl (ag (V:=.int .i64 y.2) (ae (aF.of_own s 0 rfl) 32 (m9 _)) h bu rfl rfl λf h=>e9 ac 3 h rfl λf h=>av8 (aA rfl h s rfl (by show _=_;unfold gv;rw [h0]<;>rfl)))
theorem lP (x:Id) (w:World):Calls Tryz.prog 154 [kF x].toArray w (cd w (is (kF x))):=by
 refine bN Tryz.func154 rfl Tryz.ntmps154 rfl λf h s=>qr (aZ (aI x) h s rfl rfl rfl λf w1 b1 h s=>aO (aI 0#256) h s xG rfl rfl λf w1 b2 h s=>nt (cw ac 1 h rfl λf h=>az (aF.subL (aF.of_own s 1 rfl) 0 32 (D:=aI x) (A2 x)) h ca rfl (by first|exact aC _|exact aB _ _) rfl λf h=>aj 0 h s ca rfl rfl rfl (by first|exact aC _|exact aB _ _) (by first|exact aC _|exact aB _ _) (by first|exact mz _|exact ef _ _) λw1 s=>nt (av8 (iP 0 rfl h s ca rfl rfl (by first|exact aC _|exact aB _ _) (rfl)))))
theorem Lw (l:List Wn) (vh:Value) (g9:Nat) (caps:List Value) (p:Wn->Bool) (w:World) (hR:br w vh 33 l.length (cX l)) (hln:l.length<=1000) (hg:Fnc Tryz.prog g9) (hp:∀ w9,Ext w w9->∀ x∈l,Calls Tryz.prog g9 (.agg (dc x)::caps).toArray w9 (cd w9 (is (.bool (p x))))):Calls Tryz.prog 217 [vh,.func (.func g9) #[] caps.toArray].toArray w (cd w (λv _=>∃ r:Int,v=.int .i64 r/\((r = -1/\∀ x∈l,p x=false)∨∃ k:Nat,k<l.length/\r=(k:Int)/\p (l.getD k gm)=true/\∀ i,i<k->p (l.getD i gm)=false))):=by
 refine bN Tryz.func217 rfl Tryz.ntmps217 rfl λf h s=>bJ ac 1 h rfl λf h=>ah (cw ac 1 h rfl λf h=>bT h (hR.keep s.ext) aD3 rfl rfl λf h=>e9 ac 1 h rfl λf h=>av9 (aw1 (λnn aa ww=>∃ k:Nat,Sl 19 aa [(0,vh),(1,.func (.func g9) #[] caps.toArray),(6,vh),(7,.int .i64 (l.length:Int)),(8,.int .i64 (k:Int))]/\St w [] ww/\nn=l.length - k/\k<=l.length/\∀ i,i<k->p (l.getD i gm)=false) (l.length - (0)) ⟨0,h.only ⟨rfl,rfl,rfl,rfl,aD rfl (by omega),trivial⟩,s.as trivial,rfl,at8 _,λi hi=>az2 hi (ax1 _)⟩ ?_))
 rintro _ f w1 ⟨k,h,s,hnn,hp0,hp1⟩
 refine bJ ac 1 h rfl λf h=>ah (dA h rfl (λhc=>?_) (λhc=>?_))
 ·refine kt (ah (av9 (bJ ac 2 h rfl λf h=>qr ?_)))
  have hkl:k<l.length:=by omega
  refine al ac 3 h rfl λf h=>am h (bg (hR.keep s.ext) (k) aD3 wH (h.ev rfl) (h.ev rfl) (by omega) (by omega)) rfl λf h=>az ((hR.keep s.ext).el (k) (by omega) (by decide) (D:=dc (l.getD k gm)) (qR l k hkl)) h jO rfl (cA _) rfl λf h=>eS [.agg (dc (l.getD k gm))] (caps:=caps) h s hg rfl (hp _ s.ext _ (B1 hkl)) rfl rfl ?_;intro f w1 v9 hT hE h s;obtain rfl:=hT
  refine nt (cr h rfl (λhc=>?_) (λhc=>?_))
  ·refine bJ ac 2 h rfl λf h=>av8 (bh (aU (aU (bh (aU (aA rfl h s rfl (⟨_,rfl,.inr ⟨k,hkl,rfl,hc,hp1⟩⟩)))))))
  ·refine wpIn_skip (bo (aK (aG (am h (bY (h.ev rfl) (h.ev rfl) (by omega)) rfl λf h=>e9 ac 1 h rfl λf h=>?_))))
   exact ⟨_,by omega,⟨k+1,h.only ⟨rfl,rfl,rfl,rfl,aD rfl (by omega),trivial⟩,St.as s trivial,rfl,by omega,gY (q:=λj=>p (l.getD j gm)) hp1 hc⟩⟩
 ·refine aw0 (ba (ba (cj (aK (bJ ac 1 h rfl λf h=>av8 (aA rfl h s rfl (⟨_,rfl,.inl ⟨rfl,λx hx=>(by obtain ⟨i,hi,rfl⟩:=Rh hx;exact hp1 i (by omega))⟩⟩)))))))
theorem Kx (y:Wn) (x:Id) (bx:Nat) (w:World) (hb:iX w bx (aI x)):Calls Tryz.prog 218 [.agg (dc y),.pointer (some ⟨bx,0,none⟩)].toArray w (cd w (is (.bool (decide (y.1=x))))):=by
 refine bN Tryz.func218 rfl Tryz.ntmps218 rfl λf h s=>qr (aZ (dc y) h s rfl rfl rfl λf w1 b2 h s=>e9 ac 1 h rfl λf h=>ah (cQ 6 h (by kernel_rfl) (aX 0 h s jO rfl rfl (cA _) rfl λf h=>av h (dm aB3 rfl (h.ev rfl)) rfl λf h=>lN h oB (BJ _) rfl (λw9 hE9=>lP y.1 w9) rfl ?_)));intro f h
 refine aE (aF.subL (aF.of_tab (hb.keep s.ext)) 0 32 (D:=aI x) (A2 x)) h ca rfl (by first|exact aC _|exact aB _ _) rfl λf h=>av h (cZ fE (h.ev rfl) (h.ev rfl)) rfl λf h=>ar ac 1 h rfl λf h=>bK s λw1 s=>nt (av8 (aA rfl h s rfl (rfl)))
theorem Am (l:List Wn) (vh:Value) (x:Id) (w:World) (hR:br w vh 33 l.length (cX l)) (hln:l.length<=1000):Calls Tryz.prog 150 [vh,kF x].toArray w (cd w (is (.int .i64 (l7 (wk l) x)))):=by
 refine bN Tryz.func150 rfl Tryz.ntmps150 rfl λf h s=>qr (aZ (aI x) h s rfl rfl rfl λf w1 b3 h s=>e9 ac 1 h rfl λf h=>cw ac 1 h rfl λf h=>am h (dF [.pointer (some ⟨b3,0,none⟩)] (kQ h rfl)) rfl λf h=>bB h s RV (Lw l vh 218 [.pointer (some ⟨b3,0,none⟩)] (λy=>decide (y.1=x)) _ (hR.keep s.ext) hln Tc (λw9 h9 y _=>Kx y x b3 w9 ((iX.of_own s 0 rfl).keep h9))) rfl rfl ?_);rintro f w1 v9 ⟨r9,rfl,hr⟩ hE h s;obtain rfl:=VY hr
 refine e9 ac 1 h rfl λf h=>av8 (aA rfl h s rfl (rfl))
set_option maxHeartbeats 1000000 in
theorem Fo (l:List Wn) (vh:Value) (w:World) (hR:br w vh 33 l.length (cX l)) (hln:l.length<=1000):Calls Tryz.prog 120 [vh].toArray w (cd w (is (.bool (GR l)))):=by
 refine bN Tryz.func120 rfl Tryz.ntmps120 rfl λf h s=>bJ ac 1 h rfl λf h=>ah (cw ac 1 h rfl λf h=>bT h (hR.keep s.ext) aD3 rfl rfl λf h=>e9 ac 1 h rfl λf h=>cr h rfl (λhc=>?_) (λhc=>?_))
 ·have h8:8<l.length:=by have:=ar4 hc;omega
  refine bJ ac 1 h rfl λf h=>rt (aA rfl h s rfl (by show _=_;rw [Tq h8]))
 ·have h8:l.length<=8:=by have:=ar5 hc;omega
  refine kt (ah (cw ac 1 h rfl λf h=>bT h (hR.keep s.ext) aD3 rfl rfl λf h=>e9 ac 1 h rfl λf h=>av9 (aw1 (λnn aa ww=>∃ k:Nat,Sl 30 aa [(8,vh),(9,.int .i64 (l.length:Int)),(10,.int .i64 (k:Int)),(0,vh)]/\St w [] ww/\nn=l.length - k/\k<=l.length/\∀ j,j<k->Gt l j=true) (l.length - (0)) ⟨0,h.only ⟨rfl,rfl,aD rfl (by omega),rfl,trivial⟩,s.as trivial,rfl,at8 _,λj hj=>az2 hj (ax1 _)⟩ ?_)))
  rintro _ f w1 ⟨k,h,s,hnn,hp0,hp1⟩
  refine bJ ac 1 h rfl λf h=>ah (dA h rfl (λhc=>?_) (λhc=>?_))
  ·refine kt (ah (av9 (cw ac 1 h rfl λf h=>?_)))
   have hkl:k<l.length:=by omega
   refine am h (bg (hR.keep s.ext) (k) aD3 wH (h.ev rfl) (h.ev rfl) (by omega) (by omega)) rfl λf h=>az ((hR.keep s.ext).el (k) (by omega) (by decide) (D:=dc (l.getD k gm)) (qR l k hkl)) h jO rfl (cA _) rfl λf h=>aO (dc gm) h s MB rfl rfl λf w1 b4 h s=>al ac 1 h rfl λf h=>aj 0 h s jO rfl rfl rfl (cA _) (cA _) (mA _) λw1 s=>nt (ah ?_)
   cases i0:(gv (l.getD k gm).2 1 1048576:Bool)
   ·refine cQ 14 h (by kernel_rfl) (aX 0 h s jO rfl rfl (cA _) rfl λf h=>av h (dm aB3 rfl (h.ev rfl)) rfl λf h=>lO h CV (Bi _) rfl (λw9 hE9=>a6 (.bool false) (xy (l.getD k gm) w9) (ar8 Value.bool i0)) rfl ?_);intro f h
    refine ar ac 11 h rfl λf h=>bK s λw1 s=>gh h rfl (bJ ac 1 h rfl λf h=>av8 (bh (aU (aU (bh (aU (aA rfl h s rfl (by show _=_;rw [QI hkl (VR i0)]))))))))
   ·skip
    cases q0:(decide (l7 (wk l) (l.getD k gm).1=(k:Int)):Bool)
    ·refine cQ 14 h (by kernel_rfl) (aX 0 h s jO rfl rfl (cA _) rfl λf h=>av h (dm aB3 rfl (h.ev rfl)) rfl λf h=>lO h CV (Bi _) rfl (λw9 hE9=>a6 (.bool true) (xy (l.getD k gm) w9) (ar8 Value.bool i0)) rfl ?_);intro f h
     refine ar ac 4 h rfl λf h=>bD h rfl (av h (eY (hR.keep s.ext) (k) aD3 wH (h.ev rfl) (h.ev rfl) (rfl) (by omega)) rfl λf h=>bD h rfl (aX 0 h s jO rfl rfl (cA _) rfl λf h=>bD h rfl (av h (dm aB3 rfl (h.ev rfl)) rfl λf h=>bD h rfl (lN h oB (BJ _) rfl (λw9 hE9=>lP (l.getD k gm).1 w9) rfl ?_))));intro f h
     refine bD h rfl (bj h IM (λw9 hE9=>Am (l.take k) (jK vh k) (l.getD k gm).1 w9 (Di (hR.keep (s.ext.trans hE9)) k (by omega)) (by rw [av5];omega)) rfl rfl λf h=>bD h rfl (ot ac h rfl ((Rm hkl).trans (by rw [q0];rfl)) λf h=>ar ac 1 h rfl λf h=>bK s λw1 s=>gh h rfl (bJ ac 1 h rfl λf h=>av8 (bh (aU (aU (bh (aU (aA rfl h s rfl (by show _=_;rw [QI hkl (Qt i0 q0)]))))))))))
    ·refine cQ 14 h (by kernel_rfl) (aX 0 h s jO rfl rfl (cA _) rfl λf h=>av h (dm aB3 rfl (h.ev rfl)) rfl λf h=>lO h CV (Bi _) rfl (λw9 hE9=>a6 (.bool true) (xy (l.getD k gm) w9) (ar8 Value.bool i0)) rfl ?_);intro f h
     refine ar ac 4 h rfl λf h=>bD h rfl (av h (eY (hR.keep s.ext) (k) aD3 wH (h.ev rfl) (h.ev rfl) (rfl) (by omega)) rfl λf h=>bD h rfl (aX 0 h s jO rfl rfl (cA _) rfl λf h=>bD h rfl (av h (dm aB3 rfl (h.ev rfl)) rfl λf h=>bD h rfl (lN h oB (BJ _) rfl (λw9 hE9=>lP (l.getD k gm).1 w9) rfl ?_))));intro f h
     refine bD h rfl (bj h IM (λw9 hE9=>Am (l.take k) (jK vh k) (l.getD k gm).1 w9 (Di (hR.keep (s.ext.trans hE9)) k (by omega)) (by rw [av5];omega)) rfl rfl λf h=>bD h rfl (zC ac h rfl ((Rm hkl).trans (by rw [q0];rfl)) λf h=>ar ac 1 h rfl λf h=>bK s λw1 s=>oW h rfl (wpIn_skip (bo (aK (aG (am h (bY (h.ev rfl) (h.ev rfl) (by omega)) rfl λf h=>e9 ac 1 h rfl λf h=>?_)))))))
     exact ⟨_,by omega,⟨k+1,h.only ⟨rfl,rfl,aD rfl (by omega),rfl,trivial⟩,St.as (s.pick _ (at3 [_] _)) trivial,rfl,by omega,eu hp1 (Qt i0 q0)⟩⟩
  ·refine aw0 (ba (ba (cj (aK (bJ ac 1 h rfl λf h=>av8 (aA rfl h s rfl (by show _=_;rw [Vd h8 (λj hj=>hp1 j (by omega))])))))))
theorem uq (n:Int) (w:World):Calls Tryz.prog 153 [.int .i64 n].toArray w (cd w (is (.bool (gv n 0 1099511627776)))):=by
 refine bN Tryz.func153 rfl Tryz.ntmps153 rfl λf h s=>bJ ac 1 h rfl λf h=>ah ?_
 refine rs ac 1 h rfl λf h=>iV ac h rfl (λh0 f h=>?_) (λh0 f h=>?_)
 ·refine e9 ac 5 h rfl λf h=>av8 (aA rfl h s rfl (by show _=_;unfold gv;rw [h0]<;>rfl))
 ·refine e9 ac 5 h rfl λf h=>av8 (aA rfl h s rfl (by show _=_;unfold gv;rw [h0]<;>rfl))
theorem xC (y:Hn) (w:World):Calls Tryz.prog 411 [.agg (cW y)].toArray w (cd w (is (.bool (QH y)))):=by
 refine bN Tryz.func411 rfl Tryz.ntmps411 rfl λf h s=>qr (aZ (cW y) h s rfl rfl rfl λf w1 b1 h s=>e9 ac 1 h rfl λf h=>ah ?_)
 refine rs ac 1 h rfl λf h=>ag (V:=.int .i64 y.2.1) (ae (aF.of_own s 0 rfl) 32 (rz _)) h bu rfl rfl λf h=>eC h s LY (zh y.2.1 _) rfl rfl (λh0 f w1 h s=>?_) (λh0 f w1 h s=>?_)
 ·refine e9 ac 6 h rfl λf h=>av8 (aA rfl h s rfl (by show _=_;unfold QH;rw [h0]<;>rfl))
 ·refine al ac 2 h rfl λf h=>bF h rfl (ag (V:=.int .i64 y.2.2) (ae (aF.of_own s 0 rfl) 33 (lx _)) h bu rfl rfl λf h=>bF h rfl (dM h s LP (uq y.2.2 _) rfl rfl λf w1 h s=>e9 ac 2 h rfl λf h=>av8 (aA rfl h s rfl (by show _=_;unfold QH;rw [h0]<;>rfl))))
theorem Mh (l:List Hn) (vh:Value) (g9:Nat) (caps:List Value) (p:Hn->Bool) (w:World) (hR:br w vh 34 l.length (cV l)) (hln:l.length<=1000) (hg:Fnc Tryz.prog g9) (hp:∀ w9,Ext w w9->∀ x∈l,Calls Tryz.prog g9 (.agg (cW x)::caps).toArray w9 (cd w9 (is (.bool (p x))))):Calls Tryz.prog 236 [vh,.func (.func g9) #[] caps.toArray].toArray w (cd w (λv _=>∃ r:Int,v=.int .i64 r/\((r = -1/\∀ x∈l,p x=false)∨∃ k:Nat,k<l.length/\r=(k:Int)/\p (l.getD k eO)=true/\∀ i,i<k->p (l.getD i eO)=false))):=by
 refine bN Tryz.func236 rfl Tryz.ntmps236 rfl λf h s=>bJ ac 1 h rfl λf h=>ah (cw ac 1 h rfl λf h=>bT h (hR.keep s.ext) aD4 rfl rfl λf h=>e9 ac 1 h rfl λf h=>av9 (aw1 (λnn aa ww=>∃ k:Nat,Sl 19 aa [(0,vh),(1,.func (.func g9) #[] caps.toArray),(6,vh),(7,.int .i64 (l.length:Int)),(8,.int .i64 (k:Int))]/\St w [] ww/\nn=l.length - k/\k<=l.length/\∀ i,i<k->p (l.getD i eO)=false) (l.length - (0)) ⟨0,h.only ⟨rfl,rfl,rfl,rfl,aD rfl (by omega),trivial⟩,s.as trivial,rfl,at8 _,λi hi=>az2 hi (ax1 _)⟩ ?_))
 rintro _ f w1 ⟨k,h,s,hnn,hp0,hp1⟩
 refine bJ ac 1 h rfl λf h=>ah (dA h rfl (λhc=>?_) (λhc=>?_))
 ·refine kt (ah (av9 (bJ ac 2 h rfl λf h=>qr ?_)))
  have hkl:k<l.length:=by omega
  refine al ac 3 h rfl λf h=>am h (bg (hR.keep s.ext) (k) aD4 ng (h.ev rfl) (h.ev rfl) (by omega) (by omega)) rfl λf h=>az ((hR.keep s.ext).el (k) (by omega) (by decide) (D:=cW (l.getD k eO)) (om l k hkl)) h jQ rfl (cy _) rfl λf h=>eS [.agg (cW (l.getD k eO))] (caps:=caps) h s hg rfl (hp _ s.ext _ (xm hkl)) rfl rfl ?_;intro f w1 v9 hT hE h s;obtain rfl:=hT
  refine nt (cr h rfl (λhc=>?_) (λhc=>?_))
  ·refine bJ ac 2 h rfl λf h=>av8 (bh (aU (aU (bh (aU (aA rfl h s rfl (⟨_,rfl,.inr ⟨k,hkl,rfl,hc,hp1⟩⟩)))))))
  ·refine wpIn_skip (bo (aK (aG (am h (bY (h.ev rfl) (h.ev rfl) (by omega)) rfl λf h=>e9 ac 1 h rfl λf h=>?_))))
   exact ⟨_,by omega,⟨k+1,h.only ⟨rfl,rfl,rfl,rfl,aD rfl (by omega),trivial⟩,St.as s trivial,rfl,by omega,gY (q:=λj=>p (l.getD j eO)) hp1 hc⟩⟩
 ·refine aw0 (ba (ba (cj (aK (bJ ac 1 h rfl λf h=>av8 (aA rfl h s rfl (⟨_,rfl,.inl ⟨rfl,λx hx=>(by obtain ⟨i,hi,rfl⟩:=Qx hx;exact hp1 i (by omega))⟩⟩)))))))
theorem Ki (y:Hn) (x:Id) (bx:Nat) (w:World) (hb:iX w bx (aI x)):Calls Tryz.prog 237 [.agg (cW y),.pointer (some ⟨bx,0,none⟩)].toArray w (cd w (is (.bool (decide (y.1=x))))):=by
 refine bN Tryz.func237 rfl Tryz.ntmps237 rfl λf h s=>qr (aZ (cW y) h s rfl rfl rfl λf w1 b2 h s=>e9 ac 1 h rfl λf h=>ah (cQ 6 h (by kernel_rfl) (aX 0 h s jQ rfl rfl (cy _) rfl λf h=>av h (dm aB4 rfl (h.ev rfl)) rfl λf h=>lN h oB (Cz _) rfl (λw9 hE9=>lP y.1 w9) rfl ?_)));intro f h
 refine aE (aF.subL (aF.of_tab (hb.keep s.ext)) 0 32 (D:=aI x) (A2 x)) h ca rfl (by first|exact aC _|exact aB _ _) rfl λf h=>av h (cZ fE (h.ev rfl) (h.ev rfl)) rfl λf h=>ar ac 1 h rfl λf h=>bK s λw1 s=>nt (av8 (aA rfl h s rfl (rfl)))
theorem rD (l:List Hn) (vh:Value) (x:Id) (w:World) (hR:br w vh 34 l.length (cV l)) (hln:l.length<=1000):Calls Tryz.prog 192 [vh,kF x].toArray w (cd w (is (.int .i64 (l7 (hk l) x)))):=by
 refine bN Tryz.func192 rfl Tryz.ntmps192 rfl λf h s=>qr (aZ (aI x) h s rfl rfl rfl λf w1 b3 h s=>e9 ac 1 h rfl λf h=>cw ac 1 h rfl λf h=>am h (dF [.pointer (some ⟨b3,0,none⟩)] (kQ h rfl)) rfl λf h=>bB h s Um (Mh l vh 237 [.pointer (some ⟨b3,0,none⟩)] (λy=>decide (y.1=x)) _ (hR.keep s.ext) hln Sn (λw9 h9 y _=>Ki y x b3 w9 ((iX.of_own s 0 rfl).keep h9))) rfl rfl ?_);rintro f w1 v9 ⟨r9,rfl,hr⟩ hE h s;obtain rfl:=X3 hr
 refine e9 ac 1 h rfl λf h=>av8 (aA rfl h s rfl (rfl))
set_option maxHeartbeats 1000000 in
theorem Fx (l:List Hn) (vh:Value) (w:World) (hR:br w vh 34 l.length (cV l)) (hln:l.length<=1000):Calls Tryz.prog 121 [vh].toArray w (cd w (is (.bool (Ll l)))):=by
 refine bN Tryz.func121 rfl Tryz.ntmps121 rfl λf h s=>bJ ac 1 h rfl λf h=>ah (cw ac 1 h rfl λf h=>bT h (hR.keep s.ext) aD4 rfl rfl λf h=>e9 ac 1 h rfl λf h=>cr h rfl (λhc=>?_) (λhc=>?_))
 ·have h8:8<l.length:=by have:=ar4 hc;omega
  refine bJ ac 1 h rfl λf h=>rt (aA rfl h s rfl (by show _=_;rw [UD h8]))
 ·have h8:l.length<=8:=by have:=ar5 hc;omega
  refine kt (ah (cw ac 1 h rfl λf h=>bT h (hR.keep s.ext) aD4 rfl rfl λf h=>e9 ac 1 h rfl λf h=>av9 (aw1 (λnn aa ww=>∃ k:Nat,Sl 30 aa [(8,vh),(9,.int .i64 (l.length:Int)),(10,.int .i64 (k:Int)),(0,vh)]/\St w [] ww/\nn=l.length - k/\k<=l.length/\∀ j,j<k->mO l j=true) (l.length - (0)) ⟨0,h.only ⟨rfl,rfl,aD rfl (by omega),rfl,trivial⟩,s.as trivial,rfl,at8 _,λj hj=>az2 hj (ax1 _)⟩ ?_)))
  rintro _ f w1 ⟨k,h,s,hnn,hp0,hp1⟩
  refine bJ ac 1 h rfl λf h=>ah (dA h rfl (λhc=>?_) (λhc=>?_))
  ·refine kt (ah (av9 (cw ac 1 h rfl λf h=>?_)))
   have hkl:k<l.length:=by omega
   refine am h (bg (hR.keep s.ext) (k) aD4 ng (h.ev rfl) (h.ev rfl) (by omega) (by omega)) rfl λf h=>az ((hR.keep s.ext).el (k) (by omega) (by decide) (D:=cW (l.getD k eO)) (om l k hkl)) h jQ rfl (cy _) rfl λf h=>aO (cW eO) h s OQ rfl rfl λf w1 b4 h s=>al ac 1 h rfl λf h=>aj 0 h s jQ rfl rfl rfl (cy _) (cy _) (m5 _) λw1 s=>nt (ah ?_)
   cases i0:(QH (l.getD k eO):Bool)
   ·refine cQ 14 h (by kernel_rfl) (aX 0 h s jQ rfl rfl (cy _) rfl λf h=>av h (dm aB4 rfl (h.ev rfl)) rfl λf h=>lO h B3 (Cp _) rfl (λw9 hE9=>a6 (.bool false) (xC (l.getD k eO) w9) (ar8 Value.bool i0)) rfl ?_);intro f h
    refine ar ac 11 h rfl λf h=>bK s λw1 s=>gh h rfl (bJ ac 1 h rfl λf h=>av8 (bh (aU (aU (bh (aU (aA rfl h s rfl (by show _=_;rw [Q6 hkl (YG i0)]))))))))
   ·skip
    cases q0:(decide (l7 (hk l) (l.getD k eO).1=(k:Int)):Bool)
    ·refine cQ 14 h (by kernel_rfl) (aX 0 h s jQ rfl rfl (cy _) rfl λf h=>av h (dm aB4 rfl (h.ev rfl)) rfl λf h=>lO h B3 (Cp _) rfl (λw9 hE9=>a6 (.bool true) (xC (l.getD k eO) w9) (ar8 Value.bool i0)) rfl ?_);intro f h
     refine ar ac 4 h rfl λf h=>bD h rfl (av h (eY (hR.keep s.ext) (k) aD4 ng (h.ev rfl) (h.ev rfl) (rfl) (by omega)) rfl λf h=>bD h rfl (aX 0 h s jQ rfl rfl (cy _) rfl λf h=>bD h rfl (av h (dm aB4 rfl (h.ev rfl)) rfl λf h=>bD h rfl (lN h oB (Cz _) rfl (λw9 hE9=>lP (l.getD k eO).1 w9) rfl ?_))));intro f h
     refine bD h rfl (bj h CE (λw9 hE9=>rD (l.take k) (jK vh k) (l.getD k eO).1 w9 (Eo (hR.keep (s.ext.trans hE9)) k (by omega)) (by rw [av5];omega)) rfl rfl λf h=>bD h rfl (ot ac h rfl ((Q7 hkl).trans (by rw [q0];rfl)) λf h=>ar ac 1 h rfl λf h=>bK s λw1 s=>gh h rfl (bJ ac 1 h rfl λf h=>av8 (bh (aU (aU (bh (aU (aA rfl h s rfl (by show _=_;rw [Q6 hkl (Qk i0 q0)]))))))))))
    ·refine cQ 14 h (by kernel_rfl) (aX 0 h s jQ rfl rfl (cy _) rfl λf h=>av h (dm aB4 rfl (h.ev rfl)) rfl λf h=>lO h B3 (Cp _) rfl (λw9 hE9=>a6 (.bool true) (xC (l.getD k eO) w9) (ar8 Value.bool i0)) rfl ?_);intro f h
     refine ar ac 4 h rfl λf h=>bD h rfl (av h (eY (hR.keep s.ext) (k) aD4 ng (h.ev rfl) (h.ev rfl) (rfl) (by omega)) rfl λf h=>bD h rfl (aX 0 h s jQ rfl rfl (cy _) rfl λf h=>bD h rfl (av h (dm aB4 rfl (h.ev rfl)) rfl λf h=>bD h rfl (lN h oB (Cz _) rfl (λw9 hE9=>lP (l.getD k eO).1 w9) rfl ?_))));intro f h
     refine bD h rfl (bj h CE (λw9 hE9=>rD (l.take k) (jK vh k) (l.getD k eO).1 w9 (Eo (hR.keep (s.ext.trans hE9)) k (by omega)) (by rw [av5];omega)) rfl rfl λf h=>bD h rfl (zC ac h rfl ((Q7 hkl).trans (by rw [q0];rfl)) λf h=>ar ac 1 h rfl λf h=>bK s λw1 s=>oW h rfl (wpIn_skip (bo (aK (aG (am h (bY (h.ev rfl) (h.ev rfl) (by omega)) rfl λf h=>e9 ac 1 h rfl λf h=>?_)))))))
     exact ⟨_,by omega,⟨k+1,h.only ⟨rfl,rfl,aD rfl (by omega),rfl,trivial⟩,St.as (s.pick _ (at3 [_] _)) trivial,rfl,by omega,eu hp1 (Qk i0 q0)⟩⟩
  ·refine aw0 (ba (ba (cj (aK (bJ ac 1 h rfl λf h=>av8 (aA rfl h s rfl (by show _=_;rw [TL h8 (λj hj=>hp1 j (by omega))])))))))
theorem Gf (sx:ByteArray) (w:World):Calls Tryz.prog 117 [.string sx].toArray w (cd w (is (.bool (uQ sx)))):=by
 refine bN Tryz.func117 rfl Tryz.ntmps117 rfl λf h s=>bJ ac 1 h rfl λf h=>cw ac 1 h rfl λf h=>am h (dX aB9 (h.ev rfl)) rfl λf h=>lr ac (.bool (uQ sx)) h rfl (ar8 Value.bool (as8.2 (by omega))) rfl λf h=>e9 ac 1 h rfl λf h=>av8 (aA rfl h s rfl (rfl))
theorem LL (l:List ByteArray) (vh:Value) (w:World) (hR:br w vh 1 l.length (tP l)) (hln:l.length<=1000):Calls Tryz.prog 193 [vh,.func (.func 117) #[] #[]].toArray w (cd w (λv _=>∃ r:Int,v=.int .i64 r/\((r = -1/\∀ x∈l,uQ x=false)∨∃ k:Nat,k<l.length/\r=(k:Int)/\uQ (l.getD k ByteArray.empty)=true))):=by
 refine bN Tryz.func193 rfl Tryz.ntmps193 rfl λf h s=>bJ ac 1 h rfl λf h=>ah (cw ac 1 h rfl λf h=>bT h (hR.keep s.ext) aD0 rfl rfl λf h=>e9 ac 1 h rfl λf h=>av9 (aw1 (λnn aa ww=>∃ k:Nat,Sl 19 aa [(0,vh),(1,.func (.func 117) #[] #[]),(6,vh),(7,.int .i64 (l.length:Int)),(8,.int .i64 (k:Int))]/\St w [] ww/\nn=l.length - k/\k<=l.length/\∀ i,i<k->uQ (l.getD i ByteArray.empty)=false) (l.length - (0)) ⟨0,h.only ⟨rfl,rfl,rfl,rfl,aD rfl (by omega),trivial⟩,s.as trivial,rfl,at8 _,λi hi=>az2 hi (ax1 _)⟩ ?_))
 rintro _ f w1 ⟨k,h,s,hnn,hp0,hp1⟩
 refine bJ ac 1 h rfl λf h=>ah (dA h rfl (λhc=>?_) (λhc=>?_))
 ·refine kt (ah (av9 (bJ ac 2 h rfl λf h=>qr ?_)))
  have hkl:k<l.length:=by omega
  refine al ac 3 h rfl λf h=>am h (bg (hR.keep s.ext) (k) aD0 J7 (h.ev rfl) (h.ev rfl) (by omega) (by omega)) rfl λf h=>ag ((hR.keep s.ext).el1 (k) (V:=.string (l.getD k ByteArray.empty)) (sn hkl)) h gK rfl rfl λf h=>eS [.string (l.getD k ByteArray.empty)] (caps:=[]) h s U9 rfl (Gf _ _) rfl rfl ?_;intro f w1 v16 hT hE h s;obtain rfl:=hT
  refine nt (cr h rfl (λhc=>?_) (λhc=>?_))
  ·have hc:uQ (l.getD k ByteArray.empty)=true:=hc
   refine bJ ac 2 h rfl λf h=>av8 (bh (aU (aU (bh (aU (aA rfl h s rfl (⟨_,rfl,.inr ⟨k,hkl,rfl,hc⟩⟩)))))))
  ·have hc:uQ (l.getD k ByteArray.empty)=false:=hc
   refine wpIn_skip (bo (aK (aG (am h (bY (h.ev rfl) (h.ev rfl) (by omega)) rfl λf h=>e9 ac 1 h rfl λf h=>?_))))
   exact ⟨_,by omega,⟨k+1,h.only ⟨rfl,rfl,rfl,rfl,aD rfl (by omega),trivial⟩,St.as s trivial,rfl,by omega,gY (q:=λj=>uQ (l.getD j ByteArray.empty)) hp1 hc⟩⟩
 ·refine aw0 (ba (ba (cj (aK (bJ ac 1 h rfl λf h=>av8 (aA rfl h s rfl (⟨_,rfl,.inl ⟨rfl,λx hx=>(by obtain ⟨i,hi,rfl⟩:=List.mem_iff_getElem.1 hx;rw [Uy hi];exact hp1 i (by omega))⟩⟩)))))))
theorem LE (l:List ByteArray) (vh:Value) (w:World) (hR:br w vh 1 l.length (tP l)) (hln:l.length<=1000):Calls Tryz.prog 122 [vh,.func (.func 117) #[] #[]].toArray w (cd w (is (.bool (l.any uQ)))):=by
 refine bN Tryz.func122 rfl Tryz.ntmps122 rfl λf h s=>bJ ac 1 h rfl λf h=>cw ac 2 h rfl λf h=>bB h s Vf (LL l vh _ (hR.keep s.ext) hln) rfl rfl ?_;rintro f w1 v9 ⟨r9,rfl,hr⟩ hE h s
 refine lr ac (.bool (l.any uQ)) h rfl (ar8 Value.bool (R4 hr)) rfl λf h=>e9 ac 1 h rfl λf h=>av8 (aA rfl h s rfl (rfl))
theorem DJ (ho:Ho) (vw vh vi:Value)  (w:World) (hHo:ma w vw vh vi ho) (hB9:ho.ws.length<=1000/\ho.hs.length<=1000/\ho.bx.length<=1000):Calls Tryz.prog 69 [.agg (bE ho.no ho.gt vw vh vi)].toArray w (cd w (is (.bool (cS ho)))):=by
 obtain ⟨hw9,hh9,hi9⟩:=hB9
 refine bN Tryz.func69 rfl Tryz.ntmps69 rfl λf h s=>qr (aZ (bE ho.no ho.gt vw vh vi) h s rfl rfl rfl λf w1 b1 h s=>e9 ac 1 h rfl λf h=>bJ ac 1 h rfl λf h=>ah ?_)
 refine rs ac 1 h rfl λf h=>ag (V:=.int .i64 ho.no) (ae (aF.of_own s 0 rfl) 0 (l9 _ _ _ _ _)) h bu rfl rfl λf h=>eC h s TG (JC ho.no _) rfl rfl (λb0 f w1 h s=>?_) (λb0 f w1 h s=>?_)
 ·refine e9 ac 29 h rfl λf h=>av8 (aA rfl h s rfl (by show _=_;rw [YF b0]))
 ·skip
  refine al ac 2 h rfl λf h=>bF h rfl (ag (V:=.int .i64 ho.gt) (ae (aF.of_own s 0 rfl) 1 (ni _ _ _ _ _)) h bu rfl rfl λf h=>bF h rfl (eC h s LY (zh ho.gt _) rfl rfl (λb1 f w1 h s=>?_) (λb1 f w1 h s=>?_)))
  ·refine e9 ac 25 h rfl λf h=>av8 (aA rfl h s rfl (by show _=_;rw [Ws b0 b1]))
  ·skip
   refine al ac 3 h rfl λf h=>bF h rfl (ag (V:=vw) (ae (aF.of_own s 0 rfl) 2 (kY _ _ _ _ _)) h CN rfl rfl λf h=>bF h rfl (eC h s UA (Fo ho.ws vw _ (hHo.1.keep s.ext) hw9) rfl rfl (λb2 f w1 h s=>?_) (λb2 f w1 h s=>?_)))
   ·refine e9 ac 20 h rfl λf h=>av8 (aA rfl h s rfl (by show _=_;rw [Yp b0 b1 b2]))
   ·skip
    refine al ac 3 h rfl λf h=>bF h rfl (ag (V:=vh) (ae (aF.of_own s 0 rfl) 3 (j4 _ _ _ _ _)) h my rfl rfl λf h=>bF h rfl (eC h s TT (Fx ho.hs vh _ (hHo.2.1.keep s.ext) hh9) rfl rfl (λb3 f w1 h s=>?_) (λb3 f w1 h s=>?_)))
    ·refine e9 ac 15 h rfl λf h=>av8 (aA rfl h s rfl (by show _=_;rw [Yi b0 b1 b2 b3]))
    ·skip
     refine al ac 3 h rfl λf h=>bF h rfl (ag (V:=vi) (ae (aF.of_own s 0 rfl) 4 (pm _ _ _ _ _)) h iQ rfl rfl λf h=>bF h rfl (bT h (hHo.2.2.keep s.ext) aD0 rfl rfl λf h=>bF h rfl (kE ac (decide (ho.bx.length<=32)) h rfl ((as8.2 (by omega))) (λb4 f h=>?_) (λb4 f h=>?_))))
     ·refine e9 ac 9 h rfl λf h=>av8 (aA rfl h s rfl (by show _=_;rw [RJ b0 b1 b2 b3 b4];rfl))
     ·refine al ac 3 h rfl λf h=>bF h rfl (ag (V:=vi) (ae (aF.of_own s 0 rfl) 4 (pm _ _ _ _ _)) h iQ rfl rfl λf h=>al ac 1 h rfl λf h=>bF h rfl (dM h s UM (LE ho.bx vi _ (hHo.2.2.keep s.ext) hi9) rfl rfl λf w1 h s=>e9 ac 3 h rfl λf h=>av8 (aA rfl h s rfl (by show _=_;rw [RJ b0 b1 b2 b3 b4];rfl))))
theorem mT (ho:Ho) (vw vh vi:Value)  (w:World) (hHo:ma w vw vh vi ho) (hB9:B9 ho):Calls Tryz.prog 30 [.agg (bE ho.no ho.gt vw vh vi)].toArray w (cd w (is (.bool (cS ho)))):=by
 obtain ⟨hw9,hh9,hi9⟩:=hB9
 refine bN Tryz.func30 rfl Tryz.ntmps30 rfl λf h s=>qr (aZ (bE ho.no ho.gt vw vh vi) h s rfl rfl rfl λf w1 b1 h s=>e9 ac 1 h rfl λf h=>qr (ak 0 h s eM rfl rfl (bq _ _ _ _ _) rfl λf h=>bB h s Qn (uK ho vw vh vi _ (hHo.keep s.ext) ⟨hw9,hh9,hi9⟩) rfl rfl ?_));rintro f w1 v4 ⟨oa,ob,oc,rfl,hO⟩ hE h sq;replace s:=s.add hO;clear hO
 have ho1:=bR (br.of_own (s.getSl 0 rfl))
 have ho2:=bR (br.of_own (s.getSl 1 rfl))
 have ho3:=bR (br.of_own (s.getSl 2 rfl))
 obtain ⟨ko,s⟩:=Km s
 refine dM h s QT (DJ ho oa ob oc _ (s.getG 0 rfl) ⟨hw9,hh9,hi9⟩) rfl rfl λf w1 h s=>e9 ac 1 h rfl λf h=>av8 (aA rfl h s rfl (rfl))
theorem Ha (n g:Int) (w:World):Calls Tryz.prog 85 [.int .i64 n,.int .i64 g].toArray w (cd w (HoP w au au au oT (gS n g) (oL n g))):=by
 refine bN Tryz.func85 rfl Tryz.ntmps85 rfl λf h s=>qr (aO (bE 0 0 au au au) h s qJ rfl rfl λf w1 b4 h s=>e9 ac 1 h rfl λf h=>cw ac 2 h rfl λf h=>am h (wD Rp (h.ev rfl) (h.ev rfl)) rfl λf h=>aO (bE 0 0 au au au) h s qJ rfl rfl λf w1 b6 h s=>aj 0 h s eM rfl rfl rfl (bq _ _ _ _ _) (bq _ _ _ _ _) (eW _ _ (rfl) (rfl) (rfl)) λw1 s=>nt (ah (ah ?_)))
 refine aG (ak 0 h s eM rfl rfl (bq _ _ _ _ _) rfl λf h=>eC h s K3 (mT ⟨n,g,[],[],[]⟩ au au au _ (jS _ n g) ⟨at8 _,at8 _,at8 _⟩) rfl rfl (λr0 f w1 h s=>?_) (λr0 f w1 h s=>?_))
 ·refine e9 ac 1 h rfl λf h=>dw h rfl (qr (am h (wG Rp) rfl λf h=>aj 1 h s eM rfl rfl rfl (bq _ _ _ _ _) (bq _ _ _ _ _) (eW _ _ (rfl) (rfl) (rfl)) λw1 s=>e9 ac 1 h rfl λf h=>rt (bL 1 rfl h s eM rfl rfl (bq _ _ _ _ _) rfl (by obtain ⟨e1,e2⟩:=UN ((IE n g).symm.trans r0);rw [e1,e2];exact Qg rfl rfl (s.pick _ (at5 _))))))
 ·refine e9 ac 1 h rfl λf h=>mQ h rfl (qr (ak 0 h s eM rfl rfl (bq _ _ _ _ _) rfl λf h=>aj 1 h s eM rfl rfl rfl (bq _ _ _ _ _) (bq _ _ _ _ _) (eW _ _ (rfl) (rfl) (rfl)) λw1 s=>e9 ac 1 h rfl λf h=>av8 (bL 1 rfl h s eM rfl rfl (bq _ _ _ _ _) rfl (by obtain ⟨e1,e2⟩:=Xd ((IE n g).symm.trans r0);rw [e1,e2];exact Of (s.pick _ (at5 _))))))
theorem J9 (ho:Ho) (vw vh vi:Value) (x:Id) (now:Int) (w:World) (hHo:ma w vw vh vi ho) (hB9:ho.ws.length<=1000/\ho.hs.length<=1000/\ho.bx.length<=1000):Calls Tryz.prog 156 [.agg (bE ho.no ho.gt vw vh vi),kF x,.int .i64 now].toArray w (cd w (is (.int .i64 (oK ho x now)))):=by
 obtain ⟨hw9,hh9,hi9⟩:=hB9
 refine bN Tryz.func156 rfl Tryz.ntmps156 rfl λf h s=>qr (aZ (bE ho.no ho.gt vw vh vi) h s rfl rfl rfl λf w1 b3 h s=>aZ (aI x) h s rfl rfl rfl λf w1 b4 h s=>e9 ac 1 h rfl λf h=>cw ac 1 h rfl λf h=>ag (V:=vh) (ae (aF.of_own s 1 rfl) 3 (j4 _ _ _ _ _)) h my rfl rfl λf h=>ak 0 h s ca rfl rfl (by first|exact aC _|exact aB _ _) rfl λf h=>dM h s CE (a6 (.int .i64 (nz ho x)) (rD ho.hs vh x _ (hHo.2.1.keep s.ext) hh9) (rfl)) rfl rfl λf w1 h s=>e9 ac 1 h rfl λf h=>ah (ah ?_))
 refine rs ac 1 h rfl λf h=>iV ac h rfl (λd0 f h=>?_) (λd0 f h=>?_)
 ·refine e9 ac 10 h rfl λf h=>mQ h rfl (cw ac 1 h rfl λf h=>ag (V:=.int .i64 ho.gt) (ae (aF.of_own s 1 rfl) 1 (ni _ _ _ _ _)) h bu rfl rfl λf h=>e9 ac 1 h rfl λf h=>av8 (aA rfl h s rfl (by show _=_;rw [SO d0])))
 ·skip
  cases d1:(decide (now<(ho.hs.getD (nz ho x).toNat eO).2.2):Bool)
  ·refine al ac 1 h rfl λf h=>bF h rfl ?_
   have hpos:=(iH d0).2
   refine al ac 1 h rfl λf h=>bF h rfl (ag (V:=vh) (ae (aF.of_own s 1 rfl) 3 (j4 _ _ _ _ _)) h my rfl rfl λf h=>al ac 1 h rfl λf h=>bF h rfl (am h (bg (hHo.2.1.keep s.ext) ((nz ho x).toNat) aD4 ng (h.ev rfl) (h.ev rfl) ((iH d0).1) ((iH d0).2)) rfl λf h=>bF h rfl (am h (bf rF (h.ev rfl) ((hHo.2.1.keep s.ext).some (by omega))) rfl λf h=>bF h rfl (ag (V:=.int .i64 (ho.hs.getD (nz ho x).toNat eO).2.2) (dq (hHo.2.1.keep s.ext) ((nz ho x).toNat*34+33) (IG _ _ (iH d0).2)) h bu rfl rfl λf h=>al ac 1 h rfl λf h=>bF h rfl (eF ac h rfl ((as8.2 (by omega)).trans d1) λf h=>e9 ac 1 h rfl λf h=>mQ h rfl (cw ac 1 h rfl λf h=>ag (V:=.int .i64 ho.gt) (ae (aF.of_own s 1 rfl) 1 (ni _ _ _ _ _)) h bu rfl rfl λf h=>e9 ac 1 h rfl λf h=>av8 (aA rfl h s rfl (by show _=_;rw [Tf d1]))))))))
  ·refine al ac 1 h rfl λf h=>bF h rfl ?_
   have hpos:=(iH d0).2
   refine al ac 1 h rfl λf h=>bF h rfl (ag (V:=vh) (ae (aF.of_own s 1 rfl) 3 (j4 _ _ _ _ _)) h my rfl rfl λf h=>al ac 1 h rfl λf h=>bF h rfl (am h (bg (hHo.2.1.keep s.ext) ((nz ho x).toNat) aD4 ng (h.ev rfl) (h.ev rfl) ((iH d0).1) ((iH d0).2)) rfl λf h=>bF h rfl (am h (bf rF (h.ev rfl) ((hHo.2.1.keep s.ext).some (by omega))) rfl λf h=>bF h rfl (ag (V:=.int .i64 (ho.hs.getD (nz ho x).toNat eO).2.2) (dq (hHo.2.1.keep s.ext) ((nz ho x).toNat*34+33) (IG _ _ (iH d0).2)) h bu rfl rfl λf h=>al ac 1 h rfl λf h=>bF h rfl (fy ac h rfl ((as8.2 (by omega)).trans d1) λf h=>e9 ac 1 h rfl λf h=>dw h rfl (cw ac 1 h rfl λf h=>ag (V:=vh) (ae (aF.of_own s 1 rfl) 3 (j4 _ _ _ _ _)) h my rfl rfl λf h=>al ac 1 h rfl λf h=>am h (bg (hHo.2.1.keep s.ext) ((nz ho x).toNat) aD4 ng (h.ev rfl) (h.ev rfl) ((iH d0).1) ((iH d0).2)) rfl λf h=>am h (bf AG (h.ev rfl) ((hHo.2.1.keep s.ext).some (by omega))) rfl λf h=>ag (V:=.int .i64 (ho.hs.getD (nz ho x).toNat eO).2.1) (dq (hHo.2.1.keep s.ext) ((nz ho x).toNat*34+32) (US _ _ (iH d0).2)) h bu rfl rfl λf h=>e9 ac 1 h rfl λf h=>rt (aA rfl h s rfl (by show _=_;rw [WC d0 d1]))))))))
theorem OH (l:List dN) (hln:l.length<=1000) (a9:Option Addr) (n9 c9:Nat) (w:World) (hR:br w (.slice a9 n9 c9) 34 l.length (eo l)):Calls Tryz.prog 159 [.slice a9 n9 c9].toArray w (cd w (λv w'=>cI w' w.heap.size 48 34 v l.length (eo l))):=by
 refine bN Tryz.func159 rfl Tryz.ntmps159 rfl λf h s=>bJ ac 1 h rfl λf h=>ah (ah ?_)
 cases hn:(a9.isNone:Bool)
 ·refine rs ac 1 h rfl λf h=>am h (a8 (.bool false) (cq aC4 (h.ev rfl) (h.ev rfl)) (ar8 Value.bool hn)) rfl λf h=>fL h rfl (qr (fo (base:=w.heap.size) h aC4 Ee (at6 _) rfl λf w2 v5 h hE3 e5=>al ac 1 h rfl λf h=>dQ (base:=w.heap.size) e5 (hR.keep hE3) h aC4 Ee rfl rfl hE3.le (Ad _) (by unfold maxLen;omega) (by omega) rfl λf w3 v7 h hE4 e7=>?_))
  replace s:=s.sl_new (hE3.trans hE4) e7
  refine e9 ac 1 h rfl λf h=>av8 (aA rfl h s rfl (s.getSl 0 rfl))
 ·refine rs ac 1 h rfl λf h=>am h (a8 (.bool true) (cq aC4 (h.ev rfl) (h.ev rfl)) (ar8 Value.bool hn)) rfl λf h=>gh h rfl (bJ ac 1 h rfl λf h=>rt (aA rfl h s rfl (by obtain rfl:=gQ hn hR;exact d6 _ _ _ _)))
theorem zL (l:List dN) (hln:l.length<=1000) (v9:Value) (w:World) (hR:br w v9 34 l.length (eo l)):Calls Tryz.prog 159 [v9].toArray w (cd w (λv w'=>cI w' w.heap.size 48 34 v l.length (eo l))):=by
 obtain ⟨a,c,rfl⟩:=hR.len
 exact OH l hln a _ c w hR
set_option maxHeartbeats 2000000 in
theorem r6 (a b:Ho) (vw vh vi uw uh ui:Value)  (w:World) (hHa:ma w vw vh vi a) (hHb:ma w uw uh ui b) (hBa:a.ws.length<=1000/\a.hs.length<=1000/\a.bx.length<=1000) (hBb:b.ws.length<=1000/\b.hs.length<=1000/\b.bx.length<=1000):Calls Tryz.prog 24 [.agg (bE a.no a.gt vw vh vi),.agg (bE b.no b.gt uw uh ui)].toArray w (cd w (is (.bool (decide (a=b))))):=by
 obtain ⟨hw9,hh9,hi9⟩:=hBa
 obtain ⟨gw9,gh9,gi9⟩:=hBb
 refine bN Tryz.func24 rfl Tryz.ntmps24 rfl λf h s=>qr (aZ (bE a.no a.gt vw vh vi) h s rfl rfl rfl λf w1 b2 h s=>aZ (bE b.no b.gt uw uh ui) h s rfl rfl rfl λf w1 b3 h s=>e9 ac 1 h rfl λf h=>ah (ah ?_))
 cases k0:(decide (a.no=b.no):Bool)
 ·refine rs ac 1 h rfl λf h=>ag (V:=.int .i64 a.no) (ae (aF.of_own s 1 rfl) 0 (l9 _ _ _ _ _)) h bu rfl rfl λf h=>al ac 1 h rfl λf h=>ag (V:=.int .i64 b.no) (ae (aF.of_own s 0 rfl) 0 (l9 _ _ _ _ _)) h bu rfl rfl λf h=>fy ac h rfl (by simpa using k0) λf h=>e9 ac 34 h rfl λf h=>dw h rfl (bJ ac 1 h rfl λf h=>rt (aA rfl h s rfl (by show _=_;rw [pw (λx=>x.no) (ar5 k0)])))
 ·skip
  cases k1:(decide (a.gt=b.gt):Bool)
  ·refine rs ac 1 h rfl λf h=>ag (V:=.int .i64 a.no) (ae (aF.of_own s 1 rfl) 0 (l9 _ _ _ _ _)) h bu rfl rfl λf h=>al ac 1 h rfl λf h=>ag (V:=.int .i64 b.no) (ae (aF.of_own s 0 rfl) 0 (l9 _ _ _ _ _)) h bu rfl rfl λf h=>eF ac h rfl (by simpa using k0) λf h=>al ac 2 h rfl λf h=>bF h rfl (ag (V:=.int .i64 a.gt) (ae (aF.of_own s 1 rfl) 1 (ni _ _ _ _ _)) h bu rfl rfl λf h=>al ac 1 h rfl λf h=>bF h rfl (ag (V:=.int .i64 b.gt) (ae (aF.of_own s 0 rfl) 1 (ni _ _ _ _ _)) h bu rfl rfl λf h=>bF h rfl (fy ac h rfl (by simpa using k1) λf h=>e9 ac 28 h rfl λf h=>dw h rfl (bJ ac 1 h rfl λf h=>rt (aA rfl h s rfl (by show _=_;rw [pw (λx=>x.gt) (ar5 k1)]))))))
  ·skip
   cases l0:(decide (a.ws.length=b.ws.length):Bool)
   ·refine rs ac 1 h rfl λf h=>ag (V:=.int .i64 a.no) (ae (aF.of_own s 1 rfl) 0 (l9 _ _ _ _ _)) h bu rfl rfl λf h=>al ac 1 h rfl λf h=>ag (V:=.int .i64 b.no) (ae (aF.of_own s 0 rfl) 0 (l9 _ _ _ _ _)) h bu rfl rfl λf h=>eF ac h rfl (by simpa using k0) λf h=>al ac 2 h rfl λf h=>bF h rfl (ag (V:=.int .i64 a.gt) (ae (aF.of_own s 1 rfl) 1 (ni _ _ _ _ _)) h bu rfl rfl λf h=>al ac 1 h rfl λf h=>bF h rfl (ag (V:=.int .i64 b.gt) (ae (aF.of_own s 0 rfl) 1 (ni _ _ _ _ _)) h bu rfl rfl λf h=>bF h rfl (eF ac h rfl (by simpa using k1) λf h=>al ac 3 h rfl λf h=>bF h rfl (ag (V:=vw) (ae (aF.of_own s 1 rfl) 2 (kY _ _ _ _ _)) h ii rfl rfl λf h=>bF h rfl (bT h (hHa.1.keep s.ext) aC8 rfl rfl λf h=>al ac 1 h rfl λf h=>bF h rfl (ag (V:=uw) (ae (aF.of_own s 0 rfl) 2 (kY _ _ _ _ _)) h ii rfl rfl λf h=>bF h rfl (bT h (hHb.1.keep s.ext) aC8 rfl rfl λf h=>bF h rfl (fy ac h rfl (by have h9:=ar5 l0;simp;omega) λf h=>e9 ac 19 h rfl λf h=>dw h rfl (bJ ac 1 h rfl λf h=>rt (aA rfl h s rfl (by show _=_;rw [pw (λx=>x.ws.length) (ar5 l0)])))))))))))
   ·skip
    cases l1:(decide (a.hs.length=b.hs.length):Bool)
    ·refine rs ac 1 h rfl λf h=>ag (V:=.int .i64 a.no) (ae (aF.of_own s 1 rfl) 0 (l9 _ _ _ _ _)) h bu rfl rfl λf h=>al ac 1 h rfl λf h=>ag (V:=.int .i64 b.no) (ae (aF.of_own s 0 rfl) 0 (l9 _ _ _ _ _)) h bu rfl rfl λf h=>eF ac h rfl (by simpa using k0) λf h=>al ac 2 h rfl λf h=>bF h rfl (ag (V:=.int .i64 a.gt) (ae (aF.of_own s 1 rfl) 1 (ni _ _ _ _ _)) h bu rfl rfl λf h=>al ac 1 h rfl λf h=>bF h rfl (ag (V:=.int .i64 b.gt) (ae (aF.of_own s 0 rfl) 1 (ni _ _ _ _ _)) h bu rfl rfl λf h=>bF h rfl (eF ac h rfl (by simpa using k1) λf h=>al ac 3 h rfl λf h=>bF h rfl (ag (V:=vw) (ae (aF.of_own s 1 rfl) 2 (kY _ _ _ _ _)) h ii rfl rfl λf h=>bF h rfl (bT h (hHa.1.keep s.ext) aC8 rfl rfl λf h=>al ac 1 h rfl λf h=>bF h rfl (ag (V:=uw) (ae (aF.of_own s 0 rfl) 2 (kY _ _ _ _ _)) h ii rfl rfl λf h=>bF h rfl (bT h (hHb.1.keep s.ext) aC8 rfl rfl λf h=>bF h rfl (eF ac h rfl (by have h9:=ar4 l0;simp;omega) λf h=>al ac 3 h rfl λf h=>bF h rfl (ag (V:=vh) (ae (aF.of_own s 1 rfl) 3 (j4 _ _ _ _ _)) h iO rfl rfl λf h=>bF h rfl (bT h (hHa.2.1.keep s.ext) aC9 rfl rfl λf h=>al ac 1 h rfl λf h=>bF h rfl (ag (V:=uh) (ae (aF.of_own s 0 rfl) 3 (j4 _ _ _ _ _)) h iO rfl rfl λf h=>bF h rfl (bT h (hHb.2.1.keep s.ext) aC9 rfl rfl λf h=>bF h rfl (fy ac h rfl (by have h9:=ar5 l1;simp;omega) λf h=>e9 ac 10 h rfl λf h=>dw h rfl (bJ ac 1 h rfl λf h=>rt (aA rfl h s rfl (by show _=_;rw [pw (λx=>x.hs.length) (ar5 l1)]))))))))))))))))
    ·skip
     cases l2:(decide (a.bx.length=b.bx.length):Bool)
     ·refine rs ac 1 h rfl λf h=>ag (V:=.int .i64 a.no) (ae (aF.of_own s 1 rfl) 0 (l9 _ _ _ _ _)) h bu rfl rfl λf h=>al ac 1 h rfl λf h=>ag (V:=.int .i64 b.no) (ae (aF.of_own s 0 rfl) 0 (l9 _ _ _ _ _)) h bu rfl rfl λf h=>eF ac h rfl (by simpa using k0) λf h=>al ac 2 h rfl λf h=>bF h rfl (ag (V:=.int .i64 a.gt) (ae (aF.of_own s 1 rfl) 1 (ni _ _ _ _ _)) h bu rfl rfl λf h=>al ac 1 h rfl λf h=>bF h rfl (ag (V:=.int .i64 b.gt) (ae (aF.of_own s 0 rfl) 1 (ni _ _ _ _ _)) h bu rfl rfl λf h=>bF h rfl (eF ac h rfl (by simpa using k1) λf h=>al ac 3 h rfl λf h=>bF h rfl (ag (V:=vw) (ae (aF.of_own s 1 rfl) 2 (kY _ _ _ _ _)) h ii rfl rfl λf h=>bF h rfl (bT h (hHa.1.keep s.ext) aC8 rfl rfl λf h=>al ac 1 h rfl λf h=>bF h rfl (ag (V:=uw) (ae (aF.of_own s 0 rfl) 2 (kY _ _ _ _ _)) h ii rfl rfl λf h=>bF h rfl (bT h (hHb.1.keep s.ext) aC8 rfl rfl λf h=>bF h rfl (eF ac h rfl (by have h9:=ar4 l0;simp;omega) λf h=>al ac 3 h rfl λf h=>bF h rfl (ag (V:=vh) (ae (aF.of_own s 1 rfl) 3 (j4 _ _ _ _ _)) h iO rfl rfl λf h=>bF h rfl (bT h (hHa.2.1.keep s.ext) aC9 rfl rfl λf h=>al ac 1 h rfl λf h=>bF h rfl (ag (V:=uh) (ae (aF.of_own s 0 rfl) 3 (j4 _ _ _ _ _)) h iO rfl rfl λf h=>bF h rfl (bT h (hHb.2.1.keep s.ext) aC9 rfl rfl λf h=>bF h rfl (eF ac h rfl (by have h9:=ar4 l1;simp;omega) λf h=>al ac 3 h rfl λf h=>bF h rfl (ag (V:=vi) (ae (aF.of_own s 1 rfl) 4 (pm _ _ _ _ _)) h iQ rfl rfl λf h=>bF h rfl (bT h (hHa.2.2.keep s.ext) aD0 rfl rfl λf h=>al ac 1 h rfl λf h=>bF h rfl (ag (V:=ui) (ae (aF.of_own s 0 rfl) 4 (pm _ _ _ _ _)) h iQ rfl rfl λf h=>bF h rfl (bT h (hHb.2.2.keep s.ext) aD0 rfl rfl λf h=>bF h rfl (fy ac h rfl (by have h9:=ar5 l2;simp;omega) λf h=>e9 ac 1 h rfl λf h=>dw h rfl (bJ ac 1 h rfl λf h=>rt (aA rfl h s rfl (by show _=_;rw [pw (λx=>x.bx.length) (ar5 l2)])))))))))))))))))))))
     ·refine rs ac 1 h rfl λf h=>ag (V:=.int .i64 a.no) (ae (aF.of_own s 1 rfl) 0 (l9 _ _ _ _ _)) h bu rfl rfl λf h=>al ac 1 h rfl λf h=>ag (V:=.int .i64 b.no) (ae (aF.of_own s 0 rfl) 0 (l9 _ _ _ _ _)) h bu rfl rfl λf h=>eF ac h rfl (by simpa using k0) λf h=>al ac 2 h rfl λf h=>bF h rfl (ag (V:=.int .i64 a.gt) (ae (aF.of_own s 1 rfl) 1 (ni _ _ _ _ _)) h bu rfl rfl λf h=>al ac 1 h rfl λf h=>bF h rfl (ag (V:=.int .i64 b.gt) (ae (aF.of_own s 0 rfl) 1 (ni _ _ _ _ _)) h bu rfl rfl λf h=>bF h rfl (eF ac h rfl (by simpa using k1) λf h=>al ac 3 h rfl λf h=>bF h rfl (ag (V:=vw) (ae (aF.of_own s 1 rfl) 2 (kY _ _ _ _ _)) h ii rfl rfl λf h=>bF h rfl (bT h (hHa.1.keep s.ext) aC8 rfl rfl λf h=>al ac 1 h rfl λf h=>bF h rfl (ag (V:=uw) (ae (aF.of_own s 0 rfl) 2 (kY _ _ _ _ _)) h ii rfl rfl λf h=>bF h rfl (bT h (hHb.1.keep s.ext) aC8 rfl rfl λf h=>bF h rfl (eF ac h rfl (by have h9:=ar4 l0;simp;omega) λf h=>al ac 3 h rfl λf h=>bF h rfl (ag (V:=vh) (ae (aF.of_own s 1 rfl) 3 (j4 _ _ _ _ _)) h iO rfl rfl λf h=>bF h rfl (bT h (hHa.2.1.keep s.ext) aC9 rfl rfl λf h=>al ac 1 h rfl λf h=>bF h rfl (ag (V:=uh) (ae (aF.of_own s 0 rfl) 3 (j4 _ _ _ _ _)) h iO rfl rfl λf h=>bF h rfl (bT h (hHb.2.1.keep s.ext) aC9 rfl rfl λf h=>bF h rfl (eF ac h rfl (by have h9:=ar4 l1;simp;omega) λf h=>al ac 3 h rfl λf h=>bF h rfl (ag (V:=vi) (ae (aF.of_own s 1 rfl) 4 (pm _ _ _ _ _)) h iQ rfl rfl λf h=>bF h rfl (bT h (hHa.2.2.keep s.ext) aD0 rfl rfl λf h=>al ac 1 h rfl λf h=>bF h rfl (ag (V:=ui) (ae (aF.of_own s 0 rfl) 4 (pm _ _ _ _ _)) h iQ rfl rfl λf h=>bF h rfl (bT h (hHb.2.2.keep s.ext) aD0 rfl rfl λf h=>bF h rfl (eF ac h rfl (by have h9:=ar4 l2;simp;omega) λf h=>e9 ac 1 h rfl λf h=>mQ h rfl (ah (qr ?_))))))))))))))))))))
      have m0:=ar4 l0
      have m1:=ar4 l1
      have m2:=ar4 l2
      refine al ac 1 h rfl λf h=>ag (V:=vw) (ae (aF.of_own s 1 rfl) 2 (kY _ _ _ _ _)) h ii rfl rfl λf h=>bT h (hHa.1.keep s.ext) aC8 rfl rfl λf h=>e9 ac 1 h rfl λf h=>av9 (aw1 (λnn aa ww=>∃ k:Nat,Sl 101 aa [(0,.agg (bE a.no a.gt vw vh vi)),(1,.agg (bE b.no b.gt uw uh ui)),(2,.pointer (some ⟨b2,0,none⟩)),(3,.pointer (some ⟨b3,0,none⟩)),(49,.int .i64 (a.ws.length:Int)),(50,.int .i64 (k:Int))]/\St w [.blk b3 (.cells (bE b.no b.gt uw uh ui) 66),.blk b2 (.cells (bE a.no a.gt vw vh vi) 66)] ww/\nn=a.ws.length - k/\k<=a.ws.length/\∀ j,j<k->a.ws.getD j gm=b.ws.getD j gm) (a.ws.length - (0)) ⟨0,h.only ⟨rfl,rfl,rfl,rfl,rfl,aD rfl (by omega),trivial⟩,s.as ⟨rfl,rfl,trivial⟩,rfl,at8 _,λj hj=>az2 hj (ax1 _)⟩ ?_)
      rintro _ f w1 ⟨k,h,s,hnn,hp0,hp1⟩
      refine bJ ac 1 h rfl λf h=>ah (dA h rfl (λhc=>?_) (λhc=>?_))
      ·refine kt (ah (av9 (qr ?_)))
       have hka:k<a.ws.length:=by omega
       have hkb:k<b.ws.length:=by omega
       refine e9 ac 2 h rfl λf h=>ah ?_
       cases q0:(decide (a.ws.getD k gm=b.ws.getD k gm):Bool)
       ·refine cQ 11 h (by kernel_rfl) (ar ac 1 h rfl λf h=>ao (V:=vw) (ae (aF.of_own s 1 rfl) 2 (kY _ _ _ _ _)) h ii rfl rfl λf h=>ar ac 1 h rfl λf h=>av h (bg (hHa.1.keep s.ext) (k) aC8 qS (h.ev rfl) (h.ev rfl) (by omega) (by omega)) rfl λf h=>aE ((hHa.1.keep s.ext).el (k) (by omega) (by decide) (D:=dc (a.ws.getD k gm)) (qR _ k hka)) h oZ rfl (cA _) rfl λf h=>ar ac 1 h rfl λf h=>ao (V:=uw) (ae (aF.of_own s 0 rfl) 2 (kY _ _ _ _ _)) h ii rfl rfl λf h=>ar ac 1 h rfl λf h=>av h (bg (hHb.1.keep s.ext) (k) aC8 qS (h.ev rfl) (h.ev rfl) (by omega) (by omega)) rfl λf h=>aE ((hHb.1.keep s.ext).el (k) (by omega) (by decide) (D:=dc (b.ws.getD k gm)) (qR _ k hkb)) h oZ rfl (cA _) rfl λf h=>av h (a8 (.bool true) (ge (XV _ _) (by kernel_rfl) (by decide) (h.ev rfl) (h.ev rfl) (decide (a.ws.getD k gm=b.ws.getD k gm)) (V0 _ _)) (ar8 Value.bool (by simpa using q0))) rfl λf h=>bK s λw1 s=>gh h rfl (bJ ac 1 h rfl λf h=>av8 (bh (aU (aU (bh (aU (aA rfl h s rfl (by show _=_;rw [pw (λx=>x.ws.getD k gm) (ar5 q0)])))))))))
       ·refine cQ 11 h (by kernel_rfl) (ar ac 1 h rfl λf h=>ao (V:=vw) (ae (aF.of_own s 1 rfl) 2 (kY _ _ _ _ _)) h ii rfl rfl λf h=>ar ac 1 h rfl λf h=>av h (bg (hHa.1.keep s.ext) (k) aC8 qS (h.ev rfl) (h.ev rfl) (by omega) (by omega)) rfl λf h=>aE ((hHa.1.keep s.ext).el (k) (by omega) (by decide) (D:=dc (a.ws.getD k gm)) (qR _ k hka)) h oZ rfl (cA _) rfl λf h=>ar ac 1 h rfl λf h=>ao (V:=uw) (ae (aF.of_own s 0 rfl) 2 (kY _ _ _ _ _)) h ii rfl rfl λf h=>ar ac 1 h rfl λf h=>av h (bg (hHb.1.keep s.ext) (k) aC8 qS (h.ev rfl) (h.ev rfl) (by omega) (by omega)) rfl λf h=>aE ((hHb.1.keep s.ext).el (k) (by omega) (by decide) (D:=dc (b.ws.getD k gm)) (qR _ k hkb)) h oZ rfl (cA _) rfl λf h=>av h (a8 (.bool false) (ge (XV _ _) (by kernel_rfl) (by decide) (h.ev rfl) (h.ev rfl) (decide (a.ws.getD k gm=b.ws.getD k gm)) (V0 _ _)) (ar8 Value.bool (by simpa using q0))) rfl λf h=>bK s λw1 s=>oW h rfl (wpIn_skip (bo (aK (aG (am h (bY (h.ev rfl) (h.ev rfl) (by omega)) rfl λf h=>e9 ac 1 h rfl λf h=>?_))))))
        exact ⟨_,by omega,⟨k+1,h.only ⟨rfl,rfl,rfl,rfl,rfl,aD rfl (by omega),trivial⟩,St.as s ⟨rfl,rfl,trivial⟩,rfl,by omega,eu hp1 (ar4 q0)⟩⟩
      ·refine aw0 (ba (ba (cj (aK (ah (qr ?_))))))
       have hA:∀ j,j<a.ws.length->a.ws.getD j gm=b.ws.getD j gm:=λj hj=>hp1 j (by omega)
       refine al ac 1 h rfl λf h=>ag (V:=vh) (ae (aF.of_own s 1 rfl) 3 (j4 _ _ _ _ _)) h iO rfl rfl λf h=>bT h (hHa.2.1.keep s.ext) aC9 rfl rfl λf h=>e9 ac 1 h rfl λf h=>av9 (aw1 (λnn aa ww=>∃ k:Nat,Sl 101 aa [(0,.agg (bE a.no a.gt vw vh vi)),(1,.agg (bE b.no b.gt uw uh ui)),(2,.pointer (some ⟨b2,0,none⟩)),(3,.pointer (some ⟨b3,0,none⟩)),(67,.int .i64 (a.hs.length:Int)),(68,.int .i64 (k:Int))]/\St w [.blk b3 (.cells (bE b.no b.gt uw uh ui) 66),.blk b2 (.cells (bE a.no a.gt vw vh vi) 66)] ww/\nn=a.hs.length - k/\k<=a.hs.length/\∀ j,j<k->a.hs.getD j eO=b.hs.getD j eO) (a.hs.length - (0)) ⟨0,h.only ⟨rfl,rfl,rfl,rfl,rfl,aD rfl (by omega),trivial⟩,s.as ⟨rfl,rfl,trivial⟩,rfl,at8 _,λj hj=>az2 hj (ax1 _)⟩ ?_)
       rintro _ f w1 ⟨k,h,s,hnn,hp0,hp1⟩
       refine bJ ac 1 h rfl λf h=>ah (dA h rfl (λhc=>?_) (λhc=>?_))
       ·refine kt (ah (av9 (qr ?_)))
        have hka:k<a.hs.length:=by omega
        have hkb:k<b.hs.length:=by omega
        refine e9 ac 2 h rfl λf h=>ah ?_
        cases q1:(decide (a.hs.getD k eO=b.hs.getD k eO):Bool)
        ·refine cQ 11 h (by kernel_rfl) (ar ac 1 h rfl λf h=>ao (V:=vh) (ae (aF.of_own s 1 rfl) 3 (j4 _ _ _ _ _)) h iO rfl rfl λf h=>ar ac 1 h rfl λf h=>av h (bg (hHa.2.1.keep s.ext) (k) aC9 sG (h.ev rfl) (h.ev rfl) (by omega) (by omega)) rfl λf h=>aE ((hHa.2.1.keep s.ext).el (k) (by omega) (by decide) (D:=cW (a.hs.getD k eO)) (om _ k hka)) h oN rfl (cy _) rfl λf h=>ar ac 1 h rfl λf h=>ao (V:=uh) (ae (aF.of_own s 0 rfl) 3 (j4 _ _ _ _ _)) h iO rfl rfl λf h=>ar ac 1 h rfl λf h=>av h (bg (hHb.2.1.keep s.ext) (k) aC9 sG (h.ev rfl) (h.ev rfl) (by omega) (by omega)) rfl λf h=>aE ((hHb.2.1.keep s.ext).el (k) (by omega) (by decide) (D:=cW (b.hs.getD k eO)) (om _ k hkb)) h oN rfl (cy _) rfl λf h=>av h (a8 (.bool true) (ge (YO _ _) (by kernel_rfl) (by decide) (h.ev rfl) (h.ev rfl) (decide (a.hs.getD k eO=b.hs.getD k eO)) (Xn _ _)) (ar8 Value.bool (by simpa using q1))) rfl λf h=>bK s λw1 s=>gh h rfl (bJ ac 1 h rfl λf h=>av8 (bh (aU (aU (bh (aU (aA rfl h s rfl (by show _=_;rw [pw (λx=>x.hs.getD k eO) (ar5 q1)])))))))))
        ·refine cQ 11 h (by kernel_rfl) (ar ac 1 h rfl λf h=>ao (V:=vh) (ae (aF.of_own s 1 rfl) 3 (j4 _ _ _ _ _)) h iO rfl rfl λf h=>ar ac 1 h rfl λf h=>av h (bg (hHa.2.1.keep s.ext) (k) aC9 sG (h.ev rfl) (h.ev rfl) (by omega) (by omega)) rfl λf h=>aE ((hHa.2.1.keep s.ext).el (k) (by omega) (by decide) (D:=cW (a.hs.getD k eO)) (om _ k hka)) h oN rfl (cy _) rfl λf h=>ar ac 1 h rfl λf h=>ao (V:=uh) (ae (aF.of_own s 0 rfl) 3 (j4 _ _ _ _ _)) h iO rfl rfl λf h=>ar ac 1 h rfl λf h=>av h (bg (hHb.2.1.keep s.ext) (k) aC9 sG (h.ev rfl) (h.ev rfl) (by omega) (by omega)) rfl λf h=>aE ((hHb.2.1.keep s.ext).el (k) (by omega) (by decide) (D:=cW (b.hs.getD k eO)) (om _ k hkb)) h oN rfl (cy _) rfl λf h=>av h (a8 (.bool false) (ge (YO _ _) (by kernel_rfl) (by decide) (h.ev rfl) (h.ev rfl) (decide (a.hs.getD k eO=b.hs.getD k eO)) (Xn _ _)) (ar8 Value.bool (by simpa using q1))) rfl λf h=>bK s λw1 s=>oW h rfl (wpIn_skip (bo (aK (aG (am h (bY (h.ev rfl) (h.ev rfl) (by omega)) rfl λf h=>e9 ac 1 h rfl λf h=>?_))))))
         exact ⟨_,by omega,⟨k+1,h.only ⟨rfl,rfl,rfl,rfl,rfl,aD rfl (by omega),trivial⟩,St.as s ⟨rfl,rfl,trivial⟩,rfl,by omega,eu hp1 (ar4 q1)⟩⟩
       ·refine aw0 (ba (ba (cj (aK (ah (qr ?_))))))
        have hA2:∀ j,j<a.hs.length->a.hs.getD j eO=b.hs.getD j eO:=λj hj=>hp1 j (by omega)
        refine al ac 1 h rfl λf h=>ag (V:=vi) (ae (aF.of_own s 1 rfl) 4 (pm _ _ _ _ _)) h iQ rfl rfl λf h=>bT h (hHa.2.2.keep s.ext) aD0 rfl rfl λf h=>e9 ac 1 h rfl λf h=>av9 (aw1 (λnn aa ww=>∃ k:Nat,Sl 101 aa [(0,.agg (bE a.no a.gt vw vh vi)),(1,.agg (bE b.no b.gt uw uh ui)),(2,.pointer (some ⟨b2,0,none⟩)),(3,.pointer (some ⟨b3,0,none⟩)),(85,.int .i64 (a.bx.length:Int)),(86,.int .i64 (k:Int))]/\St w [.blk b3 (.cells (bE b.no b.gt uw uh ui) 66),.blk b2 (.cells (bE a.no a.gt vw vh vi) 66)] ww/\nn=a.bx.length - k/\k<=a.bx.length/\∀ j,j<k->a.bx.getD j ByteArray.empty=b.bx.getD j ByteArray.empty) (a.bx.length - (0)) ⟨0,h.only ⟨rfl,rfl,rfl,rfl,rfl,aD rfl (by omega),trivial⟩,s.as ⟨rfl,rfl,trivial⟩,rfl,at8 _,λj hj=>az2 hj (ax1 _)⟩ ?_)
        rintro _ f w1 ⟨k,h,s,hnn,hp0,hp1⟩
        refine bJ ac 1 h rfl λf h=>ah (dA h rfl (λhc=>?_) (λhc=>?_))
        ·refine kt (ah (av9 (qr ?_)))
         have hka:k<a.bx.length:=by omega
         have hkb:k<b.bx.length:=by omega
         refine e9 ac 2 h rfl λf h=>ah ?_
         cases q2:(decide (a.bx.getD k ByteArray.empty=b.bx.getD k ByteArray.empty):Bool)
         ·refine cQ 11 h (by kernel_rfl) (ar ac 1 h rfl λf h=>ao (V:=vi) (ae (aF.of_own s 1 rfl) 4 (pm _ _ _ _ _)) h iQ rfl rfl λf h=>ar ac 1 h rfl λf h=>av h (bg (hHa.2.2.keep s.ext) (k) aD0 J7 (h.ev rfl) (h.ev rfl) (by omega) (by omega)) rfl λf h=>ao ((hHa.2.2.keep s.ext).el1 (k) (V:=.string (a.bx.getD k ByteArray.empty)) (sn hka)) h gK rfl rfl λf h=>ar ac 1 h rfl λf h=>ao (V:=ui) (ae (aF.of_own s 0 rfl) 4 (pm _ _ _ _ _)) h iQ rfl rfl λf h=>ar ac 1 h rfl λf h=>av h (bg (hHb.2.2.keep s.ext) (k) aD0 J7 (h.ev rfl) (h.ev rfl) (by omega) (by omega)) rfl λf h=>ao ((hHb.2.2.keep s.ext).el1 (k) (V:=.string (b.bx.getD k ByteArray.empty)) (sn hkb)) h gK rfl rfl λf h=>av h (a8 (.bool true) (sN (h.ev rfl) (h.ev rfl)) (ar8 Value.bool (by simpa using q2))) rfl λf h=>bK s λw1 s=>gh h rfl (bJ ac 1 h rfl λf h=>av8 (bh (aU (aU (bh (aU (aA rfl h s rfl (by show _=_;rw [pw (λx=>x.bx.getD k ByteArray.empty) (ar5 q2)])))))))))
         ·refine cQ 11 h (by kernel_rfl) (ar ac 1 h rfl λf h=>ao (V:=vi) (ae (aF.of_own s 1 rfl) 4 (pm _ _ _ _ _)) h iQ rfl rfl λf h=>ar ac 1 h rfl λf h=>av h (bg (hHa.2.2.keep s.ext) (k) aD0 J7 (h.ev rfl) (h.ev rfl) (by omega) (by omega)) rfl λf h=>ao ((hHa.2.2.keep s.ext).el1 (k) (V:=.string (a.bx.getD k ByteArray.empty)) (sn hka)) h gK rfl rfl λf h=>ar ac 1 h rfl λf h=>ao (V:=ui) (ae (aF.of_own s 0 rfl) 4 (pm _ _ _ _ _)) h iQ rfl rfl λf h=>ar ac 1 h rfl λf h=>av h (bg (hHb.2.2.keep s.ext) (k) aD0 J7 (h.ev rfl) (h.ev rfl) (by omega) (by omega)) rfl λf h=>ao ((hHb.2.2.keep s.ext).el1 (k) (V:=.string (b.bx.getD k ByteArray.empty)) (sn hkb)) h gK rfl rfl λf h=>av h (a8 (.bool false) (sN (h.ev rfl) (h.ev rfl)) (ar8 Value.bool (by simpa using q2))) rfl λf h=>bK s λw1 s=>oW h rfl (wpIn_skip (bo (aK (aG (am h (bY (h.ev rfl) (h.ev rfl) (by omega)) rfl λf h=>e9 ac 1 h rfl λf h=>?_))))))
          exact ⟨_,by omega,⟨k+1,h.only ⟨rfl,rfl,rfl,rfl,rfl,aD rfl (by omega),trivial⟩,St.as s ⟨rfl,rfl,trivial⟩,rfl,by omega,eu hp1 (ar4 q2)⟩⟩
        ·refine aw0 (ba (ba (cj (aK (bJ ac 1 h rfl λf h=>av8 (aA rfl h s rfl (by show _=_;rw [Ue (ar4 k0) (ar4 k1) m0 m1 m2 hA hA2 (λj hj=>hp1 j (by omega))])))))))
end Go.Proofs.YtkhepdpfdhdlaaaGreatDoor
