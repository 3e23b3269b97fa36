/- Package host: what its functions answer. -/
import Derived.Test.YthmlflaiidhoiaaGreatDoorCon
set_option linter.unusedVariables false
namespace Go.Proofs.YthmlflaiidhoiaaGreatDoor
open Go.RowKit
theorem Rq (l:List ByteArray) (hln:l.length<=1000) (a9:Option Addr) (n9 c9:Nat) (w:World) (hR:bs w (.slice a9 n9 c9) 1 l.length (zJ l)):Calls Tryz.prog 68 [.slice a9 n9 c9].toArray w (cb w (λv w'=>cF w' w.heap.size 9 1 v l.length (zJ l))):=by
 refine bK Tryz.func68 rfl Tryz.ntmps68 rfl λf h s=>bE ac 1 h rfl λf h=>ah (ah ?_)
 cases hn:(a9.isNone:Bool)
 ·refine rs ac 1 h rfl λf h=>ai h (bz (.bool false) (ct aS5 (h.ev rfl) (h.ev rfl)) (aH3 Value.bool hn)) rfl λf h=>gS h rfl (qr (fB (base:=w.heap.size) h aS5 al3 (aJ1 _) rfl λf w2 v5 h hE3 e5=>am ac 1 h rfl λf h=>dZ (base:=w.heap.size) e5 (hR.keep hE3) h aS5 al3 rfl rfl hE3.le (Ny _) (by unfold maxLen;omega) (by omega) rfl λf w3 v7 h hE4 e7=>?_))
  replace s:=s.sl_new (hE3.trans hE4) e7
  refine e9 ac 1 h rfl λf h=>aL3 (av rfl h s rfl (s.getSl 0 rfl))
 ·refine rs ac 1 h rfl λf h=>ai h (bz (.bool true) (ct aS5 (h.ev rfl) (h.ev rfl)) (aH3 Value.bool hn)) rfl λf h=>iY h rfl (bE ac 1 h rfl λf h=>rt (av rfl h s rfl (by obtain rfl:=iv hn hR;exact eh _ _ _ _)))
theorem B2 (l:List ByteArray) (hln:l.length<=1000) (v9:Value) (w:World) (hR:bs w v9 1 l.length (zJ l)):Calls Tryz.prog 68 [v9].toArray w (cb w (λv w'=>cF w' w.heap.size 9 1 v l.length (zJ l))):=by
 obtain ⟨a,c,rfl⟩:=hR.len
 exact Rq l hln a _ c w hR
set_option maxHeartbeats 2000000 in
theorem vW (ho:Ho) (vw vh vi:Value)  (w:World) (hHo:pE w vw vh vi ho) (hB9:ho.ws.length<=1000/\ho.hs.length<=1000/\ho.bx.length<=1000):Calls Tryz.prog 125 [.agg (ca ho.no ho.gt vw vh vi)].toArray w (cb w (OwH w 247 277 9 ho)):=by
 obtain ⟨hw9,hh9,hi9⟩:=hB9
 refine bK Tryz.func125 rfl Tryz.ntmps125 rfl λf h s=>qr (aV (ca ho.no ho.gt vw vh vi) h s rfl rfl rfl λf w1 b1 h s=>aK (ca 0 0 ax ax ax) h s yS rfl rfl λf w1 b2 h s=>nt (ah (fC 0 9 [[],[0],[],[2],[],[4],[4,5],[0,1,2,3,4,5,6],[],[0,1,2,3,4,5,6,7,8]] [[],[],[],[],[],[],[],[],[],[]] [] [.v _,.v (.int .i64 ho.no),.v _,.v (.int .i64 ho.gt),.v _,.v vi,.r (λv=>[.sl (v 6) 9 1 ho.bx.length (zJ ho.bx)]) (λv=>(v 6).oneCell'=true),.f (λv=>v 7=.agg (ca ho.no ho.gt ax ax (v 6))),.q (λv=>[.blk (vV (v 8)) (.cells (ca 0 0 ax ax ax) 202)]),.n] _ h s rfl (by kernel_rfl) (by kernel_rfl) (by kernel_rfl) (gL ac h rfl rfl rfl (cm ?_ (gL ac h rfl rfl rfl (cm ?_ (gL ac h rfl rfl rfl (cm ?_ (cm ?_ (cm ?_ (cm ?_ (trivial)))))))))) [0,1,2,3,4,5,6,7,8] (by kernel_rfl) ?_)))
 ·intro f9 w2 vl1 E9 hs9 hd9 hl hF s
  have h:=cq [(8,_)] h hs9 hd9 ⟨a7 hl 8 0 (by kernel_rfl) (hF 0 (by decide)),trivial⟩
  refine ag (V:=.int .i64 ho.no) (ae (aJ.of_own s 1 rfl) 0 (O3 _ _ _ _ _)) h bJ rfl rfl λf h=>az ⟨_,br 9 h rfl rfl,rfl,s⟩
 ·intro f9 w2 vl1 E9 hs9 hd9 hl hF s
  have h:=cq [(10,_)] h hs9 hd9 ⟨a7 hl 10 2 (by kernel_rfl) (hF 2 (by decide)),trivial⟩
  refine ag (V:=.int .i64 ho.gt) (ae (aJ.of_own s 1 rfl) 1 (Ow _ _ _ _ _)) h bJ rfl rfl λf h=>az ⟨_,br 11 h rfl rfl,rfl,s⟩
 ·intro f9 w2 vl1 E9 hs9 hd9 hl hF s
  have h:=cq [(12,_)] h hs9 hd9 ⟨a7 hl 12 4 (by kernel_rfl) (hF 4 (by decide)),trivial⟩
  refine ag (V:=vi) (ae (aJ.of_own s 1 rfl) 4 (SH _ _ _ _ _)) h wX rfl rfl λf h=>az ⟨_,br 13 h rfl rfl,rfl,s⟩
 ·intro f9 w2 vl1 E9 hs9 hd9 hl hF s
  have h:=cq [(13,_)] h hs9 hd9 ⟨a7 hl 13 5 (by kernel_rfl) (hF 5 (by decide)),trivial⟩
  refine aY h s Us (B2 ho.bx hi9 vi _ (hHo.2.2.keep s.ext)) rfl rfl ?_;intro f w3 v14 hT hE h sq;replace s:=s.sl_new hE hT
  exact az ⟨_,br 14 h rfl rfl,bk (s.getSl 0 rfl),s⟩
 ·intro f9 w2 vl1 E9 hs9 hd9 hl hF s
  have h:=cq [(9,_),(11,_),(14,_)] h hs9 hd9 ⟨a7 hl 9 1 (by kernel_rfl) (hF 1 (by decide)),a7 hl 11 3 (by kernel_rfl) (hF 3 (by decide)),ff hl 14 6 (by kernel_rfl) (by kernel_rfl),trivial⟩
  refine ai h (yk Zs (BY (hF 6 (by decide))).1 (BY (hF 6 (by decide))).2 (h.ev rfl) (h.ev rfl) (h.ev rfl)) rfl λf h=>az ⟨_,br 15 h rfl rfl,rfl,s⟩
 ·intro f9 w2 vl1 E9 hs9 hd9 hl hF s
  have h:=ia [] (hs9.trans h.size) (hd9.trans h.defers) (holds_lk trivial)
  refine aK (ca 0 0 ax ax ax) h s yS rfl rfl λf w1 b3 h s=>az ⟨_,br 3 h rfl rfl,⟨_,rfl⟩,s⟩
 intro f w1 vl1 hs9 hd9 hv hr hF s
 replace hv:=λi d h9=>hv i d (show Nat.blt i 9=true from h9)
 obtain ⟨b3,hb3⟩:∃ b,vl1 8=.pointer (some ⟨b,0,none⟩):=hF 8 (by kernel_rfl)
 replace h:=ew 9 (ops:=_) [(8,_),(9,_),(10,_),(11,_),(12,_),(13,_),(14,(vl1 6)),(15,.agg (ca ho.no ho.gt ax ax (vl1 6))),(3,.pointer (some ⟨b3,0,none⟩))] h hs9 hd9 hr ⟨(hv 0 8 rfl rfl).trans (hF 0 rfl),(hv 1 9 rfl rfl).trans (hF 1 rfl),(hv 2 10 rfl rfl).trans (hF 2 rfl),(hv 3 11 rfl rfl).trans (hF 3 rfl),(hv 4 12 rfl rfl).trans (hF 4 rfl),(hv 5 13 rfl rfl).trans (hF 5 rfl),hv 6 14 rfl rfl,(hv 7 15 rfl rfl).trans (hF 7 rfl),(hv 8 3 rfl rfl).trans hb3,trivial⟩ (by kernel_rfl)
 replace s:St w [.sl (vl1 6) 9 1 ho.bx.length (zJ ho.bx),.blk (vV (vl1 8)) (.cells (ca 0 0 ax ax ax) 202),.blk b2 (.cells (ca 0 0 ax ax ax) 202),.blk b1 (.cells (ca ho.no ho.gt vw vh vi) 68)] _:=s
 replace s:=s.pbi 1 hb3 rfl
 refine al 1 h s oM rfl rfl rfl (bG _ _ _ _ _) (bG _ _ _ _ _) (fe _ _ (rfl) (rfl) (hF 6 (by kernel_rfl))) λw1 s=>nt (ah (bU ac 1 h rfl λf h=>?_))
 replace s:=s.nilSl 247 33
 refine ag (V:=vw) (ae (aJ.of_own s 4 rfl) 2 (R0 _ _ _ _ _)) h FN rfl rfl λf h=>ck h (hHo.1.keep s.ext) aS3 rfl rfl λf h=>e9 ac 1 h rfl λf h=>aL4 (aL6 (λnn aa ww=>∃ k:Nat,∃ va:Value,Sl 57 aa [(0,.agg (ca ho.no ho.gt vw vh vi)),(1,.pointer (some ⟨b1,0,none⟩)),(2,.pointer (some ⟨b2,0,none⟩)),(3,.pointer (some ⟨b3,0,none⟩)),(14,(vl1 6)),(17,vw),(18,.int .i64 (ho.ws.length:Int)),(19,.int .i64 (k:Int))]/\St w [.sl va 247 33 (ho.ws.take k).length (cV (ho.ws.take k)),.sl (vl1 6) 9 1 ho.bx.length (zJ ho.bx),.blk b3 (.cells (ca ho.no ho.gt va ax (vl1 6)) 202),.blk b2 (.cells (ca 0 0 ax ax ax) 202),.blk b1 (.cells (ca ho.no ho.gt vw vh vi) 68)] ww/\nn=ho.ws.length - k/\k<=ho.ws.length) (ho.ws.length - (0)) ⟨0,ax,h.only ⟨rfl,rfl,rfl,rfl,rfl,rfl,rfl,ao rfl (by omega),trivial⟩,s.as ⟨rfl,rfl,rfl,rfl,rfl,trivial⟩,rfl,aJ3 _⟩ ?_)
 rintro _ f w1 ⟨k,va,h,s,hnn,hp0⟩
 refine bE ac 1 h rfl λf h=>ah (cB h rfl (λhc=>?_) (λhc=>?_))
 ·refine kt (ah (aL4 (qr ?_)))
  have hkl:k<ho.ws.length:=by omega
  refine ai h (bj (hHo.1.keep s.ext) (k) aS3 Xl (h.ev rfl) (h.ev rfl) (by omega) (by omega)) rfl λf h=>ap ((hHo.1.keep s.ext).el (k) (by omega) (by decide) (D:=ef (ho.ws.getD k jJ)) (LS _ k hkl)) h Mh rfl (dA _) rfl λf h=>aK (ef jJ) h s Q9 rfl rfl λf w1 b5 h s=>al 0 h s Mh rfl rfl rfl (dA _) (dA _) (oT _) λw1 s=>nt (rs ac 1 h rfl λf h=>ag (V:=va) (ae (aJ.of_own s 3 rfl) 2 (R0 _ _ _ _ _)) h Du rfl rfl λf h=>am ac 1 h rfl λf h=>ap (aJ.subL (aJ.of_own s 0 rfl) 0 32 (D:=aH (ho.ws.getD k jJ).1) (BZ _)) h bW rfl (by first|exact aA _|exact au _ _) rfl λf h=>ai h (qW TQ (h.ev rfl)) rfl λf h=>am ac 1 h rfl λf h=>ag (V:=.int .i64 (ho.ws.getD k jJ).2) (ae (aJ.of_own s 0 rfl) 32 (n3 _)) h bJ rfl rfl λf h=>ai h (AM ad8 (h.ev rfl) (h.ev rfl)) rfl λf h=>cf (vs:=[.agg (ef (ho.ws.getD k jJ))]) [.tmp 30] h s aS8 Lu rfl rfl (Zp _) rfl rfl rfl λf w1 v31 h s=>dD 2 0 h s aS8 Lu rfl rfl rfl rfl (by decide) (by rw [Lp];exact oT _) (by have h9:(ho.ws.take k).length<=k:=(by rw [aL0];omega);unfold maxLen;omega) (by have h9:(ho.ws.take k).length<=k:=(by rw [aL0];omega);omega) rfl λf w1 v32 h s=>?_)
  replace s:=s.pick _ (aJ2 _ _)
  replace s:=s.resl (m:=(ho.ws.take (k+1)).length) (ys:=cV (ho.ws.take (k+1))) 1 rfl (by rw [FV hkl,aH7];rfl) (by rw [FV hkl,Lp,O8])
  refine am ac 1 h rfl λf h=>aM 3 h s Du rfl rfl rfl (by rw [bG];omega) (bk (s.getSl 1 rfl)) λw1 s=>?_
  replace s:=s.recell (D:=ca ho.no ho.gt v32 ax (vl1 6)) 3 rfl (rfl)
  refine az (aW (aD (aw (ai h (bo (h.ev rfl) (h.ev rfl) (by omega)) rfl λf h=>e9 ac 1 h rfl λf h=>?_))))
  exact ⟨_,by omega,⟨k+1,v32,h.only ⟨rfl,rfl,rfl,rfl,rfl,rfl,rfl,ao rfl (by omega),trivial⟩,St.as (s.pick _ (aG8 _ (aG7 _ (aG7 _ (aG7 _ (aG7 _ (aG7 _ (aJ0 _)))))))) ⟨rfl,rfl,rfl,rfl,rfl,trivial⟩,rfl,by omega⟩⟩
 ·refine aL5 (aO (aO (bS (aD (ah (bU ac 1 h rfl λf h=>?_))))))
  obtain rfl:k=ho.ws.length:=by omega
  rw [List.take_length] at s
  replace s:=s.nilSl 277 34
  refine ag (V:=vh) (ae (aJ.of_own s 5 rfl) 3 (Al _ _ _ _ _)) h Fd rfl rfl λf h=>ck h (hHo.2.1.keep s.ext) aS4 rfl rfl λf h=>e9 ac 1 h rfl λf h=>aL4 (aL6 (λnn aa ww=>∃ k:Nat,∃ vc:Value,Sl 57 aa [(0,.agg (ca ho.no ho.gt vw vh vi)),(1,.pointer (some ⟨b1,0,none⟩)),(2,.pointer (some ⟨b2,0,none⟩)),(3,.pointer (some ⟨b3,0,none⟩)),(14,(vl1 6)),(36,vh),(37,.int .i64 (ho.hs.length:Int)),(38,.int .i64 (k:Int))]/\St w [.sl vc 277 34 (ho.hs.take k).length (cU (ho.hs.take k)),.sl va 247 33 ho.ws.length (cV ho.ws),.sl (vl1 6) 9 1 ho.bx.length (zJ ho.bx),.blk b3 (.cells (ca ho.no ho.gt va vc (vl1 6)) 202),.blk b2 (.cells (ca 0 0 ax ax ax) 202),.blk b1 (.cells (ca ho.no ho.gt vw vh vi) 68)] ww/\nn=ho.hs.length - k/\k<=ho.hs.length) (ho.hs.length - (0)) ⟨0,ax,h.only ⟨rfl,rfl,rfl,rfl,rfl,rfl,rfl,ao rfl (by omega),trivial⟩,s.as ⟨rfl,rfl,rfl,rfl,rfl,rfl,trivial⟩,rfl,aJ3 _⟩ ?_)
  rintro _ f w1 ⟨k,vc,h,s,hnn,hp0⟩
  refine bE ac 1 h rfl λf h=>ah (cB h rfl (λhc=>?_) (λhc=>?_))
  ·refine kt (ah (aL4 (qr ?_)))
   have hkl:k<ho.hs.length:=by omega
   refine ai h (bj (hHo.2.1.keep s.ext) (k) aS4 Xi (h.ev rfl) (h.ev rfl) (by omega) (by omega)) rfl λf h=>ap ((hHo.2.1.keep s.ext).el (k) (by omega) (by decide) (D:=dT (ho.hs.getD k gC)) (BQ _ k hkl)) h Mz rfl (dB _) rfl λf h=>aK (dT gC) h s Sf rfl rfl λf w1 b7 h s=>al 0 h s Mz rfl rfl rfl (dB _) (dB _) (oI _) λw1 s=>nt (rs ac 1 h rfl λf h=>ag (V:=vc) (ae (aJ.of_own s 4 rfl) 3 (Al _ _ _ _ _)) h oB rfl rfl λf h=>am ac 1 h rfl λf h=>ap (aJ.subL (aJ.of_own s 0 rfl) 0 32 (D:=aH (ho.hs.getD k gC).1) (B1 _)) h bW rfl (by first|exact aA _|exact au _ _) rfl λf h=>ai h (qW TQ (h.ev rfl)) rfl λf h=>am ac 1 h rfl λf h=>ag (V:=.int .i64 (ho.hs.getD k gC).2.1) (ae (aJ.of_own s 0 rfl) 32 (tX _)) h bJ rfl rfl λf h=>am ac 1 h rfl λf h=>ag (V:=.int .i64 (ho.hs.getD k gC).2.2) (ae (aJ.of_own s 0 rfl) 33 (lV _)) h bJ rfl rfl λf h=>ai h (BH ZE (h.ev rfl) (h.ev rfl) (h.ev rfl)) rfl λf h=>cf (vs:=[.agg (dT (ho.hs.getD k gC))]) [.tmp 51] h s aS9 J7 rfl rfl (af2 _) rfl rfl rfl λf w1 v52 h s=>dD 2 0 h s aS9 J7 rfl rfl rfl rfl (by decide) (by rw [KK];exact oI _) (by have h9:(ho.hs.take k).length<=k:=(by rw [aL0];omega);unfold maxLen;omega) (by have h9:(ho.hs.take k).length<=k:=(by rw [aL0];omega);omega) rfl λf w1 v53 h s=>?_)
   replace s:=s.pick _ (aJ2 _ _)
   replace s:=s.resl (m:=(ho.hs.take (k+1)).length) (ys:=cU (ho.hs.take (k+1))) 1 rfl (by rw [EE hkl,aH7];rfl) (by rw [EE hkl,KK,Qa])
   refine am ac 1 h rfl λf h=>aM 4 h s oB rfl rfl rfl (by rw [bG];omega) (bk (s.getSl 1 rfl)) λw1 s=>?_
   replace s:=s.recell (D:=ca ho.no ho.gt va v53 (vl1 6)) 4 rfl (rfl)
   refine az (aW (aD (aw (ai h (bo (h.ev rfl) (h.ev rfl) (by omega)) rfl λf h=>e9 ac 1 h rfl λf h=>?_))))
   exact ⟨_,by omega,⟨k+1,v53,h.only ⟨rfl,rfl,rfl,rfl,rfl,rfl,rfl,ao rfl (by omega),trivial⟩,St.as (s.pick _ (aG8 _ (aG7 _ (aG7 _ (aG7 _ (aG7 _ (aG7 _ (aG7 _ (aJ0 _))))))))) ⟨rfl,rfl,rfl,rfl,rfl,rfl,trivial⟩,rfl,by omega⟩⟩
  ·refine aL5 (aO (aO (bS (aD (qr (ak 3 h s oM rfl rfl (bG _ _ _ _ _) rfl λf h=>al 4 h s oM rfl rfl rfl (bG _ _ _ _ _) (bG _ _ _ _ _) (fe _ _ (bk (s.getSl 1 rfl)) (bk (s.getSl 0 rfl)) (hF 6 (by kernel_rfl))) λw1 s=>nt (aL3 (lH 4 rfl h s oM rfl rfl (bG _ _ _ _ _) (by obtain rfl:k=ho.hs.length:=(by omega);rw [List.take_length] at s;exact ⟨_,_,_,rfl,s.sel [1,0,2] rfl (by decide)⟩)))))))))
theorem L4 (n:Int) (w:World):Calls Tryz.prog 198 [.int .i64 n].toArray w (cb w (is (.bool (gU n 0 15)))):=by
 refine bK Tryz.func198 rfl Tryz.ntmps198 rfl λf h s=>bE ac 1 h rfl λf h=>ah ?_
 refine rs ac 1 h rfl λf h=>lL ac h rfl (λh0 f h=>?_) (λh0 f h=>?_)
 ·refine e9 ac 5 h rfl λf h=>aL3 (av rfl h s rfl (by show _=_;unfold gU;rw [h0]<;>rfl))
 ·refine am ac 2 h rfl λf h=>cy h rfl (gW ac (.bool (decide (n<=15))) h rfl (aH3 Value.bool (aI3.2 (by omega))) rfl λf h=>e9 ac 2 h rfl λf h=>aL3 (av rfl h s rfl (by show _=_;unfold gU;rw [h0]<;>rfl)))
theorem Ca (n:Int) (w:World):Calls Tryz.prog 199 [.int .i64 n].toArray w (cb w (is (.bool (gU n 0 15)))):=by
 refine bK Tryz.func199 rfl Tryz.ntmps199 rfl λf h s=>bE ac 1 h rfl λf h=>ah ?_
 refine rs ac 1 h rfl λf h=>lL ac h rfl (λh0 f h=>?_) (λh0 f h=>?_)
 ·refine e9 ac 5 h rfl λf h=>aL3 (av rfl h s rfl (by show _=_;unfold gU;rw [h0]<;>rfl))
 ·refine am ac 2 h rfl λf h=>cy h rfl (gW ac (.bool (decide (n<=15))) h rfl (aH3 Value.bool (aI3.2 (by omega))) rfl λf h=>e9 ac 2 h rfl λf h=>aL3 (av rfl h s rfl (by show _=_;unfold gU;rw [h0]<;>rfl)))
theorem DS (v:Value):Met Tryz.prog 247 v "posthouse/host.right" 166:=λw=>by kernel_rfl
theorem Ek (x:Wn):Qc Tryz.prog 247 (.agg (ef x)) "posthouse/host.id" 171 (.agg (aH x.1)):=λw=>by
 rw [← BZ x];generalize ef x=C;kernel_rfl
theorem C4 (v:Value):Met Tryz.prog 277 v "posthouse/host.right" 416:=λw=>by kernel_rfl
theorem Dr (x:Hn):Qc Tryz.prog 277 (.agg (dT x)) "posthouse/host.id" 171 (.agg (aH x.1)):=λw=>by
 rw [← B1 x];generalize dT x=C;kernel_rfl
theorem yd (y:Wn) (w:World):Calls Tryz.prog 166 [.agg (ef y)].toArray w (cb w (is (.bool (gU y.2 1 1048576)))):=by
 refine bK Tryz.func166 rfl Tryz.ntmps166 rfl λf h s=>qr (aV (ef y) h s rfl rfl rfl λf w1 b1 h s=>e9 ac 1 h rfl λf h=>ah ?_)
 refine rs ac 1 h rfl λf h=>ag (V:=.int .i64 y.2) (ae (aJ.of_own s 0 rfl) 32 (n3 _)) h bJ rfl rfl λf h=>lL ac h rfl (λh0 f h=>?_) (λh0 f h=>?_)
 ·refine e9 ac 6 h rfl λf h=>aL3 (av rfl h s rfl (by show _=_;unfold gU;rw [h0]<;>rfl))
 ·refine am ac 2 h rfl λf h=>cy h rfl (ag (V:=.int .i64 y.2) (ae (aJ.of_own s 0 rfl) 32 (n3 _)) h bJ rfl rfl λf h=>e9 ac 3 h rfl λf h=>aL3 (av rfl h s rfl (by show _=_;unfold gU;rw [h0]<;>rfl)))
theorem mT (x:Id) (w:World):Calls Tryz.prog 171 [iy x].toArray w (cb w (is (iy x))):=by
 refine bK Tryz.func171 rfl Tryz.ntmps171 rfl λf h s=>qr (aV (aH x) h s rfl rfl rfl λf w1 b1 h s=>aK (aH 0#256) h s zn rfl rfl λf w1 b2 h s=>nt (bU ac 1 h rfl λf h=>ap (aJ.subL (aJ.of_own s 1 rfl) 0 32 (D:=aH x) (Cr x)) h bW rfl (by first|exact aA _|exact au _ _) rfl λf h=>al 0 h s bW rfl rfl rfl (by first|exact aA _|exact au _ _) (by first|exact aA _|exact au _ _) (by first|exact k6 _|exact eE _ _) λw1 s=>nt (aL3 (lH 0 rfl h s bW rfl rfl (by first|exact aA _|exact au _ _) (rfl)))))
theorem Kx (l:List Wn) (vh:Value) (g9:Nat) (caps:List Value) (p:Wn->Bool) (w:World) (hR:bs w vh 33 l.length (cV l)) (hln:l.length<=1000) (hg:Fnc Tryz.prog g9) (hp:∀ w9,Ext w w9->∀ x∈l,Calls Tryz.prog g9 (.agg (ef x)::caps).toArray w9 (cb w9 (is (.bool (p x))))):Calls Tryz.prog 224 [vh,.func (.func g9) #[] caps.toArray].toArray w (cb w (λv _=>∃ r:Int,v=.int .i64 r/\((r = -1/\∀ x∈l,p x=false)∨∃ k:Nat,k<l.length/\r=(k:Int)/\p (l.getD k jJ)=true/\∀ i,i<k->p (l.getD i jJ)=false))):=by
 refine bK Tryz.func224 rfl Tryz.ntmps224 rfl λf h s=>bE ac 1 h rfl λf h=>ah (bU ac 1 h rfl λf h=>ck h (hR.keep s.ext) aS8 rfl rfl λf h=>e9 ac 1 h rfl λf h=>aL4 (aL6 (λnn aa ww=>∃ k:Nat,Sl 19 aa [(0,vh),(1,.func (.func g9) #[] caps.toArray),(6,vh),(7,.int .i64 (l.length:Int)),(8,.int .i64 (k:Int))]/\St w [] ww/\nn=l.length - k/\k<=l.length/\∀ i,i<k->p (l.getD i jJ)=false) (l.length - (0)) ⟨0,h.only ⟨rfl,rfl,rfl,rfl,ao rfl (by omega),trivial⟩,s.as trivial,rfl,aJ3 _,λi hi=>aO7 hi (aM6 _)⟩ ?_))
 rintro _ f w1 ⟨k,h,s,hnn,hp0,hp1⟩
 refine bE ac 1 h rfl λf h=>ah (cB h rfl (λhc=>?_) (λhc=>?_))
 ·refine kt (ah (aL4 (bE ac 2 h rfl λf h=>qr ?_)))
  have hkl:k<l.length:=by omega
  refine am ac 3 h rfl λf h=>ai h (bj (hR.keep s.ext) (k) aS8 yM (h.ev rfl) (h.ev rfl) (by omega) (by omega)) rfl λf h=>ap ((hR.keep s.ext).el (k) (by omega) (by decide) (D:=ef (l.getD k jJ)) (LS l k hkl)) h kX rfl (dA _) rfl λf h=>cJ [.agg (ef (l.getD k jJ))] (caps:=caps) h s hg rfl (hp _ s.ext _ (DZ hkl)) rfl rfl ?_;intro f w1 v9 hT hE h s;obtain rfl:=hT
  refine nt (bV h rfl (λhc=>?_) (λhc=>?_))
  ·refine bE ac 2 h rfl λf h=>aL3 (bA (aS (aS (bA (aS (av rfl h s rfl (⟨_,rfl,.inr ⟨k,hkl,rfl,hc,hp1⟩⟩)))))))
  ·refine wpIn_skip (aW (aD (aw (ai h (bo (h.ev rfl) (h.ev rfl) (by omega)) rfl λf h=>e9 ac 1 h rfl λf h=>?_))))
   exact ⟨_,by omega,⟨k+1,h.only ⟨rfl,rfl,rfl,rfl,ao rfl (by omega),trivial⟩,St.as s trivial,rfl,by omega,fF (q:=λj=>p (l.getD j jJ)) hp1 hc⟩⟩
 ·refine aL5 (aO (aO (bS (aD (bE ac 1 h rfl λf h=>aL3 (av rfl h s rfl (⟨_,rfl,.inl ⟨rfl,λx hx=>(by obtain ⟨i,hi,rfl⟩:=Tm hx;exact hp1 i (by omega))⟩⟩)))))))
theorem J9 (y:Wn) (x:Id) (bx:Nat) (w:World) (hb:gq w bx (aH x)):Calls Tryz.prog 225 [.agg (ef y),.pointer (some ⟨bx,0,none⟩)].toArray w (cb w (is (.bool (decide (y.1=x))))):=by
 refine bK Tryz.func225 rfl Tryz.ntmps225 rfl λf h s=>qr (aV (ef y) h s rfl rfl rfl λf w1 b2 h s=>e9 ac 1 h rfl λf h=>ah (dJ 6 h (by kernel_rfl) (aT 0 h s kX rfl rfl (dA _) rfl λf h=>aF h (dt aQ9 rfl (h.ev rfl)) rfl λf h=>mN h qx (Ek _) rfl (λw9 hE9=>mT y.1 w9) rfl ?_)));intro f h
 refine bh (aJ.subL (aJ.of_tab (hb.keep s.ext)) 0 32 (D:=aH x) (Cr x)) h bW rfl (by first|exact aA _|exact au _ _) rfl λf h=>aF h (dC gE (h.ev rfl) (h.ev rfl)) rfl λf h=>ay ac 1 h rfl λf h=>bY s λw1 s=>nt (aL3 (av rfl h s rfl (rfl)))
theorem Ae (l:List Wn) (vh:Value) (x:Id) (w:World) (hR:bs w vh 33 l.length (cV l)) (hln:l.length<=1000):Calls Tryz.prog 167 [vh,iy x].toArray w (cb w (is (.int .i64 (mO (wk l) x)))):=by
 refine bK Tryz.func167 rfl Tryz.ntmps167 rfl λf h s=>qr (aV (aH x) h s rfl rfl rfl λf w1 b3 h s=>e9 ac 1 h rfl λf h=>bU ac 1 h rfl λf h=>ai h (cO [.pointer (some ⟨b3,0,none⟩)] (ke h rfl)) rfl λf h=>aY h s WI (Kx l vh 225 [.pointer (some ⟨b3,0,none⟩)] (λy=>decide (y.1=x)) _ (hR.keep s.ext) hln XL (λw9 h9 y _=>J9 y x b3 w9 ((gq.of_own s 0 rfl).keep h9))) rfl rfl ?_);rintro f w1 v9 ⟨r9,rfl,hr⟩ hE h s;obtain rfl:=ah3 hr
 refine e9 ac 1 h rfl λf h=>aL3 (av rfl h s rfl (rfl))
set_option maxHeartbeats 1000000 in
theorem Iy (l:List Wn) (vh:Value) (w:World) (hR:bs w vh 33 l.length (cV l)) (hln:l.length<=1000):Calls Tryz.prog 200 [vh].toArray w (cb w (is (.bool (IL l)))):=by
 refine bK Tryz.func200 rfl Tryz.ntmps200 rfl λf h s=>bE ac 1 h rfl λf h=>ah (bU ac 1 h rfl λf h=>ck h (hR.keep s.ext) aS8 rfl rfl λf h=>e9 ac 1 h rfl λf h=>bV h rfl (λhc=>?_) (λhc=>?_))
 ·have h8:8<l.length:=by have:=aG9 hc;omega
  refine bE ac 1 h rfl λf h=>rt (av rfl h s rfl (by show _=_;rw [Yd h8]))
 ·have h8:l.length<=8:=by have:=aH0 hc;omega
  refine kt (ah (bU ac 1 h rfl λf h=>ck h (hR.keep s.ext) aS8 rfl rfl λf h=>e9 ac 1 h rfl λf h=>aL4 (aL6 (λnn aa ww=>∃ k:Nat,Sl 30 aa [(8,vh),(9,.int .i64 (l.length:Int)),(10,.int .i64 (k:Int)),(0,vh)]/\St w [] ww/\nn=l.length - k/\k<=l.length/\∀ j,j<k->He l j=true) (l.length - (0)) ⟨0,h.only ⟨rfl,rfl,ao rfl (by omega),rfl,trivial⟩,s.as trivial,rfl,aJ3 _,λj hj=>aO7 hj (aM6 _)⟩ ?_)))
  rintro _ f w1 ⟨k,h,s,hnn,hp0,hp1⟩
  refine bE ac 1 h rfl λf h=>ah (cB h rfl (λhc=>?_) (λhc=>?_))
  ·refine kt (ah (aL4 (bU ac 1 h rfl λf h=>?_)))
   have hkl:k<l.length:=by omega
   refine ai h (bj (hR.keep s.ext) (k) aS8 yM (h.ev rfl) (h.ev rfl) (by omega) (by omega)) rfl λf h=>ap ((hR.keep s.ext).el (k) (by omega) (by decide) (D:=ef (l.getD k jJ)) (LS l k hkl)) h kX rfl (dA _) rfl λf h=>aK (ef jJ) h s OZ rfl rfl λf w1 b4 h s=>am ac 1 h rfl λf h=>al 0 h s kX rfl rfl rfl (dA _) (dA _) (oT _) λw1 s=>nt (ah ?_)
   cases i0:(gU (l.getD k jJ).2 1 1048576:Bool)
   ·refine dJ 14 h (by kernel_rfl) (aT 0 h s kX rfl rfl (dA _) rfl λf h=>aF h (dt aQ9 rfl (h.ev rfl)) rfl λf h=>ny h Ej (DS _) rfl (λw9 hE9=>aR (.bool false) (yd (l.getD k jJ) w9) (aH3 Value.bool i0)) rfl ?_);intro f h
    refine ay ac 11 h rfl λf h=>bY s λw1 s=>iY h rfl (bE ac 1 h rfl λf h=>aL3 (bA (aS (aS (bA (aS (av rfl h s rfl (by show _=_;rw [TX hkl (ab2 i0)]))))))))
   ·skip
    cases q0:(decide (mO (wk l) (l.getD k jJ).1=(k:Int)):Bool)
    ·refine dJ 14 h (by kernel_rfl) (aT 0 h s kX rfl rfl (dA _) rfl λf h=>aF h (dt aQ9 rfl (h.ev rfl)) rfl λf h=>ny h Ej (DS _) rfl (λw9 hE9=>aR (.bool true) (yd (l.getD k jJ) w9) (aH3 Value.bool i0)) rfl ?_);intro f h
     refine ay ac 4 h rfl λf h=>bL h rfl (aF h (eA (hR.keep s.ext) (k) aS8 yM (h.ev rfl) (h.ev rfl) (rfl) (by omega)) rfl λf h=>bL h rfl (aT 0 h s kX rfl rfl (dA _) rfl λf h=>bL h rfl (aF h (dt aQ9 rfl (h.ev rfl)) rfl λf h=>bL h rfl (mN h qx (Ek _) rfl (λw9 hE9=>mT (l.getD k jJ).1 w9) rfl ?_))));intro f h
     refine bL h rfl (bF h M8 (λw9 hE9=>Ae (l.take k) (eT vh k) (l.getD k jJ).1 w9 (ED (hR.keep (s.ext.trans hE9)) k (by omega)) (by rw [aL0];omega)) rfl rfl λf h=>bL h rfl (nD ac h rfl ((Uc hkl).trans (by rw [q0];rfl)) λf h=>ay ac 1 h rfl λf h=>bY s λw1 s=>iY h rfl (bE ac 1 h rfl λf h=>aL3 (bA (aS (aS (bA (aS (av rfl h s rfl (by show _=_;rw [TX hkl (TV i0 q0)]))))))))))
    ·refine dJ 14 h (by kernel_rfl) (aT 0 h s kX rfl rfl (dA _) rfl λf h=>aF h (dt aQ9 rfl (h.ev rfl)) rfl λf h=>ny h Ej (DS _) rfl (λw9 hE9=>aR (.bool true) (yd (l.getD k jJ) w9) (aH3 Value.bool i0)) rfl ?_);intro f h
     refine ay ac 4 h rfl λf h=>bL h rfl (aF h (eA (hR.keep s.ext) (k) aS8 yM (h.ev rfl) (h.ev rfl) (rfl) (by omega)) rfl λf h=>bL h rfl (aT 0 h s kX rfl rfl (dA _) rfl λf h=>bL h rfl (aF h (dt aQ9 rfl (h.ev rfl)) rfl λf h=>bL h rfl (mN h qx (Ek _) rfl (λw9 hE9=>mT (l.getD k jJ).1 w9) rfl ?_))));intro f h
     refine bL h rfl (bF h M8 (λw9 hE9=>Ae (l.take k) (eT vh k) (l.getD k jJ).1 w9 (ED (hR.keep (s.ext.trans hE9)) k (by omega)) (by rw [aL0];omega)) rfl rfl λf h=>bL h rfl (vB ac h rfl ((Uc hkl).trans (by rw [q0];rfl)) λf h=>ay ac 1 h rfl λf h=>bY s λw1 s=>wV h rfl (wpIn_skip (aW (aD (aw (ai h (bo (h.ev rfl) (h.ev rfl) (by omega)) rfl λf h=>e9 ac 1 h rfl λf h=>?_)))))))
     exact ⟨_,by omega,⟨k+1,h.only ⟨rfl,rfl,ao rfl (by omega),rfl,trivial⟩,St.as (s.pick _ (aI8 [_] _)) trivial,rfl,by omega,gv hp1 (TV i0 q0)⟩⟩
  ·refine aL5 (aO (aO (bS (aD (bE ac 1 h rfl λf h=>aL3 (av rfl h s rfl (by show _=_;rw [Vq h8 (λj hj=>hp1 j (by omega))])))))))
theorem xe (n:Int) (w:World):Calls Tryz.prog 170 [.int .i64 n].toArray w (cb w (is (.bool (gU n 0 1099511627776)))):=by
 refine bK Tryz.func170 rfl Tryz.ntmps170 rfl λf h s=>bE ac 1 h rfl λf h=>ah ?_
 refine rs ac 1 h rfl λf h=>lL ac h rfl (λh0 f h=>?_) (λh0 f h=>?_)
 ·refine e9 ac 5 h rfl λf h=>aL3 (av rfl h s rfl (by show _=_;unfold gU;rw [h0]<;>rfl))
 ·refine e9 ac 5 h rfl λf h=>aL3 (av rfl h s rfl (by show _=_;unfold gU;rw [h0]<;>rfl))
theorem yo (y:Hn) (w:World):Calls Tryz.prog 416 [.agg (dT y)].toArray w (cb w (is (.bool (SX y)))):=by
 refine bK Tryz.func416 rfl Tryz.ntmps416 rfl λf h s=>qr (aV (dT y) h s rfl rfl rfl λf w1 b1 h s=>e9 ac 1 h rfl λf h=>ah ?_)
 refine rs ac 1 h rfl λf h=>ag (V:=.int .i64 y.2.1) (ae (aJ.of_own s 0 rfl) 32 (tX _)) h bJ rfl rfl λf h=>fh h s JQ (Ca y.2.1 _) rfl rfl (λh0 f w1 h s=>?_) (λh0 f w1 h s=>?_)
 ·refine e9 ac 6 h rfl λf h=>aL3 (av rfl h s rfl (by show _=_;unfold SX;rw [h0]<;>rfl))
 ·refine am ac 2 h rfl λf h=>cy h rfl (ag (V:=.int .i64 y.2.2) (ae (aJ.of_own s 0 rfl) 33 (lV _)) h bJ rfl rfl λf h=>cy h rfl (dF h s JB (xe y.2.2 _) rfl rfl λf w1 h s=>e9 ac 2 h rfl λf h=>aL3 (av rfl h s rfl (by show _=_;unfold SX;rw [h0]<;>rfl))))
theorem K1 (l:List Hn) (vh:Value) (g9:Nat) (caps:List Value) (p:Hn->Bool) (w:World) (hR:bs w vh 34 l.length (cU l)) (hln:l.length<=1000) (hg:Fnc Tryz.prog g9) (hp:∀ w9,Ext w w9->∀ x∈l,Calls Tryz.prog g9 (.agg (dT x)::caps).toArray w9 (cb w9 (is (.bool (p x))))):Calls Tryz.prog 284 [vh,.func (.func g9) #[] caps.toArray].toArray w (cb w (λv _=>∃ r:Int,v=.int .i64 r/\((r = -1/\∀ x∈l,p x=false)∨∃ k:Nat,k<l.length/\r=(k:Int)/\p (l.getD k gC)=true/\∀ i,i<k->p (l.getD i gC)=false))):=by
 refine bK Tryz.func284 rfl Tryz.ntmps284 rfl λf h s=>bE ac 1 h rfl λf h=>ah (bU ac 1 h rfl λf h=>ck h (hR.keep s.ext) aS9 rfl rfl λf h=>e9 ac 1 h rfl λf h=>aL4 (aL6 (λnn aa ww=>∃ k:Nat,Sl 19 aa [(0,vh),(1,.func (.func g9) #[] caps.toArray),(6,vh),(7,.int .i64 (l.length:Int)),(8,.int .i64 (k:Int))]/\St w [] ww/\nn=l.length - k/\k<=l.length/\∀ i,i<k->p (l.getD i gC)=false) (l.length - (0)) ⟨0,h.only ⟨rfl,rfl,rfl,rfl,ao rfl (by omega),trivial⟩,s.as trivial,rfl,aJ3 _,λi hi=>aO7 hi (aM6 _)⟩ ?_))
 rintro _ f w1 ⟨k,h,s,hnn,hp0,hp1⟩
 refine bE ac 1 h rfl λf h=>ah (cB h rfl (λhc=>?_) (λhc=>?_))
 ·refine kt (ah (aL4 (bE ac 2 h rfl λf h=>qr ?_)))
  have hkl:k<l.length:=by omega
  refine am ac 3 h rfl λf h=>ai h (bj (hR.keep s.ext) (k) aS9 oL (h.ev rfl) (h.ev rfl) (by omega) (by omega)) rfl λf h=>ap ((hR.keep s.ext).el (k) (by omega) (by decide) (D:=dT (l.getD k gC)) (BQ l k hkl)) h lm rfl (dB _) rfl λf h=>cJ [.agg (dT (l.getD k gC))] (caps:=caps) h s hg rfl (hp _ s.ext _ (yQ hkl)) rfl rfl ?_;intro f w1 v9 hT hE h s;obtain rfl:=hT
  refine nt (bV h rfl (λhc=>?_) (λhc=>?_))
  ·refine bE ac 2 h rfl λf h=>aL3 (bA (aS (aS (bA (aS (av rfl h s rfl (⟨_,rfl,.inr ⟨k,hkl,rfl,hc,hp1⟩⟩)))))))
  ·refine wpIn_skip (aW (aD (aw (ai h (bo (h.ev rfl) (h.ev rfl) (by omega)) rfl λf h=>e9 ac 1 h rfl λf h=>?_))))
   exact ⟨_,by omega,⟨k+1,h.only ⟨rfl,rfl,rfl,rfl,ao rfl (by omega),trivial⟩,St.as s trivial,rfl,by omega,fF (q:=λj=>p (l.getD j gC)) hp1 hc⟩⟩
 ·refine aL5 (aO (aO (bS (aD (bE ac 1 h rfl λf h=>aL3 (av rfl h s rfl (⟨_,rfl,.inl ⟨rfl,λx hx=>(by obtain ⟨i,hi,rfl⟩:=Tb hx;exact hp1 i (by omega))⟩⟩)))))))
theorem LH (y:Hn) (x:Id) (bx:Nat) (w:World) (hb:gq w bx (aH x)):Calls Tryz.prog 285 [.agg (dT y),.pointer (some ⟨bx,0,none⟩)].toArray w (cb w (is (.bool (decide (y.1=x))))):=by
 refine bK Tryz.func285 rfl Tryz.ntmps285 rfl λf h s=>qr (aV (dT y) h s rfl rfl rfl λf w1 b2 h s=>e9 ac 1 h rfl λf h=>ah (dJ 6 h (by kernel_rfl) (aT 0 h s lm rfl rfl (dB _) rfl λf h=>aF h (dt aR1 rfl (h.ev rfl)) rfl λf h=>mN h qx (Dr _) rfl (λw9 hE9=>mT y.1 w9) rfl ?_)));intro f h
 refine bh (aJ.subL (aJ.of_tab (hb.keep s.ext)) 0 32 (D:=aH x) (Cr x)) h bW rfl (by first|exact aA _|exact au _ _) rfl λf h=>aF h (dC gE (h.ev rfl) (h.ev rfl)) rfl λf h=>ay ac 1 h rfl λf h=>bY s λw1 s=>nt (aL3 (av rfl h s rfl (rfl)))
theorem sQ (l:List Hn) (vh:Value) (x:Id) (w:World) (hR:bs w vh 34 l.length (cU l)) (hln:l.length<=1000):Calls Tryz.prog 228 [vh,iy x].toArray w (cb w (is (.int .i64 (mO (hk l) x)))):=by
 refine bK Tryz.func228 rfl Tryz.ntmps228 rfl λf h s=>qr (aV (aH x) h s rfl rfl rfl λf w1 b3 h s=>e9 ac 1 h rfl λf h=>bU ac 1 h rfl λf h=>ai h (cO [.pointer (some ⟨b3,0,none⟩)] (ke h rfl)) rfl λf h=>aY h s XY (K1 l vh 285 [.pointer (some ⟨b3,0,none⟩)] (λy=>decide (y.1=x)) _ (hR.keep s.ext) hln WZ (λw9 h9 y _=>LH y x b3 w9 ((gq.of_own s 0 rfl).keep h9))) rfl rfl ?_);rintro f w1 v9 ⟨r9,rfl,hr⟩ hE h s;obtain rfl:=Y0 hr
 refine e9 ac 1 h rfl λf h=>aL3 (av rfl h s rfl (rfl))
set_option maxHeartbeats 1000000 in
theorem IH (l:List Hn) (vh:Value) (w:World) (hR:bs w vh 34 l.length (cU l)) (hln:l.length<=1000):Calls Tryz.prog 201 [vh].toArray w (cb w (is (.bool (Og l)))):=by
 refine bK Tryz.func201 rfl Tryz.ntmps201 rfl λf h s=>bE ac 1 h rfl λf h=>ah (bU ac 1 h rfl λf h=>ck h (hR.keep s.ext) aS9 rfl rfl λf h=>e9 ac 1 h rfl λf h=>bV h rfl (λhc=>?_) (λhc=>?_))
 ·have h8:8<l.length:=by have:=aG9 hc;omega
  refine bE ac 1 h rfl λf h=>rt (av rfl h s rfl (by show _=_;rw [VP h8]))
 ·have h8:l.length<=8:=by have:=aH0 hc;omega
  refine kt (ah (bU ac 1 h rfl λf h=>ck h (hR.keep s.ext) aS9 rfl rfl λf h=>e9 ac 1 h rfl λf h=>aL4 (aL6 (λnn aa ww=>∃ k:Nat,Sl 30 aa [(8,vh),(9,.int .i64 (l.length:Int)),(10,.int .i64 (k:Int)),(0,vh)]/\St w [] ww/\nn=l.length - k/\k<=l.length/\∀ j,j<k->oo l j=true) (l.length - (0)) ⟨0,h.only ⟨rfl,rfl,ao rfl (by omega),rfl,trivial⟩,s.as trivial,rfl,aJ3 _,λj hj=>aO7 hj (aM6 _)⟩ ?_)))
  rintro _ f w1 ⟨k,h,s,hnn,hp0,hp1⟩
  refine bE ac 1 h rfl λf h=>ah (cB h rfl (λhc=>?_) (λhc=>?_))
  ·refine kt (ah (aL4 (bU ac 1 h rfl λf h=>?_)))
   have hkl:k<l.length:=by omega
   refine ai h (bj (hR.keep s.ext) (k) aS9 oL (h.ev rfl) (h.ev rfl) (by omega) (by omega)) rfl λf h=>ap ((hR.keep s.ext).el (k) (by omega) (by decide) (D:=dT (l.getD k gC)) (BQ l k hkl)) h lm rfl (dB _) rfl λf h=>aK (dT gC) h s Ss rfl rfl λf w1 b4 h s=>am ac 1 h rfl λf h=>al 0 h s lm rfl rfl rfl (dB _) (dB _) (oI _) λw1 s=>nt (ah ?_)
   cases i0:(SX (l.getD k gC):Bool)
   ·refine dJ 14 h (by kernel_rfl) (aT 0 h s lm rfl rfl (dB _) rfl λf h=>aF h (dt aR1 rfl (h.ev rfl)) rfl λf h=>ny h Ei (C4 _) rfl (λw9 hE9=>aR (.bool false) (yo (l.getD k gC) w9) (aH3 Value.bool i0)) rfl ?_);intro f h
    refine ay ac 11 h rfl λf h=>bY s λw1 s=>iY h rfl (bE ac 1 h rfl λf h=>aL3 (bA (aS (aS (bA (aS (av rfl h s rfl (by show _=_;rw [Ur hkl (Zy i0)]))))))))
   ·skip
    cases q0:(decide (mO (hk l) (l.getD k gC).1=(k:Int)):Bool)
    ·refine dJ 14 h (by kernel_rfl) (aT 0 h s lm rfl rfl (dB _) rfl λf h=>aF h (dt aR1 rfl (h.ev rfl)) rfl λf h=>ny h Ei (C4 _) rfl (λw9 hE9=>aR (.bool true) (yo (l.getD k gC) w9) (aH3 Value.bool i0)) rfl ?_);intro f h
     refine ay ac 4 h rfl λf h=>bL h rfl (aF h (eA (hR.keep s.ext) (k) aS9 oL (h.ev rfl) (h.ev rfl) (rfl) (by omega)) rfl λf h=>bL h rfl (aT 0 h s lm rfl rfl (dB _) rfl λf h=>bL h rfl (aF h (dt aR1 rfl (h.ev rfl)) rfl λf h=>bL h rfl (mN h qx (Dr _) rfl (λw9 hE9=>mT (l.getD k gC).1 w9) rfl ?_))));intro f h
     refine bL h rfl (bF h Dj (λw9 hE9=>sQ (l.take k) (eT vh k) (l.getD k gC).1 w9 (Fl (hR.keep (s.ext.trans hE9)) k (by omega)) (by rw [aL0];omega)) rfl rfl λf h=>bL h rfl (nD ac h rfl ((Tt hkl).trans (by rw [q0];rfl)) λf h=>ay ac 1 h rfl λf h=>bY s λw1 s=>iY h rfl (bE ac 1 h rfl λf h=>aL3 (bA (aS (aS (bA (aS (av rfl h s rfl (by show _=_;rw [Ur hkl (S3 i0 q0)]))))))))))
    ·refine dJ 14 h (by kernel_rfl) (aT 0 h s lm rfl rfl (dB _) rfl λf h=>aF h (dt aR1 rfl (h.ev rfl)) rfl λf h=>ny h Ei (C4 _) rfl (λw9 hE9=>aR (.bool true) (yo (l.getD k gC) w9) (aH3 Value.bool i0)) rfl ?_);intro f h
     refine ay ac 4 h rfl λf h=>bL h rfl (aF h (eA (hR.keep s.ext) (k) aS9 oL (h.ev rfl) (h.ev rfl) (rfl) (by omega)) rfl λf h=>bL h rfl (aT 0 h s lm rfl rfl (dB _) rfl λf h=>bL h rfl (aF h (dt aR1 rfl (h.ev rfl)) rfl λf h=>bL h rfl (mN h qx (Dr _) rfl (λw9 hE9=>mT (l.getD k gC).1 w9) rfl ?_))));intro f h
     refine bL h rfl (bF h Dj (λw9 hE9=>sQ (l.take k) (eT vh k) (l.getD k gC).1 w9 (Fl (hR.keep (s.ext.trans hE9)) k (by omega)) (by rw [aL0];omega)) rfl rfl λf h=>bL h rfl (vB ac h rfl ((Tt hkl).trans (by rw [q0];rfl)) λf h=>ay ac 1 h rfl λf h=>bY s λw1 s=>wV h rfl (wpIn_skip (aW (aD (aw (ai h (bo (h.ev rfl) (h.ev rfl) (by omega)) rfl λf h=>e9 ac 1 h rfl λf h=>?_)))))))
     exact ⟨_,by omega,⟨k+1,h.only ⟨rfl,rfl,ao rfl (by omega),rfl,trivial⟩,St.as (s.pick _ (aI8 [_] _)) trivial,rfl,by omega,gv hp1 (S3 i0 q0)⟩⟩
  ·refine aL5 (aO (aO (bS (aD (bE ac 1 h rfl λf h=>aL3 (av rfl h s rfl (by show _=_;rw [Wb h8 (λj hj=>hp1 j (by omega))])))))))
theorem Ij (sx:ByteArray) (w:World):Calls Tryz.prog 197 [.string sx].toArray w (cb w (is (.bool (wz sx)))):=by
 refine bK Tryz.func197 rfl Tryz.ntmps197 rfl λf h s=>bE ac 1 h rfl λf h=>bU ac 1 h rfl λf h=>ai h (dU aR4 (h.ev rfl)) rfl λf h=>gW ac (.bool (wz sx)) h rfl (aH3 Value.bool (aI3.2 (by omega))) rfl λf h=>e9 ac 1 h rfl λf h=>aL3 (av rfl h s rfl (rfl))
theorem JE (l:List ByteArray) (vh:Value) (w:World) (hR:bs w vh 1 l.length (zJ l)) (hln:l.length<=1000):Calls Tryz.prog 241 [vh,.func (.func 197) #[] #[]].toArray w (cb w (λv _=>∃ r:Int,v=.int .i64 r/\((r = -1/\∀ x∈l,wz x=false)∨∃ k:Nat,k<l.length/\r=(k:Int)/\wz (l.getD k ByteArray.empty)=true))):=by
 refine bK Tryz.func241 rfl Tryz.ntmps241 rfl λf h s=>bE ac 1 h rfl λf h=>ah (bU ac 1 h rfl λf h=>ck h (hR.keep s.ext) aS5 rfl rfl λf h=>e9 ac 1 h rfl λf h=>aL4 (aL6 (λnn aa ww=>∃ k:Nat,Sl 19 aa [(0,vh),(1,.func (.func 197) #[] #[]),(6,vh),(7,.int .i64 (l.length:Int)),(8,.int .i64 (k:Int))]/\St w [] ww/\nn=l.length - k/\k<=l.length/\∀ i,i<k->wz (l.getD i ByteArray.empty)=false) (l.length - (0)) ⟨0,h.only ⟨rfl,rfl,rfl,rfl,ao rfl (by omega),trivial⟩,s.as trivial,rfl,aJ3 _,λi hi=>aO7 hi (aM6 _)⟩ ?_))
 rintro _ f w1 ⟨k,h,s,hnn,hp0,hp1⟩
 refine bE ac 1 h rfl λf h=>ah (cB h rfl (λhc=>?_) (λhc=>?_))
 ·refine kt (ah (aL4 (bE ac 2 h rfl λf h=>qr ?_)))
  have hkl:k<l.length:=by omega
  refine am ac 3 h rfl λf h=>ai h (bj (hR.keep s.ext) (k) aS5 at1 (h.ev rfl) (h.ev rfl) (by omega) (by omega)) rfl λf h=>ag ((hR.keep s.ext).el1 (k) (V:=.string (l.getD k ByteArray.empty)) (VA hkl)) h jv rfl rfl λf h=>cJ [.string (l.getD k ByteArray.empty)] (caps:=[]) h s Xp rfl (Ij _ _) rfl rfl ?_;intro f w1 v16 hT hE h s;obtain rfl:=hT
  refine nt (bV h rfl (λhc=>?_) (λhc=>?_))
  ·have hc:wz (l.getD k ByteArray.empty)=true:=hc
   refine bE ac 2 h rfl λf h=>aL3 (bA (aS (aS (bA (aS (av rfl h s rfl (⟨_,rfl,.inr ⟨k,hkl,rfl,hc⟩⟩)))))))
  ·have hc:wz (l.getD k ByteArray.empty)=false:=hc
   refine wpIn_skip (aW (aD (aw (ai h (bo (h.ev rfl) (h.ev rfl) (by omega)) rfl λf h=>e9 ac 1 h rfl λf h=>?_))))
   exact ⟨_,by omega,⟨k+1,h.only ⟨rfl,rfl,rfl,rfl,ao rfl (by omega),trivial⟩,St.as s trivial,rfl,by omega,fF (q:=λj=>wz (l.getD j ByteArray.empty)) hp1 hc⟩⟩
 ·refine aL5 (aO (aO (bS (aD (bE ac 1 h rfl λf h=>aL3 (av rfl h s rfl (⟨_,rfl,.inl ⟨rfl,λx hx=>(by obtain ⟨i,hi,rfl⟩:=List.mem_iff_getElem.1 hx;rw [stD hi];exact hp1 i (by omega))⟩⟩)))))))
theorem JO (l:List ByteArray) (vh:Value) (w:World) (hR:bs w vh 1 l.length (zJ l)) (hln:l.length<=1000):Calls Tryz.prog 202 [vh,.func (.func 197) #[] #[]].toArray w (cb w (is (.bool (l.any wz)))):=by
 refine bK Tryz.func202 rfl Tryz.ntmps202 rfl λf h s=>bE ac 1 h rfl λf h=>bU ac 2 h rfl λf h=>aY h s XV (JE l vh _ (hR.keep s.ext) hln) rfl rfl ?_;rintro f w1 v9 ⟨r9,rfl,hr⟩ hE h s
 refine gW ac (.bool (l.any wz)) h rfl (aH3 Value.bool (VC hr)) rfl λf h=>e9 ac 1 h rfl λf h=>aL3 (av rfl h s rfl (rfl))
theorem EU (ho:Ho) (vw vh vi:Value)  (w:World) (hHo:pE w vw vh vi ho) (hB9:ho.ws.length<=1000/\ho.hs.length<=1000/\ho.bx.length<=1000):Calls Tryz.prog 126 [.agg (ca ho.no ho.gt vw vh vi)].toArray w (cb w (is (.bool (dc ho)))):=by
 obtain ⟨hw9,hh9,hi9⟩:=hB9
 refine bK Tryz.func126 rfl Tryz.ntmps126 rfl λf h s=>qr (aV (ca ho.no ho.gt vw vh vi) h s rfl rfl rfl λf w1 b1 h s=>e9 ac 1 h rfl λf h=>bE ac 1 h rfl λf h=>ah ?_)
 refine rs ac 1 h rfl λf h=>ag (V:=.int .i64 ho.no) (ae (aJ.of_own s 0 rfl) 0 (O3 _ _ _ _ _)) h bJ rfl rfl λf h=>fh h s Vu (L4 ho.no _) rfl rfl (λb0 f w1 h s=>?_) (λb0 f w1 h s=>?_)
 ·refine e9 ac 29 h rfl λf h=>aL3 (av rfl h s rfl (by show _=_;rw [ag9 b0]))
 ·skip
  refine am ac 2 h rfl λf h=>cy h rfl (ag (V:=.int .i64 ho.gt) (ae (aJ.of_own s 0 rfl) 1 (Ow _ _ _ _ _)) h bJ rfl rfl λf h=>cy h rfl (fh h s JQ (Ca ho.gt _) rfl rfl (λb1 f w1 h s=>?_) (λb1 f w1 h s=>?_)))
  ·refine e9 ac 25 h rfl λf h=>aL3 (av rfl h s rfl (by show _=_;rw [YP b0 b1]))
  ·skip
   refine am ac 3 h rfl λf h=>cy h rfl (ag (V:=vw) (ae (aJ.of_own s 0 rfl) 2 (R0 _ _ _ _ _)) h Du rfl rfl λf h=>cy h rfl (fh h s VB (Iy ho.ws vw _ (hHo.1.keep s.ext) hw9) rfl rfl (λb2 f w1 h s=>?_) (λb2 f w1 h s=>?_)))
   ·refine e9 ac 20 h rfl λf h=>aL3 (av rfl h s rfl (by show _=_;rw [ad4 b0 b1 b2]))
   ·skip
    refine am ac 3 h rfl λf h=>cy h rfl (ag (V:=vh) (ae (aJ.of_own s 0 rfl) 3 (Al _ _ _ _ _)) h oB rfl rfl λf h=>cy h rfl (fh h s X9 (IH ho.hs vh _ (hHo.2.1.keep s.ext) hh9) rfl rfl (λb3 f w1 h s=>?_) (λb3 f w1 h s=>?_)))
    ·refine e9 ac 15 h rfl λf h=>aL3 (av rfl h s rfl (by show _=_;rw [aj6 b0 b1 b2 b3]))
    ·skip
     refine am ac 3 h rfl λf h=>cy h rfl (ag (V:=vi) (ae (aJ.of_own s 0 rfl) 4 (SH _ _ _ _ _)) h wX rfl rfl λf h=>cy h rfl (ck h (hHo.2.2.keep s.ext) aS5 rfl rfl λf h=>cy h rfl (j8 ac (decide (ho.bx.length<=32)) h rfl ((aI3.2 (by omega))) (λb4 f h=>?_) (λb4 f h=>?_))))
     ·refine e9 ac 9 h rfl λf h=>aL3 (av rfl h s rfl (by show _=_;rw [TS b0 b1 b2 b3 b4];rfl))
     ·refine am ac 3 h rfl λf h=>cy h rfl (ag (V:=vi) (ae (aJ.of_own s 0 rfl) 4 (SH _ _ _ _ _)) h wX rfl rfl λf h=>am ac 1 h rfl λf h=>cy h rfl (dF h s VS (JO ho.bx vi _ (hHo.2.2.keep s.ext) hi9) rfl rfl λf w1 h s=>e9 ac 3 h rfl λf h=>aL3 (av rfl h s rfl (by show _=_;rw [TS b0 b1 b2 b3 b4];rfl))))
theorem oC (ho:Ho) (vw vh vi:Value)  (w:World) (hHo:pE w vw vh vi ho) (hB9:B9 ho):Calls Tryz.prog 72 [.agg (ca ho.no ho.gt vw vh vi)].toArray w (cb w (is (.bool (dc ho)))):=by
 obtain ⟨hw9,hh9,hi9⟩:=hB9
 refine bK Tryz.func72 rfl Tryz.ntmps72 rfl λf h s=>qr (aV (ca ho.no ho.gt vw vh vi) h s rfl rfl rfl λf w1 b1 h s=>e9 ac 1 h rfl λf h=>qr (ak 0 h s gc rfl rfl (bG _ _ _ _ _) rfl λf h=>aY h s K7 (vW ho vw vh vi _ (hHo.keep s.ext) ⟨hw9,hh9,hi9⟩) rfl rfl ?_));rintro f w1 v4 ⟨oa,ob,oc,rfl,hO⟩ hE h sq;replace s:=s.add hO;clear hO
 have ho1:=bI (bs.of_own (s.getSl 0 rfl))
 have ho2:=bI (bs.of_own (s.getSl 1 rfl))
 have ho3:=bI (bs.of_own (s.getSl 2 rfl))
 obtain ⟨ko,s⟩:=KY s
 refine dF h s KP (EU ho oa ob oc _ (s.getG 0 rfl) ⟨hw9,hh9,hi9⟩) rfl rfl λf w1 h s=>e9 ac 1 h rfl λf h=>aL3 (av rfl h s rfl (rfl))
theorem K3 (n g:Int) (w:World):Calls Tryz.prog 107 [.int .i64 n,.int .i64 g].toArray w (cb w (HoP w ax ax ax sO (jl n g) (qn n g))):=by
 refine bK Tryz.func107 rfl Tryz.ntmps107 rfl λf h s=>qr (aK (ca 0 0 ax ax ax) h s uJ rfl rfl λf w1 b4 h s=>e9 ac 1 h rfl λf h=>bU ac 2 h rfl λf h=>ai h (yv Tj (h.ev rfl) (h.ev rfl)) rfl λf h=>aK (ca 0 0 ax ax ax) h s uJ rfl rfl λf w1 b6 h s=>al 0 h s gc rfl rfl rfl (bG _ _ _ _ _) (bG _ _ _ _ _) (fe _ _ (rfl) (rfl) (rfl)) λw1 s=>nt (ah (ah ?_)))
 refine aw (ak 0 h s gc rfl rfl (bG _ _ _ _ _) rfl λf h=>fh h s Lw (oC ⟨n,g,[],[],[]⟩ ax ax ax _ (kR _ n g) ⟨aJ3 _,aJ3 _,aJ3 _⟩) rfl rfl (λr0 f w1 h s=>?_) (λr0 f w1 h s=>?_))
 ·refine e9 ac 1 h rfl λf h=>dG h rfl (qr (ai h (xN Tj) rfl λf h=>al 1 h s gc rfl rfl rfl (bG _ _ _ _ _) (bG _ _ _ _ _) (fe _ _ (rfl) (rfl) (rfl)) λw1 s=>e9 ac 1 h rfl λf h=>rt (cc 1 rfl h s gc rfl rfl (bG _ _ _ _ _) rfl (by obtain ⟨e1,e2⟩:=XF ((Oi n g).symm.trans r0);rw [e1,e2];exact Rl rfl rfl (s.pick _ (aJ0 _))))))
 ·refine e9 ac 1 h rfl λf h=>nH h rfl (qr (ak 0 h s gc rfl rfl (bG _ _ _ _ _) rfl λf h=>al 1 h s gc rfl rfl rfl (bG _ _ _ _ _) (bG _ _ _ _ _) (fe _ _ (rfl) (rfl) (rfl)) λw1 s=>e9 ac 1 h rfl λf h=>aL3 (cc 1 rfl h s gc rfl rfl (bG _ _ _ _ _) rfl (by obtain ⟨e1,e2⟩:=ae7 ((Oi n g).symm.trans r0);rw [e1,e2];exact Rw (s.pick _ (aJ0 _))))))
theorem NF (ho:Ho) (vw vh vi:Value) (x:Id) (now:Int) (w:World) (hHo:pE w vw vh vi ho) (hB9:ho.ws.length<=1000/\ho.hs.length<=1000/\ho.bx.length<=1000):Calls Tryz.prog 173 [.agg (ca ho.no ho.gt vw vh vi),iy x,.int .i64 now].toArray w (cb w (is (.int .i64 (qv ho x now)))):=by
 obtain ⟨hw9,hh9,hi9⟩:=hB9
 refine bK Tryz.func173 rfl Tryz.ntmps173 rfl λf h s=>qr (aV (ca ho.no ho.gt vw vh vi) h s rfl rfl rfl λf w1 b3 h s=>aV (aH x) h s rfl rfl rfl λf w1 b4 h s=>e9 ac 1 h rfl λf h=>bU ac 1 h rfl λf h=>ag (V:=vh) (ae (aJ.of_own s 1 rfl) 3 (Al _ _ _ _ _)) h oB rfl rfl λf h=>ak 0 h s bW rfl rfl (by first|exact aA _|exact au _ _) rfl λf h=>dF h s Dj (aR (.int .i64 (pD ho x)) (sQ ho.hs vh x _ (hHo.2.1.keep s.ext) hh9) (rfl)) rfl rfl λf w1 h s=>e9 ac 1 h rfl λf h=>ah (ah ?_))
 refine rs ac 1 h rfl λf h=>lL ac h rfl (λd0 f h=>?_) (λd0 f h=>?_)
 ·refine e9 ac 10 h rfl λf h=>nH h rfl (bU ac 1 h rfl λf h=>ag (V:=.int .i64 ho.gt) (ae (aJ.of_own s 1 rfl) 1 (Ow _ _ _ _ _)) h bJ rfl rfl λf h=>e9 ac 1 h rfl λf h=>aL3 (av rfl h s rfl (by show _=_;rw [VD d0])))
 ·skip
  cases d1:(decide (now<(ho.hs.getD (pD ho x).toNat gC).2.2):Bool)
  ·refine am ac 1 h rfl λf h=>cy h rfl ?_
   have hpos:=(jz d0).2
   refine am ac 1 h rfl λf h=>cy h rfl (ag (V:=vh) (ae (aJ.of_own s 1 rfl) 3 (Al _ _ _ _ _)) h oB rfl rfl λf h=>am ac 1 h rfl λf h=>cy h rfl (ai h (bj (hHo.2.1.keep s.ext) ((pD ho x).toNat) aS9 oL (h.ev rfl) (h.ev rfl) ((jz d0).1) ((jz d0).2)) rfl λf h=>cy h rfl (ai h (bq uG (h.ev rfl) ((hHo.2.1.keep s.ext).some (by omega))) rfl λf h=>cy h rfl (ag (V:=.int .i64 (ho.hs.getD (pD ho x).toNat gC).2.2) (er (hHo.2.1.keep s.ext) ((pD ho x).toNat*34+33) (MS _ _ (jz d0).2)) h bJ rfl rfl λf h=>am ac 1 h rfl λf h=>cy h rfl (lj ac h rfl ((aI3.2 (by omega)).trans d1) λf h=>e9 ac 1 h rfl λf h=>nH h rfl (bU ac 1 h rfl λf h=>ag (V:=.int .i64 ho.gt) (ae (aJ.of_own s 1 rfl) 1 (Ow _ _ _ _ _)) h bJ rfl rfl λf h=>e9 ac 1 h rfl λf h=>aL3 (av rfl h s rfl (by show _=_;rw [Xb d1]))))))))
  ·refine am ac 1 h rfl λf h=>cy h rfl ?_
   have hpos:=(jz d0).2
   refine am ac 1 h rfl λf h=>cy h rfl (ag (V:=vh) (ae (aJ.of_own s 1 rfl) 3 (Al _ _ _ _ _)) h oB rfl rfl λf h=>am ac 1 h rfl λf h=>cy h rfl (ai h (bj (hHo.2.1.keep s.ext) ((pD ho x).toNat) aS9 oL (h.ev rfl) (h.ev rfl) ((jz d0).1) ((jz d0).2)) rfl λf h=>cy h rfl (ai h (bq uG (h.ev rfl) ((hHo.2.1.keep s.ext).some (by omega))) rfl λf h=>cy h rfl (ag (V:=.int .i64 (ho.hs.getD (pD ho x).toNat gC).2.2) (er (hHo.2.1.keep s.ext) ((pD ho x).toNat*34+33) (MS _ _ (jz d0).2)) h bJ rfl rfl λf h=>am ac 1 h rfl λf h=>cy h rfl (jK ac h rfl ((aI3.2 (by omega)).trans d1) λf h=>e9 ac 1 h rfl λf h=>dG h rfl (bU ac 1 h rfl λf h=>ag (V:=vh) (ae (aJ.of_own s 1 rfl) 3 (Al _ _ _ _ _)) h oB rfl rfl λf h=>am ac 1 h rfl λf h=>ai h (bj (hHo.2.1.keep s.ext) ((pD ho x).toNat) aS9 oL (h.ev rfl) (h.ev rfl) ((jz d0).1) ((jz d0).2)) rfl λf h=>ai h (bq AR (h.ev rfl) ((hHo.2.1.keep s.ext).some (by omega))) rfl λf h=>ag (V:=.int .i64 (ho.hs.getD (pD ho x).toNat gC).2.1) (er (hHo.2.1.keep s.ext) ((pD ho x).toNat*34+32) (WH _ _ (jz d0).2)) h bJ rfl rfl λf h=>e9 ac 1 h rfl λf h=>rt (av rfl h s rfl (by show _=_;rw [af3 d0 d1]))))))))
theorem PI (l:List dN) (hln:l.length<=1000) (a9:Option Addr) (n9 c9:Nat) (w:World) (hR:bs w (.slice a9 n9 c9) 34 l.length (ed l)):Calls Tryz.prog 176 [.slice a9 n9 c9].toArray w (cb w (λv w'=>cF w' w.heap.size 47 34 v l.length (ed l))):=by
 refine bK Tryz.func176 rfl Tryz.ntmps176 rfl λf h s=>bE ac 1 h rfl λf h=>ah (ah ?_)
 cases hn:(a9.isNone:Bool)
 ·refine rs ac 1 h rfl λf h=>ai h (bz (.bool false) (ct aS1 (h.ev rfl) (h.ev rfl)) (aH3 Value.bool hn)) rfl λf h=>gS h rfl (qr (fB (base:=w.heap.size) h aS1 F4 (aJ1 _) rfl λf w2 v5 h hE3 e5=>am ac 1 h rfl λf h=>dZ (base:=w.heap.size) e5 (hR.keep hE3) h aS1 F4 rfl rfl hE3.le (z7 _) (by unfold maxLen;omega) (by omega) rfl λf w3 v7 h hE4 e7=>?_))
  replace s:=s.sl_new (hE3.trans hE4) e7
  refine e9 ac 1 h rfl λf h=>aL3 (av rfl h s rfl (s.getSl 0 rfl))
 ·refine rs ac 1 h rfl λf h=>ai h (bz (.bool true) (ct aS1 (h.ev rfl) (h.ev rfl)) (aH3 Value.bool hn)) rfl λf h=>iY h rfl (bE ac 1 h rfl λf h=>rt (av rfl h s rfl (by obtain rfl:=iv hn hR;exact eh _ _ _ _)))
theorem Bn (l:List dN) (hln:l.length<=1000) (v9:Value) (w:World) (hR:bs w v9 34 l.length (ed l)):Calls Tryz.prog 176 [v9].toArray w (cb w (λv w'=>cF w' w.heap.size 47 34 v l.length (ed l))):=by
 obtain ⟨a,c,rfl⟩:=hR.len
 exact PI l hln a _ c w hR
end Go.Proofs.YthmlflaiidhoiaaGreatDoor
