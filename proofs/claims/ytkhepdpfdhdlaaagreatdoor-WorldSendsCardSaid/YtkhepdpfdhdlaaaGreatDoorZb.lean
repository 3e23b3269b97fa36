/- Package host and what it stands on, so far as it is wanted: what each function answers. -/
import Derived.Test.YtkhepdpfdhdlaaaGreatDoorCon
set_option linter.unusedVariables false
set_option linter.unusedSimpArgs false
set_option linter.unusedSectionVars false
namespace Go.Proofs.YtkhepdpfdhdlaaaGreatDoor
open Go.RowKit
theorem J7 (l:List ByteArray) (hln:l.length<=1000) (a9:Option Addr) (n9 c9:Nat) (w:World) (hR:bp w (.slice a9 n9 c9) 1 l.length (rQ l)):Calls Tryz.prog 56 [.slice a9 n9 c9].toArray w (bW w (λv w'=>cq w' w.heap.size 9 1 v l.length (rQ l))):=by
 refine bG Tryz.func56 rfl Tryz.ntmps56 rfl λf h s=>bF ac 1 h rfl λf h=>ah (ah ?_)
 cases hn:(a9.isNone:Bool)
 ·refine rs ac 1 h rfl λf h=>ai h (bq (.bool false) (bR aa7 (h.ev rfl) (h.ev rfl)) (Yu Value.bool hn)) rfl λf h=>f7 h rfl (qr (ej (base:=w.heap.size) h aa7 SE (YM _) rfl λf w2 v5 h hE3 e5=>ap ac 1 h rfl λf h=>dh (base:=w.heap.size) e5 (hR.keep hE3) h aa7 SE rfl rfl hE3.le (HP _) (by unfold maxLen;omega) (by omega) rfl λf w3 v7 h hE4 e7=>?_))
  replace s:=s.sl_new (hE3.trans hE4) e7
  refine e9 ac 1 h rfl λf h=>Y8 (au rfl h s rfl (s.getSl 0 rfl))
 ·refine rs ac 1 h rfl λf h=>ai h (bq (.bool true) (bR aa7 (h.ev rfl) (h.ev rfl)) (Yu Value.bool hn)) rfl λf h=>ie h rfl (bF ac 1 h rfl λf h=>rt (au rfl h s rfl (by obtain rfl:=fO hn hR;exact dT _ _ _ _)))
theorem xx (l:List ByteArray) (hln:l.length<=1000) (v9:Value) (w:World) (hR:bp w v9 1 l.length (rQ l)):Calls Tryz.prog 56 [v9].toArray w (bW w (λv w'=>cq w' w.heap.size 9 1 v l.length (rQ l))):=by
 obtain ⟨a,c,rfl⟩:=hR.len
 exact J7 l hln a _ c w hR
set_option maxHeartbeats 2000000 in
theorem m7 (ho:Ho) (vw vh vi:Value)  (w:World) (hHo:gn w vw vh vi ho) (hB9:ho.ws.length<=1000/\ho.hs.length<=1000/\ho.bx.length<=1000):Calls Tryz.prog 68 [.agg (a8 ho.no ho.gt vw vh vi)].toArray w (bW w (Yk w 197 199 9 ho)):=by
 obtain ⟨hw9,hh9,hi9⟩:=hB9
 refine bG Tryz.func68 rfl Tryz.ntmps68 rfl λf h s=>qr (bh (a8 ho.no ho.gt vw vh vi) h s rfl rfl rfl λf w1 b1 h s=>aS (a8 0 0 aj aj aj) h s oB rfl rfl λf w1 b2 h s=>nt (ah (eu 0 9 [[],[0],[],[2],[],[4],[4,5],[0,1,2,3,4,5,6],[],[0,1,2,3,4,5,6,7,8]] [[],[],[],[],[],[],[],[],[],[]] [] [.v _,.v (.int .i64 ho.no),.v _,.v (.int .i64 ho.gt),.v _,.v vi,.r (λv=>[.sl (v 6) 9 1 ho.bx.length (rQ ho.bx)]) (λv=>(v 6).oneCell'=true),.f (λv=>v 7=.agg (a8 ho.no ho.gt aj aj (v 6))),.q (λv=>[.blk (tZ (v 8)) (.cells (a8 0 0 aj aj aj) 131)]),.n] _ h s rfl (by kernel_rfl) (by kernel_rfl) (by kernel_rfl) (fB ac h rfl rfl rfl (cp ?_ (fB ac h rfl rfl rfl (cp ?_ (fB ac h rfl rfl rfl (cp ?_ (cp ?_ (cp ?_ (cp ?_ (trivial)))))))))) [0,1,2,3,4,5,6,7,8] (by kernel_rfl) ?_)))
 ·intro f9 w2 vl1 E9 hs9 hd9 hl hF s
  have h:=cG [(8,_)] h hs9 hd9 ⟨bg hl 8 0 (by kernel_rfl) (hF 0 (by decide)),trivial⟩
  refine ag (V:=.int .i64 ho.no) (ae (aJ.of_own s 1 rfl) 0 (CH _ _ _ _ _)) h bs rfl rfl λf h=>ay ⟨_,bk 9 h rfl rfl,rfl,s⟩
 ·intro f9 w2 vl1 E9 hs9 hd9 hl hF s
  have h:=cG [(10,_)] h hs9 hd9 ⟨bg hl 10 2 (by kernel_rfl) (hF 2 (by decide)),trivial⟩
  refine ag (V:=.int .i64 ho.gt) (ae (aJ.of_own s 1 rfl) 1 (GJ _ _ _ _ _)) h bs rfl rfl λf h=>ay ⟨_,bk 11 h rfl rfl,rfl,s⟩
 ·intro f9 w2 vl1 E9 hs9 hd9 hl hF s
  have h:=cG [(12,_)] h hs9 hd9 ⟨bg hl 12 4 (by kernel_rfl) (hF 4 (by decide)),trivial⟩
  refine ag (V:=vi) (ae (aJ.of_own s 1 rfl) 4 (Jh _ _ _ _ _)) h rj rfl rfl λf h=>ay ⟨_,bk 13 h rfl rfl,rfl,s⟩
 ·intro f9 w2 vl1 E9 hs9 hd9 hl hF s
  have h:=cG [(13,_)] h hs9 hd9 ⟨bg hl 13 5 (by kernel_rfl) (hF 5 (by decide)),trivial⟩
  refine bB h s M3 (xx ho.bx hi9 vi _ (hHo.2.2.keep s.ext)) rfl rfl ?_;intro f w3 v14 hT hE h sq;replace s:=s.sl_new hE hT
  exact ay ⟨_,bk 14 h rfl rfl,bA (s.getSl 0 rfl),s⟩
 ·intro f9 w2 vl1 E9 hs9 hd9 hl hF s
  have e9:f9.tmps.getD 9 undef=.int .i64 ho.no:=(du hl 9 1 (by kernel_rfl) (by kernel_rfl)).trans (hF 1 (by decide))
  have e11:f9.tmps.getD 11 undef=.int .i64 ho.gt:=(du hl 11 3 (by kernel_rfl) (by kernel_rfl)).trans (hF 3 (by decide))
  have e14:f9.tmps.getD 14 undef=(vl1 6):=du hl 14 6 (by kernel_rfl) (by kernel_rfl)
  have h:=cU [(9,.int .i64 ho.no),(11,.int .i64 ho.gt),(14,(vl1 6))] (hs9.trans h.size) (hd9.trans h.defers) (holds_lk ⟨e9,e11,e14,trivial⟩)
  refine ai h (sC Sw (xI (hF 6 (by decide))).1 (xI (hF 6 (by decide))).2 (h.ev rfl) (h.ev rfl) (h.ev rfl)) rfl λf h=>ay ⟨_,bk 15 h rfl rfl,rfl,s⟩
 ·intro f9 w2 vl1 E9 hs9 hd9 hl hF s
  have h:=cU [] (hs9.trans h.size) (hd9.trans h.defers) (holds_lk trivial)
  refine aS (a8 0 0 aj aj aj) h s oB rfl rfl λf w1 b3 h s=>ay ⟨_,bk 3 h rfl rfl,⟨_,rfl⟩,s⟩
 intro f w1 vl1 hs9 hd9 hv hr hF s
 replace hv:=λi d h9=>hv i d (show Nat.blt i 9=true from h9)
 obtain ⟨b3,hb3⟩:∃ b,vl1 8=.pointer (some ⟨b,0,none⟩):=hF 8 (by kernel_rfl)
 replace h:=dN 9 (ops:=_) [(8,_),(9,_),(10,_),(11,_),(12,_),(13,_),(14,(vl1 6)),(15,.agg (a8 ho.no ho.gt aj aj (vl1 6))),(3,.pointer (some ⟨b3,0,none⟩))] h hs9 hd9 hr ⟨(hv 0 8 rfl rfl).trans (hF 0 rfl),(hv 1 9 rfl rfl).trans (hF 1 rfl),(hv 2 10 rfl rfl).trans (hF 2 rfl),(hv 3 11 rfl rfl).trans (hF 3 rfl),(hv 4 12 rfl rfl).trans (hF 4 rfl),(hv 5 13 rfl rfl).trans (hF 5 rfl),hv 6 14 rfl rfl,(hv 7 15 rfl rfl).trans (hF 7 rfl),(hv 8 3 rfl rfl).trans hb3,trivial⟩ (by kernel_rfl)
 replace s:St w [.sl (vl1 6) 9 1 ho.bx.length (rQ ho.bx),.blk (tZ (vl1 8)) (.cells (a8 0 0 aj aj aj) 131),.blk b2 (.cells (a8 0 0 aj aj aj) 131),.blk b1 (.cells (a8 ho.no ho.gt vw vh vi) 66)] _:=s
 rw [hb3] at s
 replace s:St w [.sl (vl1 6) 9 1 ho.bx.length (rQ ho.bx),.blk b3 (.cells (a8 0 0 aj aj aj) 131),.blk b2 (.cells (a8 0 0 aj aj aj) 131),.blk b1 (.cells (a8 ho.no ho.gt vw vh vi) 66)] _:=s
 refine ak 1 h s gJ rfl rfl rfl (aN _ _ _ _ _) (aN _ _ _ _ _) (dE _ _ (rfl) (rfl) (hF 6 (by kernel_rfl))) λw1 s=>nt (ah (cu ac 1 h rfl λf h=>?_))
 replace s:=s.nilSl 197 33
 refine ag (V:=vw) (ae (aJ.of_own s 4 rfl) 2 (CW _ _ _ _ _)) h x5 rfl rfl λf h=>ce h (hHo.1.keep s.ext) aa5 rfl rfl λf h=>e9 ac 1 h rfl λf h=>Y9 (Zb (λnn aa ww=>∃ k:Nat,∃ va:Value,Sl 57 aa [(0,.agg (a8 ho.no ho.gt vw vh vi)),(1,.pointer (some ⟨b1,0,none⟩)),(2,.pointer (some ⟨b2,0,none⟩)),(3,.pointer (some ⟨b3,0,none⟩)),(14,(vl1 6)),(17,vw),(18,.int .i64 (ho.ws.length:Int)),(19,.int .i64 (k:Int))]/\St w [.sl va 197 33 (ho.ws.take k).length (cn (ho.ws.take k)),.sl (vl1 6) 9 1 ho.bx.length (rQ ho.bx),.blk b3 (.cells (a8 ho.no ho.gt va aj (vl1 6)) 131),.blk b2 (.cells (a8 0 0 aj aj aj) 131),.blk b1 (.cells (a8 ho.no ho.gt vw vh vi) 66)] ww/\nn=ho.ws.length - k/\k<=ho.ws.length) (ho.ws.length - (0)) ⟨0,aj,h.only ⟨rfl,rfl,rfl,rfl,rfl,rfl,rfl,av rfl (by omega),trivial⟩,s.as ⟨rfl,rfl,rfl,rfl,rfl,trivial⟩,rfl,YO _⟩ ?_)
 rintro _ f w1 ⟨k,va,h,s,hnn,hp0⟩
 refine bF ac 1 h rfl λf h=>ah (dq h rfl (λhc=>?_) (λhc=>?_))
 ·refine kt (ah (Y9 (qr ?_)))
  have hkl:k<ho.ws.length:=by omega
  refine ai h (bz (hHo.1.keep s.ext) (k) aa5 PY (h.ev rfl) (h.ev rfl) (by omega) (by omega)) rfl λf h=>aB ((hHo.1.keep s.ext).el (k) (by omega) (by decide) (D:=cP (ho.ws.getD k dR)) (Ag _ k hkl)) h DN rfl (ck _) rfl λf h=>aS (cP dR) h s Jt rfl rfl λf w1 b5 h s=>ak 0 h s DN rfl rfl rfl (ck _) (ck _) (iX _) λw1 s=>nt (rs ac 1 h rfl λf h=>ag (V:=va) (ae (aJ.of_own s 3 rfl) 2 (CW _ _ _ _ _)) h sW rfl rfl λf h=>ap ac 1 h rfl λf h=>aB (aJ.subL (aJ.of_own s 0 rfl) 0 32 (D:=aA (ho.ws.getD k dR).1) (lW _)) h cJ rfl (by first|exact aF _|exact aE _ _) rfl λf h=>ai h (ng Nk (h.ev rfl)) rfl λf h=>ap ac 1 h rfl λf h=>ag (V:=.int .i64 (ho.ws.getD k dR).2) (ae (aJ.of_own s 0 rfl) 32 (iQ _)) h bs rfl rfl λf h=>ai h (vG Up (h.ev rfl) (h.ev rfl)) rfl λf h=>cT (vs:=[.agg (cP (ho.ws.getD k dR))]) [.tmp 30] h s ab0 GU rfl rfl (T3 _) rfl rfl rfl λf w1 v31 h s=>ei 2 0 h s ab0 GU rfl rfl rfl rfl (by decide) (by rw [E7];exact iX _) (by have h9:(ho.ws.take k).length<=k:=(by rw [Y5];omega);unfold maxLen;omega) (by have h9:(ho.ws.take k).length<=k:=(by rw [Y5];omega);omega) rfl λf w1 v32 h s=>?_)
  replace s:=s.pick _ (YN _ _)
  replace s:=s.resl (m:=(ho.ws.take (k+1)).length) (ys:=cn (ho.ws.take (k+1))) 1 rfl (by rw [tV hkl,Yy];rfl) (by rw [tV hkl,E7,IB])
  refine ap ac 1 h rfl λf h=>aR 3 h s sW rfl rfl rfl (by rw [aN];omega) (bA (s.getSl 1 rfl)) λw1 s=>?_
  replace s:=s.recell (D:=a8 ho.no ho.gt v32 aj (vl1 6)) 3 rfl (rfl)
  refine ay (bw (aO (aG (ai h (bS (h.ev rfl) (h.ev rfl) (by omega)) rfl λf h=>e9 ac 1 h rfl λf h=>?_))))
  exact ⟨_,by omega,⟨k+1,v32,h.only ⟨rfl,rfl,rfl,rfl,rfl,rfl,rfl,av rfl (by omega),trivial⟩,St.as (s.pick _ (Yp _ (Yo _ (Yo _ (Yo _ (Yo _ (Yo _ (YL _)))))))) ⟨rfl,rfl,rfl,rfl,rfl,trivial⟩,rfl,by omega⟩⟩
 ·refine Za (a7 (a7 (cd (aO (ah (cu ac 1 h rfl λf h=>?_))))))
  obtain rfl:k=ho.ws.length:=by omega
  rw [List.take_length] at s
  replace s:=s.nilSl 199 34
  refine ag (V:=vh) (ae (aJ.of_own s 5 rfl) 3 (xZ _ _ _ _ _)) h Al rfl rfl λf h=>ce h (hHo.2.1.keep s.ext) aa6 rfl rfl λf h=>e9 ac 1 h rfl λf h=>Y9 (Zb (λnn aa ww=>∃ k:Nat,∃ vc:Value,Sl 57 aa [(0,.agg (a8 ho.no ho.gt vw vh vi)),(1,.pointer (some ⟨b1,0,none⟩)),(2,.pointer (some ⟨b2,0,none⟩)),(3,.pointer (some ⟨b3,0,none⟩)),(14,(vl1 6)),(36,vh),(37,.int .i64 (ho.hs.length:Int)),(38,.int .i64 (k:Int))]/\St w [.sl vc 199 34 (ho.hs.take k).length (cm (ho.hs.take k)),.sl va 197 33 ho.ws.length (cn ho.ws),.sl (vl1 6) 9 1 ho.bx.length (rQ ho.bx),.blk b3 (.cells (a8 ho.no ho.gt va vc (vl1 6)) 131),.blk b2 (.cells (a8 0 0 aj aj aj) 131),.blk b1 (.cells (a8 ho.no ho.gt vw vh vi) 66)] ww/\nn=ho.hs.length - k/\k<=ho.hs.length) (ho.hs.length - (0)) ⟨0,aj,h.only ⟨rfl,rfl,rfl,rfl,rfl,rfl,rfl,av rfl (by omega),trivial⟩,s.as ⟨rfl,rfl,rfl,rfl,rfl,rfl,trivial⟩,rfl,YO _⟩ ?_)
  rintro _ f w1 ⟨k,vc,h,s,hnn,hp0⟩
  refine bF ac 1 h rfl λf h=>ah (dq h rfl (λhc=>?_) (λhc=>?_))
  ·refine kt (ah (Y9 (qr ?_)))
   have hkl:k<ho.hs.length:=by omega
   refine ai h (bz (hHo.2.1.keep s.ext) (k) aa6 Pg (h.ev rfl) (h.ev rfl) (by omega) (by omega)) rfl λf h=>aB ((hHo.2.1.keep s.ext).el (k) (by omega) (by decide) (D:=c7 (ho.hs.getD k eV)) (vv _ k hkl)) h EZ rfl (cL _) rfl λf h=>aS (c7 eV) h s KZ rfl rfl λf w1 b7 h s=>ak 0 h s EZ rfl rfl rfl (cL _) (cL _) (kV _) λw1 s=>nt (rs ac 1 h rfl λf h=>ag (V:=vc) (ae (aJ.of_own s 4 rfl) 3 (xZ _ _ _ _ _)) h kO rfl rfl λf h=>ap ac 1 h rfl λf h=>aB (aJ.subL (aJ.of_own s 0 rfl) 0 32 (D:=aA (ho.hs.getD k eV).1) (wE _)) h cJ rfl (by first|exact aF _|exact aE _ _) rfl λf h=>ai h (ng Nk (h.ev rfl)) rfl λf h=>ap ac 1 h rfl λf h=>ag (V:=.int .i64 (ho.hs.getD k eV).2.1) (ae (aJ.of_own s 0 rfl) 32 (qp _)) h bs rfl rfl λf h=>ap ac 1 h rfl λf h=>ag (V:=.int .i64 (ho.hs.getD k eV).2.2) (ae (aJ.of_own s 0 rfl) 33 (jE _)) h bs rfl rfl λf h=>ai h (xl Tq (h.ev rfl) (h.ev rfl) (h.ev rfl)) rfl λf h=>cT (vs:=[.agg (c7 (ho.hs.getD k eV))]) [.tmp 51] h s ab1 Fb rfl rfl (Q6 _) rfl rfl rfl λf w1 v52 h s=>ei 2 0 h s ab1 Fb rfl rfl rfl rfl (by decide) (by rw [HN];exact kV _) (by have h9:(ho.hs.take k).length<=k:=(by rw [Y5];omega);unfold maxLen;omega) (by have h9:(ho.hs.take k).length<=k:=(by rw [Y5];omega);omega) rfl λf w1 v53 h s=>?_)
   replace s:=s.pick _ (YN _ _)
   replace s:=s.resl (m:=(ho.hs.take (k+1)).length) (ys:=cm (ho.hs.take (k+1))) 1 rfl (by rw [AH hkl,Yy];rfl) (by rw [AH hkl,HN,JA])
   refine ap ac 1 h rfl λf h=>aR 4 h s kO rfl rfl rfl (by rw [aN];omega) (bA (s.getSl 1 rfl)) λw1 s=>?_
   replace s:=s.recell (D:=a8 ho.no ho.gt va v53 (vl1 6)) 4 rfl (rfl)
   refine ay (bw (aO (aG (ai h (bS (h.ev rfl) (h.ev rfl) (by omega)) rfl λf h=>e9 ac 1 h rfl λf h=>?_))))
   exact ⟨_,by omega,⟨k+1,v53,h.only ⟨rfl,rfl,rfl,rfl,rfl,rfl,rfl,av rfl (by omega),trivial⟩,St.as (s.pick _ (Yp _ (Yo _ (Yo _ (Yo _ (Yo _ (Yo _ (Yo _ (YL _))))))))) ⟨rfl,rfl,rfl,rfl,rfl,rfl,trivial⟩,rfl,by omega⟩⟩
  ·refine Za (a7 (a7 (cd (aO (qr (al 3 h s gJ rfl rfl (aN _ _ _ _ _) rfl λf h=>ak 4 h s gJ rfl rfl rfl (aN _ _ _ _ _) (aN _ _ _ _ _) (dE _ _ (bA (s.getSl 1 rfl)) (bA (s.getSl 0 rfl)) (hF 6 (by kernel_rfl))) λw1 s=>nt (Y8 (nq 4 rfl h s gJ rfl rfl (aN _ _ _ _ _) (by obtain rfl:k=ho.hs.length:=(by omega);rw [List.take_length] at s;exact ⟨_,_,_,rfl,s.sel [1,0,2] rfl (by decide)⟩)))))))))
theorem FE (n:Int) (w:World):Calls Tryz.prog 118 [.int .i64 n].toArray w (bW w (is (.bool (eN n 0 15)))):=by
 refine bG Tryz.func118 rfl Tryz.ntmps118 rfl λf h s=>bF ac 1 h rfl λf h=>ah ?_
 refine rs ac 1 h rfl λf h=>kB ac h rfl (λh0 f h=>?_) (λh0 f h=>?_)
 ·refine e9 ac 5 h rfl λf h=>Y8 (au rfl h s rfl (by show _=_;unfold eN;rw [h0]<;>rfl))
 ·refine ap ac 2 h rfl λf h=>bX h rfl (lL ac (.bool (decide (n<=15))) h rfl (Yu Value.bool (YE.2 (by omega))) rfl λf h=>e9 ac 2 h rfl λf h=>Y8 (au rfl h s rfl (by show _=_;unfold eN;rw [h0]<;>rfl)))
theorem vu (n:Int) (w:World):Calls Tryz.prog 119 [.int .i64 n].toArray w (bW w (is (.bool (eN n 0 15)))):=by
 refine bG Tryz.func119 rfl Tryz.ntmps119 rfl λf h s=>bF ac 1 h rfl λf h=>ah ?_
 refine rs ac 1 h rfl λf h=>kB ac h rfl (λh0 f h=>?_) (λh0 f h=>?_)
 ·refine e9 ac 5 h rfl λf h=>Y8 (au rfl h s rfl (by show _=_;unfold eN;rw [h0]<;>rfl))
 ·refine ap ac 2 h rfl λf h=>bX h rfl (lL ac (.bool (decide (n<=15))) h rfl (Yu Value.bool (YE.2 (by omega))) rfl λf h=>e9 ac 2 h rfl λf h=>Y8 (au rfl h s rfl (by show _=_;unfold eN;rw [h0]<;>rfl)))
theorem zq (v:Value):UJ Tryz.prog 197 v "posthouse/host.right" 149:=λw=>by kernel_rfl
theorem yZ (x:Wn):Ja Tryz.prog 197 (.agg (cP x)) "posthouse/host.id" 154 (.agg (aA x.1)):=λw=>by
 rw [← lW x];generalize cP x=C;kernel_rfl
theorem ye (v:Value):UJ Tryz.prog 199 v "posthouse/host.right" 411:=λw=>by kernel_rfl
theorem zk (x:Hn):Ja Tryz.prog 199 (.agg (c7 x)) "posthouse/host.id" 154 (.agg (aA x.1)):=λw=>by
 rw [← wE x];generalize c7 x=C;kernel_rfl
theorem uQ (y:Wn) (w:World):Calls Tryz.prog 149 [.agg (cP y)].toArray w (bW w (is (.bool (eN y.2 1 1048576)))):=by
 refine bG Tryz.func149 rfl Tryz.ntmps149 rfl λf h s=>qr (bh (cP y) h s rfl rfl rfl λf w1 b1 h s=>e9 ac 1 h rfl λf h=>ah ?_)
 refine rs ac 1 h rfl λf h=>ag (V:=.int .i64 y.2) (ae (aJ.of_own s 0 rfl) 32 (iQ _)) h bs rfl rfl λf h=>kB ac h rfl (λh0 f h=>?_) (λh0 f h=>?_)
 ·refine e9 ac 6 h rfl λf h=>Y8 (au rfl h s rfl (by show _=_;unfold eN;rw [h0]<;>rfl))
 ·refine ap ac 2 h rfl λf h=>bX h rfl (ag (V:=.int .i64 y.2) (ae (aJ.of_own s 0 rfl) 32 (iQ _)) h bs rfl rfl λf h=>e9 ac 3 h rfl λf h=>Y8 (au rfl h s rfl (by show _=_;unfold eN;rw [h0]<;>rfl)))
theorem gR (x:Id) (w:World):Calls Tryz.prog 154 [lx x].toArray w (bW w (is (lx x))):=by
 refine bG Tryz.func154 rfl Tryz.ntmps154 rfl λf h s=>qr (bh (aA x) h s rfl rfl rfl λf w1 b1 h s=>aS (aA 0#256) h s sm rfl rfl λf w1 b2 h s=>nt (cu ac 1 h rfl λf h=>aB (aJ.subL (aJ.of_own s 1 rfl) 0 32 (D:=aA x) (y7 x)) h cJ rfl (by first|exact aF _|exact aE _ _) rfl λf h=>ak 0 h s cJ rfl rfl rfl (by first|exact aF _|exact aE _ _) (by first|exact aF _|exact aE _ _) (by first|exact lw _|exact dB _ _) λw1 s=>nt (Y8 (nq 0 rfl h s cJ rfl rfl (by first|exact aF _|exact aE _ _) (rfl)))))
theorem Ef (l:List Wn) (vh:Value) (g9:Nat) (caps:List Value) (p:Wn->Bool) (w:World) (hR:bp w vh 33 l.length (cn l)) (hln:l.length<=1000) (hg:Fnc Tryz.prog g9) (hp:∀ w9,Ext w w9->∀ x∈l,Calls Tryz.prog g9 (.agg (cP x)::caps).toArray w9 (bW w9 (is (.bool (p x))))):Calls Tryz.prog 217 [vh,.func (.func g9) #[] caps.toArray].toArray w (bW w (λv _=>∃ r:Int,v=.int .i64 r/\((r = -1/\∀ x∈l,p x=false)∨∃ k:Nat,k<l.length/\r=(k:Int)/\p (l.getD k dR)=true/\∀ i,i<k->p (l.getD i dR)=false))):=by
 refine bG Tryz.func217 rfl Tryz.ntmps217 rfl λf h s=>bF ac 1 h rfl λf h=>ah (cu ac 1 h rfl λf h=>ce h (hR.keep s.ext) ab0 rfl rfl λf h=>e9 ac 1 h rfl λf h=>Y9 (Zb (λnn aa ww=>∃ k:Nat,Sl 19 aa [(0,vh),(1,.func (.func g9) #[] caps.toArray),(6,vh),(7,.int .i64 (l.length:Int)),(8,.int .i64 (k:Int))]/\St w [] ww/\nn=l.length - k/\k<=l.length/\∀ i,i<k->p (l.getD i dR)=false) (l.length - (0)) ⟨0,h.only ⟨rfl,rfl,rfl,rfl,av rfl (by omega),trivial⟩,s.as trivial,rfl,YO _,λi hi=>ZF hi (Zl _)⟩ ?_))
 rintro _ f w1 ⟨k,h,s,hnn,hp0,hp1⟩
 refine bF ac 1 h rfl λf h=>ah (dq h rfl (λhc=>?_) (λhc=>?_))
 ·refine kt (ah (Y9 (bF ac 2 h rfl λf h=>qr ?_)))
  have hkl:k<l.length:=by omega
  refine ap ac 3 h rfl λf h=>ai h (bz (hR.keep s.ext) (k) ab0 pX (h.ev rfl) (h.ev rfl) (by omega) (by omega)) rfl λf h=>aB ((hR.keep s.ext).el (k) (by omega) (by decide) (D:=cP (l.getD k dR)) (Ag l k hkl)) h gL rfl (ck _) rfl λf h=>fP [.agg (cP (l.getD k dR))] (caps:=caps) h s hg rfl (hp _ s.ext _ (z8 hkl)) rfl rfl ?_;intro f w1 v9 hT hE h s;obtain rfl:=hT
  refine nt (cA h rfl (λhc=>?_) (λhc=>?_))
  ·refine bF ac 2 h rfl λf h=>Y8 (bo (aV (aV (bo (aV (au rfl h s rfl (⟨_,rfl,.inr ⟨k,hkl,rfl,hc,hp1⟩⟩)))))))
  ·refine wpIn_skip (bw (aO (aG (ai h (bS (h.ev rfl) (h.ev rfl) (by omega)) rfl λf h=>e9 ac 1 h rfl λf h=>?_))))
   exact ⟨_,by omega,⟨k+1,h.only ⟨rfl,rfl,rfl,rfl,av rfl (by omega),trivial⟩,St.as s trivial,rfl,by omega,gX (q:=λj=>p (l.getD j dR)) hp1 hc⟩⟩
 ·refine Za (a7 (a7 (cd (aO (bF ac 1 h rfl λf h=>Y8 (au rfl h s rfl (⟨_,rfl,.inl ⟨rfl,λx hx=>(by obtain ⟨i,hi,rfl⟩:=MT hx;exact hp1 i (by omega))⟩⟩)))))))
theorem F2 (y:Wn) (x:Id) (bx:Nat) (w:World) (hb:iF w bx (aA x)):Calls Tryz.prog 218 [.agg (cP y),.pointer (some ⟨bx,0,none⟩)].toArray w (bW w (is (.bool (decide (y.1=x))))):=by
 refine bG Tryz.func218 rfl Tryz.ntmps218 rfl λf h s=>qr (bh (cP y) h s rfl rfl rfl λf w1 b2 h s=>e9 ac 1 h rfl λf h=>ah (dF 6 h (by kernel_rfl) (ba 0 h s gL rfl rfl (ck _) rfl λf h=>ar h (cH Z1 rfl (h.ev rfl)) rfl λf h=>j4 h ju (yZ _) rfl (λw9 hE9=>gR y.1 w9) rfl ?_)));intro f h
 refine aY (aJ.subL (aJ.of_tab (hb.keep s.ext)) 0 32 (D:=aA x) (y7 x)) h cJ rfl (by first|exact aF _|exact aE _ _) rfl λf h=>ar h (dn fW (h.ev rfl) (h.ev rfl)) rfl λf h=>aq ac 1 h rfl λf h=>bQ s λw1 s=>nt (Y8 (au rfl h s rfl (rfl)))
theorem u6 (l:List Wn) (vh:Value) (x:Id) (w:World) (hR:bp w vh 33 l.length (cn l)) (hln:l.length<=1000):Calls Tryz.prog 150 [vh,lx x].toArray w (bW w (is (.int .i64 (jY (wk l) x)))):=by
 refine bG Tryz.func150 rfl Tryz.ntmps150 rfl λf h s=>qr (bh (aA x) h s rfl rfl rfl λf w1 b3 h s=>e9 ac 1 h rfl λf h=>cu ac 1 h rfl λf h=>ai h (dz [.pointer (some ⟨b3,0,none⟩)] (kT h rfl)) rfl λf h=>bB h s OD (Ef l vh 218 [.pointer (some ⟨b3,0,none⟩)] (λy=>decide (y.1=x)) _ (hR.keep s.ext) hln Ql (λw9 h9 y _=>F2 y x b3 w9 ((iF.of_own s 0 rfl).keep h9))) rfl rfl ?_);rintro f w1 v9 ⟨r9,rfl,hr⟩ hE h s;obtain rfl:=Sj hr
 refine e9 ac 1 h rfl λf h=>Y8 (au rfl h s rfl (rfl))
set_option maxHeartbeats 1000000 in
theorem B0 (l:List Wn) (vh:Value) (w:World) (hR:bp w vh 33 l.length (cn l)) (hln:l.length<=1000):Calls Tryz.prog 120 [vh].toArray w (bW w (is (.bool (Dr l)))):=by
 refine bG Tryz.func120 rfl Tryz.ntmps120 rfl λf h s=>bF ac 1 h rfl λf h=>ah (cu ac 1 h rfl λf h=>ce h (hR.keep s.ext) ab0 rfl rfl λf h=>e9 ac 1 h rfl λf h=>cA h rfl (λhc=>?_) (λhc=>?_))
 ·have h8:8<l.length:=by have:=Yq hc;omega
  refine bF ac 1 h rfl λf h=>rt (au rfl h s rfl (by show _=_;rw [NQ h8]))
 ·have h8:l.length<=8:=by have:=Yr hc;omega
  refine kt (ah (cu ac 1 h rfl λf h=>ce h (hR.keep s.ext) ab0 rfl rfl λf h=>e9 ac 1 h rfl λf h=>Y9 (Zb (λnn aa ww=>∃ k:Nat,Sl 30 aa [(8,vh),(9,.int .i64 (l.length:Int)),(10,.int .i64 (k:Int)),(0,vh)]/\St w [] ww/\nn=l.length - k/\k<=l.length/\∀ j,j<k->CT l j=true) (l.length - (0)) ⟨0,h.only ⟨rfl,rfl,av rfl (by omega),rfl,trivial⟩,s.as trivial,rfl,YO _,λj hj=>ZF hj (Zl _)⟩ ?_)))
  rintro _ f w1 ⟨k,h,s,hnn,hp0,hp1⟩
  refine bF ac 1 h rfl λf h=>ah (dq h rfl (λhc=>?_) (λhc=>?_))
  ·refine kt (ah (Y9 (cu ac 1 h rfl λf h=>?_)))
   have hkl:k<l.length:=by omega
   refine ai h (bz (hR.keep s.ext) (k) ab0 pX (h.ev rfl) (h.ev rfl) (by omega) (by omega)) rfl λf h=>aB ((hR.keep s.ext).el (k) (by omega) (by decide) (D:=cP (l.getD k dR)) (Ag l k hkl)) h gL rfl (ck _) rfl λf h=>aS (cP dR) h s Bl rfl rfl λf w1 b4 h s=>ap ac 1 h rfl λf h=>ak 0 h s gL rfl rfl rfl (ck _) (ck _) (iX _) λw1 s=>nt (ah ?_)
   cases i0:(eN (l.getD k dR).2 1 1048576:Bool)
   ·refine dF 14 h (by kernel_rfl) (ba 0 h s gL rfl rfl (ck _) rfl λf h=>ar h (cH Z1 rfl (h.ev rfl)) rfl λf h=>j5 h zG (zq _) rfl (λw9 hE9=>aX (.bool false) (uQ (l.getD k dR) w9) (Yu Value.bool i0)) rfl ?_);intro f h
    refine aq ac 11 h rfl λf h=>bQ s λw1 s=>ie h rfl (bF ac 1 h rfl λf h=>Y8 (bo (aV (aV (bo (aV (au rfl h s rfl (by show _=_;rw [MN hkl (RL i0)]))))))))
   ·skip
    cases q0:(decide (jY (wk l) (l.getD k dR).1=(k:Int)):Bool)
    ·refine dF 14 h (by kernel_rfl) (ba 0 h s gL rfl rfl (ck _) rfl λf h=>ar h (cH Z1 rfl (h.ev rfl)) rfl λf h=>j5 h zG (zq _) rfl (λw9 hE9=>aX (.bool true) (uQ (l.getD k dR) w9) (Yu Value.bool i0)) rfl ?_);intro f h
     refine aq ac 4 h rfl λf h=>a6 h rfl (ar h (dL (hR.keep s.ext) (k) ab0 pX (h.ev rfl) (h.ev rfl) (rfl) (by omega)) rfl λf h=>a6 h rfl (ba 0 h s gL rfl rfl (ck _) rfl λf h=>a6 h rfl (ar h (cH Z1 rfl (h.ev rfl)) rfl λf h=>a6 h rfl (j4 h ju (yZ _) rfl (λw9 hE9=>gR (l.getD k dR).1 w9) rfl ?_))));intro f h
     refine a6 h rfl (bj h EW (λw9 hE9=>u6 (l.take k) (fI vh k) (l.getD k dR).1 w9 (AA (hR.keep (s.ext.trans hE9)) k (by omega)) (by rw [Y5];omega)) rfl rfl λf h=>a6 h rfl (je ac h rfl ((ML hkl).trans (by rw [q0];rfl)) λf h=>aq ac 1 h rfl λf h=>bQ s λw1 s=>ie h rfl (bF ac 1 h rfl λf h=>Y8 (bo (aV (aV (bo (aV (au rfl h s rfl (by show _=_;rw [MN hkl (Md i0 q0)]))))))))))
    ·refine dF 14 h (by kernel_rfl) (ba 0 h s gL rfl rfl (ck _) rfl λf h=>ar h (cH Z1 rfl (h.ev rfl)) rfl λf h=>j5 h zG (zq _) rfl (λw9 hE9=>aX (.bool true) (uQ (l.getD k dR) w9) (Yu Value.bool i0)) rfl ?_);intro f h
     refine aq ac 4 h rfl λf h=>a6 h rfl (ar h (dL (hR.keep s.ext) (k) ab0 pX (h.ev rfl) (h.ev rfl) (rfl) (by omega)) rfl λf h=>a6 h rfl (ba 0 h s gL rfl rfl (ck _) rfl λf h=>a6 h rfl (ar h (cH Z1 rfl (h.ev rfl)) rfl λf h=>a6 h rfl (j4 h ju (yZ _) rfl (λw9 hE9=>gR (l.getD k dR).1 w9) rfl ?_))));intro f h
     refine a6 h rfl (bj h EW (λw9 hE9=>u6 (l.take k) (fI vh k) (l.getD k dR).1 w9 (AA (hR.keep (s.ext.trans hE9)) k (by omega)) (by rw [Y5];omega)) rfl rfl λf h=>a6 h rfl (jf ac h rfl ((ML hkl).trans (by rw [q0];rfl)) λf h=>aq ac 1 h rfl λf h=>bQ s λw1 s=>yV h rfl (wpIn_skip (bw (aO (aG (ai h (bS (h.ev rfl) (h.ev rfl) (by omega)) rfl λf h=>e9 ac 1 h rfl λf h=>?_)))))))
     exact ⟨_,by omega,⟨k+1,h.only ⟨rfl,rfl,av rfl (by omega),rfl,trivial⟩,St.as (s.pick _ (YJ [_] _)) trivial,rfl,by omega,fm hp1 (Md i0 q0)⟩⟩
  ·refine Za (a7 (a7 (cd (aO (bF ac 1 h rfl λf h=>Y8 (au rfl h s rfl (by show _=_;rw [Qv h8 (λj hj=>hp1 j (by omega))])))))))
theorem m5 (n:Int) (w:World):Calls Tryz.prog 153 [.int .i64 n].toArray w (bW w (is (.bool (eN n 0 1099511627776)))):=by
 refine bG Tryz.func153 rfl Tryz.ntmps153 rfl λf h s=>bF ac 1 h rfl λf h=>ah ?_
 refine rs ac 1 h rfl λf h=>kB ac h rfl (λh0 f h=>?_) (λh0 f h=>?_)
 ·refine e9 ac 5 h rfl λf h=>Y8 (au rfl h s rfl (by show _=_;unfold eN;rw [h0]<;>rfl))
 ·refine e9 ac 5 h rfl λf h=>Y8 (au rfl h s rfl (by show _=_;unfold eN;rw [h0]<;>rfl))
theorem sD (y:Hn) (w:World):Calls Tryz.prog 411 [.agg (c7 y)].toArray w (bW w (is (.bool (MV y)))):=by
 refine bG Tryz.func411 rfl Tryz.ntmps411 rfl λf h s=>qr (bh (c7 y) h s rfl rfl rfl λf w1 b1 h s=>e9 ac 1 h rfl λf h=>ah ?_)
 refine rs ac 1 h rfl λf h=>ag (V:=.int .i64 y.2.1) (ae (aJ.of_own s 0 rfl) 32 (qp _)) h bs rfl rfl λf h=>eK h s Eg (vu y.2.1 _) rfl rfl (λh0 f w1 h s=>?_) (λh0 f w1 h s=>?_)
 ·refine e9 ac 6 h rfl λf h=>Y8 (au rfl h s rfl (by show _=_;unfold MV;rw [h0]<;>rfl))
 ·refine ap ac 2 h rfl λf h=>bX h rfl (ag (V:=.int .i64 y.2.2) (ae (aJ.of_own s 0 rfl) 33 (jE _)) h bs rfl rfl λf h=>bX h rfl (da h s yC (m5 y.2.2 _) rfl rfl λf w1 h s=>e9 ac 2 h rfl λf h=>Y8 (au rfl h s rfl (by show _=_;unfold MV;rw [h0]<;>rfl))))
theorem Ga (l:List Hn) (vh:Value) (g9:Nat) (caps:List Value) (p:Hn->Bool) (w:World) (hR:bp w vh 34 l.length (cm l)) (hln:l.length<=1000) (hg:Fnc Tryz.prog g9) (hp:∀ w9,Ext w w9->∀ x∈l,Calls Tryz.prog g9 (.agg (c7 x)::caps).toArray w9 (bW w9 (is (.bool (p x))))):Calls Tryz.prog 236 [vh,.func (.func g9) #[] caps.toArray].toArray w (bW w (λv _=>∃ r:Int,v=.int .i64 r/\((r = -1/\∀ x∈l,p x=false)∨∃ k:Nat,k<l.length/\r=(k:Int)/\p (l.getD k eV)=true/\∀ i,i<k->p (l.getD i eV)=false))):=by
 refine bG Tryz.func236 rfl Tryz.ntmps236 rfl λf h s=>bF ac 1 h rfl λf h=>ah (cu ac 1 h rfl λf h=>ce h (hR.keep s.ext) ab1 rfl rfl λf h=>e9 ac 1 h rfl λf h=>Y9 (Zb (λnn aa ww=>∃ k:Nat,Sl 19 aa [(0,vh),(1,.func (.func g9) #[] caps.toArray),(6,vh),(7,.int .i64 (l.length:Int)),(8,.int .i64 (k:Int))]/\St w [] ww/\nn=l.length - k/\k<=l.length/\∀ i,i<k->p (l.getD i eV)=false) (l.length - (0)) ⟨0,h.only ⟨rfl,rfl,rfl,rfl,av rfl (by omega),trivial⟩,s.as trivial,rfl,YO _,λi hi=>ZF hi (Zl _)⟩ ?_))
 rintro _ f w1 ⟨k,h,s,hnn,hp0,hp1⟩
 refine bF ac 1 h rfl λf h=>ah (dq h rfl (λhc=>?_) (λhc=>?_))
 ·refine kt (ah (Y9 (bF ac 2 h rfl λf h=>qr ?_)))
  have hkl:k<l.length:=by omega
  refine ap ac 3 h rfl λf h=>ai h (bz (hR.keep s.ext) (k) ab1 lz (h.ev rfl) (h.ev rfl) (by omega) (by omega)) rfl λf h=>aB ((hR.keep s.ext).el (k) (by omega) (by decide) (D:=c7 (l.getD k eV)) (vv l k hkl)) h iB rfl (cL _) rfl λf h=>fP [.agg (c7 (l.getD k eV))] (caps:=caps) h s hg rfl (hp _ s.ext _ (sn hkl)) rfl rfl ?_;intro f w1 v9 hT hE h s;obtain rfl:=hT
  refine nt (cA h rfl (λhc=>?_) (λhc=>?_))
  ·refine bF ac 2 h rfl λf h=>Y8 (bo (aV (aV (bo (aV (au rfl h s rfl (⟨_,rfl,.inr ⟨k,hkl,rfl,hc,hp1⟩⟩)))))))
  ·refine wpIn_skip (bw (aO (aG (ai h (bS (h.ev rfl) (h.ev rfl) (by omega)) rfl λf h=>e9 ac 1 h rfl λf h=>?_))))
   exact ⟨_,by omega,⟨k+1,h.only ⟨rfl,rfl,rfl,rfl,av rfl (by omega),trivial⟩,St.as s trivial,rfl,by omega,gX (q:=λj=>p (l.getD j eV)) hp1 hc⟩⟩
 ·refine Za (a7 (a7 (cd (aO (bF ac 1 h rfl λf h=>Y8 (au rfl h s rfl (⟨_,rfl,.inl ⟨rfl,λx hx=>(by obtain ⟨i,hi,rfl⟩:=MC hx;exact hp1 i (by omega))⟩⟩)))))))
theorem Fy (y:Hn) (x:Id) (bx:Nat) (w:World) (hb:iF w bx (aA x)):Calls Tryz.prog 237 [.agg (c7 y),.pointer (some ⟨bx,0,none⟩)].toArray w (bW w (is (.bool (decide (y.1=x))))):=by
 refine bG Tryz.func237 rfl Tryz.ntmps237 rfl λf h s=>qr (bh (c7 y) h s rfl rfl rfl λf w1 b2 h s=>e9 ac 1 h rfl λf h=>ah (dF 6 h (by kernel_rfl) (ba 0 h s iB rfl rfl (cL _) rfl λf h=>ar h (cH Z2 rfl (h.ev rfl)) rfl λf h=>j4 h ju (zk _) rfl (λw9 hE9=>gR y.1 w9) rfl ?_)));intro f h
 refine aY (aJ.subL (aJ.of_tab (hb.keep s.ext)) 0 32 (D:=aA x) (y7 x)) h cJ rfl (by first|exact aF _|exact aE _ _) rfl λf h=>ar h (dn fW (h.ev rfl) (h.ev rfl)) rfl λf h=>aq ac 1 h rfl λf h=>bQ s λw1 s=>nt (Y8 (au rfl h s rfl (rfl)))
theorem pC (l:List Hn) (vh:Value) (x:Id) (w:World) (hR:bp w vh 34 l.length (cm l)) (hln:l.length<=1000):Calls Tryz.prog 192 [vh,lx x].toArray w (bW w (is (.int .i64 (jY (hk l) x)))):=by
 refine bG Tryz.func192 rfl Tryz.ntmps192 rfl λf h s=>qr (bh (aA x) h s rfl rfl rfl λf w1 b3 h s=>e9 ac 1 h rfl λf h=>cu ac 1 h rfl λf h=>ai h (dz [.pointer (some ⟨b3,0,none⟩)] (kT h rfl)) rfl λf h=>bB h s Qj (Ga l vh 237 [.pointer (some ⟨b3,0,none⟩)] (λy=>decide (y.1=x)) _ (hR.keep s.ext) hln Om (λw9 h9 y _=>Fy y x b3 w9 ((iF.of_own s 0 rfl).keep h9))) rfl rfl ?_);rintro f w1 v9 ⟨r9,rfl,hr⟩ hE h s;obtain rfl:=SF hr
 refine e9 ac 1 h rfl λf h=>Y8 (au rfl h s rfl (rfl))
set_option maxHeartbeats 1000000 in
theorem Cy (l:List Hn) (vh:Value) (w:World) (hR:bp w vh 34 l.length (cm l)) (hln:l.length<=1000):Calls Tryz.prog 121 [vh].toArray w (bW w (is (.bool (EH l)))):=by
 refine bG Tryz.func121 rfl Tryz.ntmps121 rfl λf h s=>bF ac 1 h rfl λf h=>ah (cu ac 1 h rfl λf h=>ce h (hR.keep s.ext) ab1 rfl rfl λf h=>e9 ac 1 h rfl λf h=>cA h rfl (λhc=>?_) (λhc=>?_))
 ·have h8:8<l.length:=by have:=Yq hc;omega
  refine bF ac 1 h rfl λf h=>rt (au rfl h s rfl (by show _=_;rw [N6 h8]))
 ·have h8:l.length<=8:=by have:=Yr hc;omega
  refine kt (ah (cu ac 1 h rfl λf h=>ce h (hR.keep s.ext) ab1 rfl rfl λf h=>e9 ac 1 h rfl λf h=>Y9 (Zb (λnn aa ww=>∃ k:Nat,Sl 30 aa [(8,vh),(9,.int .i64 (l.length:Int)),(10,.int .i64 (k:Int)),(0,vh)]/\St w [] ww/\nn=l.length - k/\k<=l.length/\∀ j,j<k->lg l j=true) (l.length - (0)) ⟨0,h.only ⟨rfl,rfl,av rfl (by omega),rfl,trivial⟩,s.as trivial,rfl,YO _,λj hj=>ZF hj (Zl _)⟩ ?_)))
  rintro _ f w1 ⟨k,h,s,hnn,hp0,hp1⟩
  refine bF ac 1 h rfl λf h=>ah (dq h rfl (λhc=>?_) (λhc=>?_))
  ·refine kt (ah (Y9 (cu ac 1 h rfl λf h=>?_)))
   have hkl:k<l.length:=by omega
   refine ai h (bz (hR.keep s.ext) (k) ab1 lz (h.ev rfl) (h.ev rfl) (by omega) (by omega)) rfl λf h=>aB ((hR.keep s.ext).el (k) (by omega) (by decide) (D:=c7 (l.getD k eV)) (vv l k hkl)) h iB rfl (cL _) rfl λf h=>aS (c7 eV) h s KB rfl rfl λf w1 b4 h s=>ap ac 1 h rfl λf h=>ak 0 h s iB rfl rfl rfl (cL _) (cL _) (kV _) λw1 s=>nt (ah ?_)
   cases i0:(MV (l.getD k eV):Bool)
   ·refine dF 14 h (by kernel_rfl) (ba 0 h s iB rfl rfl (cL _) rfl λf h=>ar h (cH Z2 rfl (h.ev rfl)) rfl λf h=>j5 h yK (ye _) rfl (λw9 hE9=>aX (.bool false) (sD (l.getD k eV) w9) (Yu Value.bool i0)) rfl ?_);intro f h
    refine aq ac 11 h rfl λf h=>bQ s λw1 s=>ie h rfl (bF ac 1 h rfl λf h=>Y8 (bo (aV (aV (bo (aV (au rfl h s rfl (by show _=_;rw [Mn hkl (Ud i0)]))))))))
   ·skip
    cases q0:(decide (jY (hk l) (l.getD k eV).1=(k:Int)):Bool)
    ·refine dF 14 h (by kernel_rfl) (ba 0 h s iB rfl rfl (cL _) rfl λf h=>ar h (cH Z2 rfl (h.ev rfl)) rfl λf h=>j5 h yK (ye _) rfl (λw9 hE9=>aX (.bool true) (sD (l.getD k eV) w9) (Yu Value.bool i0)) rfl ?_);intro f h
     refine aq ac 4 h rfl λf h=>a6 h rfl (ar h (dL (hR.keep s.ext) (k) ab1 lz (h.ev rfl) (h.ev rfl) (rfl) (by omega)) rfl λf h=>a6 h rfl (ba 0 h s iB rfl rfl (cL _) rfl λf h=>a6 h rfl (ar h (cH Z2 rfl (h.ev rfl)) rfl λf h=>a6 h rfl (j4 h ju (zk _) rfl (λw9 hE9=>gR (l.getD k eV).1 w9) rfl ?_))));intro f h
     refine a6 h rfl (bj h yp (λw9 hE9=>pC (l.take k) (fI vh k) (l.getD k eV).1 w9 (Aj (hR.keep (s.ext.trans hE9)) k (by omega)) (by rw [Y5];omega)) rfl rfl λf h=>a6 h rfl (je ac h rfl ((L3 hkl).trans (by rw [q0];rfl)) λf h=>aq ac 1 h rfl λf h=>bQ s λw1 s=>ie h rfl (bF ac 1 h rfl λf h=>Y8 (bo (aV (aV (bo (aV (au rfl h s rfl (by show _=_;rw [Mn hkl (Nc i0 q0)]))))))))))
    ·refine dF 14 h (by kernel_rfl) (ba 0 h s iB rfl rfl (cL _) rfl λf h=>ar h (cH Z2 rfl (h.ev rfl)) rfl λf h=>j5 h yK (ye _) rfl (λw9 hE9=>aX (.bool true) (sD (l.getD k eV) w9) (Yu Value.bool i0)) rfl ?_);intro f h
     refine aq ac 4 h rfl λf h=>a6 h rfl (ar h (dL (hR.keep s.ext) (k) ab1 lz (h.ev rfl) (h.ev rfl) (rfl) (by omega)) rfl λf h=>a6 h rfl (ba 0 h s iB rfl rfl (cL _) rfl λf h=>a6 h rfl (ar h (cH Z2 rfl (h.ev rfl)) rfl λf h=>a6 h rfl (j4 h ju (zk _) rfl (λw9 hE9=>gR (l.getD k eV).1 w9) rfl ?_))));intro f h
     refine a6 h rfl (bj h yp (λw9 hE9=>pC (l.take k) (fI vh k) (l.getD k eV).1 w9 (Aj (hR.keep (s.ext.trans hE9)) k (by omega)) (by rw [Y5];omega)) rfl rfl λf h=>a6 h rfl (jf ac h rfl ((L3 hkl).trans (by rw [q0];rfl)) λf h=>aq ac 1 h rfl λf h=>bQ s λw1 s=>yV h rfl (wpIn_skip (bw (aO (aG (ai h (bS (h.ev rfl) (h.ev rfl) (by omega)) rfl λf h=>e9 ac 1 h rfl λf h=>?_)))))))
     exact ⟨_,by omega,⟨k+1,h.only ⟨rfl,rfl,av rfl (by omega),rfl,trivial⟩,St.as (s.pick _ (YJ [_] _)) trivial,rfl,by omega,fm hp1 (Nc i0 q0)⟩⟩
  ·refine Za (a7 (a7 (cd (aO (bF ac 1 h rfl λf h=>Y8 (au rfl h s rfl (by show _=_;rw [PP h8 (λj hj=>hp1 j (by omega))])))))))
theorem CC (sx:ByteArray) (w:World):Calls Tryz.prog 117 [.string sx].toArray w (bW w (is (.bool (rH sx)))):=by
 refine bG Tryz.func117 rfl Tryz.ntmps117 rfl λf h s=>bF ac 1 h rfl λf h=>cu ac 1 h rfl λf h=>ai h (dd Z7 (h.ev rfl)) rfl λf h=>lL ac (.bool (rH sx)) h rfl (Yu Value.bool (YE.2 (by omega))) rfl λf h=>e9 ac 1 h rfl λf h=>Y8 (au rfl h s rfl (rfl))
theorem Dy (l:List ByteArray) (vh:Value) (w:World) (hR:bp w vh 1 l.length (rQ l)) (hln:l.length<=1000):Calls Tryz.prog 193 [vh,.func (.func 117) #[] #[]].toArray w (bW w (λv _=>∃ r:Int,v=.int .i64 r/\((r = -1/\∀ x∈l,rH x=false)∨∃ k:Nat,k<l.length/\r=(k:Int)/\rH (l.getD k ByteArray.empty)=true))):=by
 refine bG Tryz.func193 rfl Tryz.ntmps193 rfl λf h s=>bF ac 1 h rfl λf h=>ah (cu ac 1 h rfl λf h=>ce h (hR.keep s.ext) aa7 rfl rfl λf h=>e9 ac 1 h rfl λf h=>Y9 (Zb (λnn aa ww=>∃ k:Nat,Sl 19 aa [(0,vh),(1,.func (.func 117) #[] #[]),(6,vh),(7,.int .i64 (l.length:Int)),(8,.int .i64 (k:Int))]/\St w [] ww/\nn=l.length - k/\k<=l.length/\∀ i,i<k->rH (l.getD i ByteArray.empty)=false) (l.length - (0)) ⟨0,h.only ⟨rfl,rfl,rfl,rfl,av rfl (by omega),trivial⟩,s.as trivial,rfl,YO _,λi hi=>ZF hi (Zl _)⟩ ?_))
 rintro _ f w1 ⟨k,h,s,hnn,hp0,hp1⟩
 refine bF ac 1 h rfl λf h=>ah (dq h rfl (λhc=>?_) (λhc=>?_))
 ·refine kt (ah (Y9 (bF ac 2 h rfl λf h=>qr ?_)))
  have hkl:k<l.length:=by omega
  refine ap ac 3 h rfl λf h=>ai h (bz (hR.keep s.ext) (k) aa7 V0 (h.ev rfl) (h.ev rfl) (by omega) (by omega)) rfl λf h=>ag ((hR.keep s.ext).el1 (k) (V:=.string (l.getD k ByteArray.empty)) (P8 hkl)) h hI rfl rfl λf h=>fP [.string (l.getD k ByteArray.empty)] (caps:=[]) h s PH rfl (CC _ _) rfl rfl ?_;intro f w1 v16 hT hE h s;obtain rfl:=hT
  refine nt (cA h rfl (λhc=>?_) (λhc=>?_))
  ·have hc:rH (l.getD k ByteArray.empty)=true:=hc
   refine bF ac 2 h rfl λf h=>Y8 (bo (aV (aV (bo (aV (au rfl h s rfl (⟨_,rfl,.inr ⟨k,hkl,rfl,hc⟩⟩)))))))
  ·have hc:rH (l.getD k ByteArray.empty)=false:=hc
   refine wpIn_skip (bw (aO (aG (ai h (bS (h.ev rfl) (h.ev rfl) (by omega)) rfl λf h=>e9 ac 1 h rfl λf h=>?_))))
   exact ⟨_,by omega,⟨k+1,h.only ⟨rfl,rfl,rfl,rfl,av rfl (by omega),trivial⟩,St.as s trivial,rfl,by omega,gX (q:=λj=>rH (l.getD j ByteArray.empty)) hp1 hc⟩⟩
 ·refine Za (a7 (a7 (cd (aO (bF ac 1 h rfl λf h=>Y8 (au rfl h s rfl (⟨_,rfl,.inl ⟨rfl,λx hx=>(by obtain ⟨i,hi,rfl⟩:=List.mem_iff_getElem.1 hx;rw [T6 hi];exact hp1 i (by omega))⟩⟩)))))))
theorem D3 (l:List ByteArray) (vh:Value) (w:World) (hR:bp w vh 1 l.length (rQ l)) (hln:l.length<=1000):Calls Tryz.prog 122 [vh,.func (.func 117) #[] #[]].toArray w (bW w (is (.bool (l.any rH)))):=by
 refine bG Tryz.func122 rfl Tryz.ntmps122 rfl λf h s=>bF ac 1 h rfl λf h=>cu ac 2 h rfl λf h=>bB h s PC (Dy l vh _ (hR.keep s.ext) hln) rfl rfl ?_;rintro f w1 v9 ⟨r9,rfl,hr⟩ hE h s
 refine lL ac (.bool (l.any rH)) h rfl (Yu Value.bool (NY hr)) rfl λf h=>e9 ac 1 h rfl λf h=>Y8 (au rfl h s rfl (rfl))
theorem uu (ho:Ho) (vw vh vi:Value)  (w:World) (hHo:gn w vw vh vi ho) (hB9:ho.ws.length<=1000/\ho.hs.length<=1000/\ho.bx.length<=1000):Calls Tryz.prog 69 [.agg (a8 ho.no ho.gt vw vh vi)].toArray w (bW w (is (.bool (bT ho)))):=by
 obtain ⟨hw9,hh9,hi9⟩:=hB9
 refine bG Tryz.func69 rfl Tryz.ntmps69 rfl λf h s=>qr (bh (a8 ho.no ho.gt vw vh vi) h s rfl rfl rfl λf w1 b1 h s=>e9 ac 1 h rfl λf h=>bF ac 1 h rfl λf h=>ah ?_)
 refine rs ac 1 h rfl λf h=>ag (V:=.int .i64 ho.no) (ae (aJ.of_own s 0 rfl) 0 (CH _ _ _ _ _)) h bs rfl rfl λf h=>eK h s Oo (FE ho.no _) rfl rfl (λb0 f w1 h s=>?_) (λb0 f w1 h s=>?_)
 ·refine e9 ac 29 h rfl λf h=>Y8 (au rfl h s rfl (by show _=_;rw [Uz b0]))
 ·skip
  refine ap ac 2 h rfl λf h=>bX h rfl (ag (V:=.int .i64 ho.gt) (ae (aJ.of_own s 0 rfl) 1 (GJ _ _ _ _ _)) h bs rfl rfl λf h=>bX h rfl (eK h s Eg (vu ho.gt _) rfl rfl (λb1 f w1 h s=>?_) (λb1 f w1 h s=>?_)))
  ·refine e9 ac 25 h rfl λf h=>Y8 (au rfl h s rfl (by show _=_;rw [Sq b0 b1]))
  ·skip
   refine ap ac 3 h rfl λf h=>bX h rfl (ag (V:=vw) (ae (aJ.of_own s 0 rfl) 2 (CW _ _ _ _ _)) h sW rfl rfl λf h=>bX h rfl (eK h s Pb (B0 ho.ws vw _ (hHo.1.keep s.ext) hw9) rfl rfl (λb2 f w1 h s=>?_) (λb2 f w1 h s=>?_)))
   ·refine e9 ac 20 h rfl λf h=>Y8 (au rfl h s rfl (by show _=_;rw [TC b0 b1 b2]))
   ·skip
    refine ap ac 3 h rfl λf h=>bX h rfl (ag (V:=vh) (ae (aJ.of_own s 0 rfl) 3 (xZ _ _ _ _ _)) h kO rfl rfl λf h=>bX h rfl (eK h s P3 (Cy ho.hs vh _ (hHo.2.1.keep s.ext) hh9) rfl rfl (λb3 f w1 h s=>?_) (λb3 f w1 h s=>?_)))
    ·refine e9 ac 15 h rfl λf h=>Y8 (au rfl h s rfl (by show _=_;rw [Su b0 b1 b2 b3]))
    ·skip
     refine ap ac 3 h rfl λf h=>bX h rfl (ag (V:=vi) (ae (aJ.of_own s 0 rfl) 4 (Jh _ _ _ _ _)) h rj rfl rfl λf h=>bX h rfl (ce h (hHo.2.2.keep s.ext) aa7 rfl rfl λf h=>bX h rfl (jo ac (decide (ho.bx.length<=32)) h rfl ((YE.2 (by omega))) (λb4 f h=>?_) (λb4 f h=>?_))))
     ·refine e9 ac 9 h rfl λf h=>Y8 (au rfl h s rfl (by show _=_;rw [MS b0 b1 b2 b3 b4];rfl))
     ·refine ap ac 3 h rfl λf h=>bX h rfl (ag (V:=vi) (ae (aJ.of_own s 0 rfl) 4 (Jh _ _ _ _ _)) h rj rfl rfl λf h=>ap ac 1 h rfl λf h=>bX h rfl (da h s NI (D3 ho.bx vi _ (hHo.2.2.keep s.ext) hi9) rfl rfl λf w1 h s=>e9 ac 3 h rfl λf h=>Y8 (au rfl h s rfl (by show _=_;rw [MS b0 b1 b2 b3 b4];rfl))))
theorem lu (ho:Ho) (vw vh vi:Value)  (w:World) (hHo:gn w vw vh vi ho) (hB9:B9 ho):Calls Tryz.prog 30 [.agg (a8 ho.no ho.gt vw vh vi)].toArray w (bW w (is (.bool (bT ho)))):=by
 obtain ⟨hw9,hh9,hi9⟩:=hB9
 refine bG Tryz.func30 rfl Tryz.ntmps30 rfl λf h s=>qr (bh (a8 ho.no ho.gt vw vh vi) h s rfl rfl rfl λf w1 b1 h s=>e9 ac 1 h rfl λf h=>qr (al 0 h s dY rfl rfl (aN _ _ _ _ _) rfl λf h=>bB h s GO (m7 ho vw vh vi _ (hHo.keep s.ext) ⟨hw9,hh9,hi9⟩) rfl rfl ?_));rintro f w1 v4 ⟨oa,ob,oc,rfl,hO⟩ hE h sq;replace s:=s.add hO;clear hO
 have ho1:=bf (bp.of_own (s.getSl 0 rfl))
 have ho2:=bf (bp.of_own (s.getSl 1 rfl))
 have ho3:=bf (bp.of_own (s.getSl 2 rfl))
 obtain ⟨ko,s⟩:=yM s
 refine da h s H9 (uu ho oa ob oc _ (s.getG 0 rfl) ⟨hw9,hh9,hi9⟩) rfl rfl λf w1 h s=>e9 ac 1 h rfl λf h=>Y8 (au rfl h s rfl (rfl))
theorem HT (n g:Int) (w:World):Calls Tryz.prog 85 [.int .i64 n,.int .i64 g].toArray w (bW w (VL w aj aj aj n5 (fE n g) (mF n g))):=by
 refine bG Tryz.func85 rfl Tryz.ntmps85 rfl λf h s=>qr (aS (a8 0 0 aj aj aj) h s m8 rfl rfl λf w1 b4 h s=>e9 ac 1 h rfl λf h=>cu ac 2 h rfl λf h=>ai h (sf Mo (h.ev rfl) (h.ev rfl)) rfl λf h=>aS (a8 0 0 aj aj aj) h s m8 rfl rfl λf w1 b6 h s=>ak 0 h s dY rfl rfl rfl (aN _ _ _ _ _) (aN _ _ _ _ _) (dE _ _ (rfl) (rfl) (rfl)) λw1 s=>nt (ah (ah ?_)))
 refine aG (al 0 h s dY rfl rfl (aN _ _ _ _ _) rfl λf h=>eK h s Hg (lu ⟨n,g,[],[],[]⟩ aj aj aj _ (iM _ n g) ⟨YO _,YO _,YO _⟩) rfl rfl (λr0 f w1 h s=>?_) (λr0 f w1 h s=>?_))
 ·refine e9 ac 1 h rfl λf h=>dQ h rfl (qr (ai h (sM Mo) rfl λf h=>ak 1 h s dY rfl rfl rfl (aN _ _ _ _ _) (aN _ _ _ _ _) (dE _ _ (rfl) (rfl) (rfl)) λw1 s=>e9 ac 1 h rfl λf h=>rt (ct 1 rfl h s dY rfl rfl (aN _ _ _ _ _) rfl (by obtain ⟨e1,e2⟩:=OW ((FS n g).symm.trans r0);rw [e1,e2];exact JE rfl rfl (s.pick _ (YL _))))))
 ·refine e9 ac 1 h rfl λf h=>qC h rfl (qr (al 0 h s dY rfl rfl (aN _ _ _ _ _) rfl λf h=>ak 1 h s dY rfl rfl rfl (aN _ _ _ _ _) (aN _ _ _ _ _) (dE _ _ (rfl) (rfl) (rfl)) λw1 s=>e9 ac 1 h rfl λf h=>Y8 (ct 1 rfl h s dY rfl rfl (aN _ _ _ _ _) rfl (by obtain ⟨e1,e2⟩:=TL ((FS n g).symm.trans r0);rw [e1,e2];exact JU (s.pick _ (YL _))))))
theorem ve (ho:Ho) (vw vh vi:Value) (x:Id) (now:Int) (w:World) (hHo:gn w vw vh vi ho) (hB9:ho.ws.length<=1000/\ho.hs.length<=1000/\ho.bx.length<=1000):Calls Tryz.prog 156 [.agg (a8 ho.no ho.gt vw vh vi),lx x,.int .i64 now].toArray w (bW w (is (.int .i64 (kA ho x now)))):=by
 obtain ⟨hw9,hh9,hi9⟩:=hB9
 refine bG Tryz.func156 rfl Tryz.ntmps156 rfl λf h s=>qr (bh (a8 ho.no ho.gt vw vh vi) h s rfl rfl rfl λf w1 b3 h s=>bh (aA x) h s rfl rfl rfl λf w1 b4 h s=>e9 ac 1 h rfl λf h=>cu ac 1 h rfl λf h=>ag (V:=vh) (ae (aJ.of_own s 1 rfl) 3 (xZ _ _ _ _ _)) h kO rfl rfl λf h=>al 0 h s cJ rfl rfl (by first|exact aF _|exact aE _ _) rfl λf h=>da h s yp (aX (.int .i64 (mt ho x)) (pC ho.hs vh x _ (hHo.2.1.keep s.ext) hh9) (rfl)) rfl rfl λf w1 h s=>e9 ac 1 h rfl λf h=>ah (ah ?_))
 refine rs ac 1 h rfl λf h=>kB ac h rfl (λd0 f h=>?_) (λd0 f h=>?_)
 ·refine e9 ac 10 h rfl λf h=>qC h rfl (cu ac 1 h rfl λf h=>ag (V:=.int .i64 ho.gt) (ae (aJ.of_own s 1 rfl) 1 (GJ _ _ _ _ _)) h bs rfl rfl λf h=>e9 ac 1 h rfl λf h=>Y8 (au rfl h s rfl (by show _=_;rw [NL d0])))
 ·skip
  cases d1:(decide (now<(ho.hs.getD (mt ho x).toNat eV).2.2):Bool)
  ·refine ap ac 1 h rfl λf h=>bX h rfl ?_
   have hpos:=(gv d0).2
   refine ap ac 1 h rfl λf h=>bX h rfl (ag (V:=vh) (ae (aJ.of_own s 1 rfl) 3 (xZ _ _ _ _ _)) h kO rfl rfl λf h=>ap ac 1 h rfl λf h=>bX h rfl (ai h (bz (hHo.2.1.keep s.ext) ((mt ho x).toNat) ab1 lz (h.ev rfl) (h.ev rfl) ((gv d0).1) ((gv d0).2)) rfl λf h=>bX h rfl (ai h (aW pp (h.ev rfl) ((hHo.2.1.keep s.ext).some (by omega))) rfl λf h=>bX h rfl (ag (V:=.int .i64 (ho.hs.getD (mt ho x).toNat eV).2.2) (cX (hHo.2.1.keep s.ext) ((mt ho x).toNat*34+33) (Dw _ _ (gv d0).2)) h bs rfl rfl λf h=>ap ac 1 h rfl λf h=>bX h rfl (kw ac h rfl ((YE.2 (by omega)).trans d1) λf h=>e9 ac 1 h rfl λf h=>qC h rfl (cu ac 1 h rfl λf h=>ag (V:=.int .i64 ho.gt) (ae (aJ.of_own s 1 rfl) 1 (GJ _ _ _ _ _)) h bs rfl rfl λf h=>e9 ac 1 h rfl λf h=>Y8 (au rfl h s rfl (by show _=_;rw [ON d1]))))))))
  ·refine ap ac 1 h rfl λf h=>bX h rfl ?_
   have hpos:=(gv d0).2
   refine ap ac 1 h rfl λf h=>bX h rfl (ag (V:=vh) (ae (aJ.of_own s 1 rfl) 3 (xZ _ _ _ _ _)) h kO rfl rfl λf h=>ap ac 1 h rfl λf h=>bX h rfl (ai h (bz (hHo.2.1.keep s.ext) ((mt ho x).toNat) ab1 lz (h.ev rfl) (h.ev rfl) ((gv d0).1) ((gv d0).2)) rfl λf h=>bX h rfl (ai h (aW pp (h.ev rfl) ((hHo.2.1.keep s.ext).some (by omega))) rfl λf h=>bX h rfl (ag (V:=.int .i64 (ho.hs.getD (mt ho x).toNat eV).2.2) (cX (hHo.2.1.keep s.ext) ((mt ho x).toNat*34+33) (Dw _ _ (gv d0).2)) h bs rfl rfl λf h=>ap ac 1 h rfl λf h=>bX h rfl (gO ac h rfl ((YE.2 (by omega)).trans d1) λf h=>e9 ac 1 h rfl λf h=>dQ h rfl (cu ac 1 h rfl λf h=>ag (V:=vh) (ae (aJ.of_own s 1 rfl) 3 (xZ _ _ _ _ _)) h kO rfl rfl λf h=>ap ac 1 h rfl λf h=>ai h (bz (hHo.2.1.keep s.ext) ((mt ho x).toNat) ab1 lz (h.ev rfl) (h.ev rfl) ((gv d0).1) ((gv d0).2)) rfl λf h=>ai h (aW wg (h.ev rfl) ((hHo.2.1.keep s.ext).some (by omega))) rfl λf h=>ag (V:=.int .i64 (ho.hs.getD (mt ho x).toNat eV).2.1) (cX (hHo.2.1.keep s.ext) ((mt ho x).toNat*34+32) (Oi _ _ (gv d0).2)) h bs rfl rfl λf h=>e9 ac 1 h rfl λf h=>rt (au rfl h s rfl (by show _=_;rw [TR d0 d1]))))))))
theorem Kf (l:List cO) (hln:l.length<=1000) (a9:Option Addr) (n9 c9:Nat) (w:World) (hR:bp w (.slice a9 n9 c9) 34 l.length (db l)):Calls Tryz.prog 159 [.slice a9 n9 c9].toArray w (bW w (λv w'=>cq w' w.heap.size 48 34 v l.length (db l))):=by
 refine bG Tryz.func159 rfl Tryz.ntmps159 rfl λf h s=>bF ac 1 h rfl λf h=>ah (ah ?_)
 cases hn:(a9.isNone:Bool)
 ·refine rs ac 1 h rfl λf h=>ai h (bq (.bool false) (bR aa2 (h.ev rfl) (h.ev rfl)) (Yu Value.bool hn)) rfl λf h=>f7 h rfl (qr (ej (base:=w.heap.size) h aa2 Bt (YM _) rfl λf w2 v5 h hE3 e5=>ap ac 1 h rfl λf h=>dh (base:=w.heap.size) e5 (hR.keep hE3) h aa2 Bt rfl rfl hE3.le (wD _) (by unfold maxLen;omega) (by omega) rfl λf w3 v7 h hE4 e7=>?_))
  replace s:=s.sl_new (hE3.trans hE4) e7
  refine e9 ac 1 h rfl λf h=>Y8 (au rfl h s rfl (s.getSl 0 rfl))
 ·refine rs ac 1 h rfl λf h=>ai h (bq (.bool true) (bR aa2 (h.ev rfl) (h.ev rfl)) (Yu Value.bool hn)) rfl λf h=>ie h rfl (bF ac 1 h rfl λf h=>rt (au rfl h s rfl (by obtain rfl:=fO hn hR;exact dT _ _ _ _)))
theorem wb (l:List cO) (hln:l.length<=1000) (v9:Value) (w:World) (hR:bp w v9 34 l.length (db l)):Calls Tryz.prog 159 [v9].toArray w (bW w (λv w'=>cq w' w.heap.size 48 34 v l.length (db l))):=by
 obtain ⟨a,c,rfl⟩:=hR.len
 exact Kf l hln a _ c w hR
theorem H8 (ho:Ho) (vw vh vi:Value)  (w:World) (h1:vw.oneCell'=true) (h2:vh.oneCell'=true) (h3:vi.oneCell'=true):Calls Tryz.prog 155 [.agg (a8 ho.no ho.gt vw vh vi)].toArray w (bW w (is (.agg (co (gh ho))))):=by
 refine bG Tryz.func155 rfl Tryz.ntmps155 rfl λf h s=>qr (bh (a8 ho.no ho.gt vw vh vi) h s rfl rfl rfl λf w1 b1 h s=>aS (co (0,0#256,0)) h s yG rfl rfl λf w1 b2 h s=>nt (cu ac 1 h rfl λf h=>ag (V:=.int .i64 ho.no) (ae (aJ.of_own s 1 rfl) 0 (CH _ _ _ _ _)) h bs rfl rfl λf h=>ai h (nj xX rfl (h.ev rfl)) rfl λf h=>ak 0 h s eQ rfl rfl rfl (br _) (br _) (go _) λw1 s=>nt (Y8 (nq 0 rfl h s eQ rfl rfl (br _) (rfl)))))
set_option maxHeartbeats 2000000 in
theorem HO (ho:Ho) (vw vh vi:Value) (now:Int) (w:World) (hHo:gn w vw vh vi ho) (hB9:B9 ho):Calls Tryz.prog 91 [.agg (a8 ho.no ho.gt vw vh vi),.int .i64 now].toArray w (bW w (Wj w vw vh vi ho (eB ho now) (uU ho now))):=by
 obtain ⟨hw9,hh9,hi9⟩:=hB9
 refine bG Tryz.func91 rfl Tryz.ntmps91 rfl λf h s=>qr (bh (a8 ho.no ho.gt vw vh vi) h s rfl rfl rfl λf w1 b2 h s=>e9 ac 2 h rfl λf h=>qr (al 0 h s dY rfl rfl (aN _ _ _ _ _) rfl λf h=>bB h s GO (m7 ho vw vh vi _ (hHo.keep s.ext) ⟨hw9,hh9,hi9⟩) rfl rfl ?_));rintro f w1 v12 ⟨oa,ob,oc,rfl,hO⟩ hE h sq;replace s:=s.add hO;clear hO
 have ho1:=bf (bp.of_own (s.getSl 0 rfl))
 have ho2:=bf (bp.of_own (s.getSl 1 rfl))
 have ho3:=bf (bp.of_own (s.getSl 2 rfl))
 obtain ⟨ko,s⟩:=yM s
 refine aS (a8 0 0 aj aj aj) h s oB rfl rfl λf w1 b6 h s=>ak 0 h s gJ rfl rfl rfl (aN _ _ _ _ _) (aN _ _ _ _ _) (dE _ _ (ho1) (ho2) (ho3)) λw1 s=>nt (ah (ah ?_))
 refine aG (al 0 h s gJ rfl rfl (aN _ _ _ _ _) rfl λf h=>eK h s H9 (uu ho oa ob oc _ (s.getG 1 rfl) ⟨hw9,hh9,hi9⟩) rfl rfl (λr0 f w1 h s=>?_) (λr0 f w1 h s=>?_))
 ·refine e9 ac 6 h rfl λf h=>dQ h rfl (bF ac 2 h rfl λf h=>rt (lr rfl h s rfl rfl (Ao (D2 λe9=>by rw [r0] at e9;cases e9.1) (s.pick _ (YL _)))))
 ·skip
  refine ap ac 3 h rfl λf h=>bX h rfl (eK h s yC (m5 now _) rfl rfl (λn0 f w1 h s=>?_) (λn0 f w1 h s=>?_))
  ·refine e9 ac 2 h rfl λf h=>dQ h rfl (bF ac 2 h rfl λf h=>rt (lr rfl h s rfl rfl (Ao (D2 λe9=>by rw [dJ.2 e9.2] at n0;cases n0) (s.pick _ (YL _)))))
  ·refine e9 ac 2 h rfl λf h=>qC h rfl (bF ac 1 h rfl λf h=>ah (qr ?_))
   replace s:=s.nilSl 166 139
   refine ap ac 1 h rfl λf h=>ag (V:=oa) (ae (aJ.of_own s 1 rfl) 2 (CW _ _ _ _ _)) h sW rfl rfl λf h=>ce h ((s.getG 2 rfl).1) ab0 rfl rfl λf h=>e9 ac 1 h rfl λf h=>Y9 (Zb (λnn aa ww=>∃ k:Nat,∃ vb:Value,Sl 49 aa [(0,.agg (a8 ho.no ho.gt vw vh vi)),(1,.int .i64 now),(2,.pointer (some ⟨b2,0,none⟩)),(6,.pointer (some ⟨b6,0,none⟩)),(7,vb),(22,oa),(23,.int .i64 (ho.ws.length:Int)),(24,.int .i64 (k:Int))]/\St w [.sl vb 166 139 (nS ho now k).length (dm (nS ho now k)),.blk b6 (.cells (a8 ho.no ho.gt oa ob oc) 131),(.grp ko (λw9=>gn w9 oa ob oc ho)),.blk b2 (.cells (a8 ho.no ho.gt vw vh vi) 66)] ww/\nn=ho.ws.length - k/\k<=ho.ws.length) (ho.ws.length - (0)) ⟨0,aj,h.only ⟨rfl,rfl,rfl,rfl,rfl,rfl,rfl,av rfl (by omega),trivial⟩,s.as ⟨rfl,rfl,rfl,rfl,trivial⟩,rfl,YO _⟩ ?_)
   rintro _ f w1 ⟨k,vb,h,s,hnn,hp0⟩
   refine bF ac 1 h rfl λf h=>ah (dq h rfl (λhc=>?_) (λhc=>?_))
   ·refine kt (ah (Y9 (qr ?_)))
    have hkl:k<ho.ws.length:=by omega
    have hak:=KW (h:=ho) (now:=now) (k:=k) (by omega)
    refine ai h (bz ((s.getG 2 rfl).1) (k) ab0 pX (h.ev rfl) (h.ev rfl) (by omega) (by omega)) rfl λf h=>aB (((s.getG 2 rfl).1).el (k) (by omega) (by decide) (D:=cP (ho.ws.getD k dR)) (Ag _ k hkl)) h gL rfl (ck _) rfl λf h=>aS (cP dR) h s Bl rfl rfl λf w1 b9 h s=>ak 0 h s gL rfl rfl rfl (ck _) (ck _) (iX _) λw1 s=>nt (ah (eu 0 9 [[],[0],[0,1],[],[0,1,2,3],[],[5],[0,1,2,3,4,5,6],[],[0,1,2,3,4,5,6,7,8]] [[],[],[],[],[],[],[],[],[],[]] [] [.v _,.v (.agg (aA (ho.ws.getD k dR).1)),.v (.agg (aA (ho.ws.getD k dR).1)),.v (.agg (a8 ho.no ho.gt oa ob oc)),.v (.agg (co (gh ho))),.v _,.v (.int .i64 (ho.ws.getD k dR).2),.v (.agg (cW (yv ho (ho.ws.getD k dR)) aj)),.q (λv=>[.blk (tZ (v 8)) (.cells (cW mZ aj) 164)]),.n] _ h s rfl (by kernel_rfl) (by kernel_rfl) (by kernel_rfl) (fB ac h rfl rfl rfl (cp ?_ (cp ?_ (cp ?_ (cp ?_ (fB ac h rfl rfl rfl (cp ?_ (cp ?_ (cp ?_ (trivial)))))))))) [0,1,2,3,4,5,6,7,8] (by kernel_rfl) ?_))
    ·intro f9 w2 vl8 E9 hs9 hd9 hl hF s
     have h:=cG [(28,_)] h hs9 hd9 ⟨bg hl 28 0 (by kernel_rfl) (hF 0 (by decide)),trivial⟩
     refine aB (aJ.subL (aJ.of_own s 0 rfl) 0 32 (D:=aA (ho.ws.getD k dR).1) (lW _)) h Ea rfl (by first|exact aF _|exact aE _ _) rfl λf h=>ay ⟨_,bk 29 h rfl rfl,rfl,s⟩
    ·intro f9 w2 vl8 E9 hs9 hd9 hl hF s
     have h:=cG [(29,_)] h hs9 hd9 ⟨bg hl 29 1 (by kernel_rfl) (hF 1 (by decide)),trivial⟩
     refine da h s ju (gR (ho.ws.getD k dR).1 _) rfl rfl λf w1 h s=>ay ⟨_,bk 30 h rfl rfl,rfl,s⟩
    ·intro f9 w2 vl8 E9 hs9 hd9 hl hF s
     have h:=cG [(6,_)] h hs9 hd9 ⟨fh hl 6 (by kernel_rfl) (h.holds 6 _ rfl),trivial⟩
     refine al 2 h s gJ rfl rfl (aN _ _ _ _ _) rfl λf h=>ay ⟨_,bk 31 h rfl rfl,rfl,s⟩
    ·intro f9 w2 vl8 E9 hs9 hd9 hl hF s
     have h:=cG [(31,_)] h hs9 hd9 ⟨bg hl 31 3 (by kernel_rfl) (hF 3 (by decide)),trivial⟩
     refine da h s OS (H8 ho oa ob oc _ ho1 ho2 ho3) rfl rfl λf w1 h s=>ay ⟨_,bk 32 h rfl rfl,rfl,s⟩
    ·intro f9 w2 vl8 E9 hs9 hd9 hl hF s
     have h:=cG [(33,_)] h hs9 hd9 ⟨bg hl 33 5 (by kernel_rfl) (hF 5 (by decide)),trivial⟩
     refine ag (V:=.int .i64 (ho.ws.getD k dR).2) (ae (aJ.of_own s 0 rfl) 32 (iQ _)) h bs rfl rfl λf h=>ay ⟨_,bk 34 h rfl rfl,rfl,s⟩
    ·intro f9 w2 vl8 E9 hs9 hd9 hl hF s
     have h:=cG [(30,_),(32,_),(34,_)] h hs9 hd9 ⟨bg hl 30 2 (by kernel_rfl) (hF 2 (by decide)),bg hl 32 4 (by kernel_rfl) (hF 4 (by decide)),bg hl 34 6 (by kernel_rfl) (hF 6 (by decide)),trivial⟩
     refine ai h (pv Pv rfl (h.ev rfl) (h.ev rfl) (h.ev rfl)) rfl λf h=>ay ⟨_,bk 35 h rfl rfl,rfl,s⟩
    ·intro f9 w2 vl8 E9 hs9 hd9 hl hF s
     have h:=cU [] (hs9.trans h.size) (hd9.trans h.defers) (holds_lk trivial)
     refine aS (cW mZ aj) h s ug rfl rfl λf w1 b10 h s=>ay ⟨_,bk 10 h rfl rfl,⟨_,rfl⟩,s⟩
    intro f w1 vl8 hs9 hd9 hv hr hF s
    replace hv:=λi d h9=>hv i d (show Nat.blt i 9=true from h9)
    obtain ⟨b10,hb10⟩:∃ b,vl8 8=.pointer (some ⟨b,0,none⟩):=hF 8 (by kernel_rfl)
    replace h:=dN 9 (ops:=_) [(28,_),(29,_),(30,_),(31,_),(32,_),(33,_),(34,_),(35,_),(10,.pointer (some ⟨b10,0,none⟩))] h hs9 hd9 hr ⟨(hv 0 28 rfl rfl).trans (hF 0 rfl),(hv 1 29 rfl rfl).trans (hF 1 rfl),(hv 2 30 rfl rfl).trans (hF 2 rfl),(hv 3 31 rfl rfl).trans (hF 3 rfl),(hv 4 32 rfl rfl).trans (hF 4 rfl),(hv 5 33 rfl rfl).trans (hF 5 rfl),(hv 6 34 rfl rfl).trans (hF 6 rfl),(hv 7 35 rfl rfl).trans (hF 7 rfl),(hv 8 10 rfl rfl).trans hb10,trivial⟩ (by kernel_rfl)
    replace s:St w [.blk (tZ (vl8 8)) (.cells (cW mZ aj) 164),.blk b9 (.cells (cP (ho.ws.getD k dR)) 197),.sl vb 166 139 (nS ho now k).length (dm (nS ho now k)),.blk b6 (.cells (a8 ho.no ho.gt oa ob oc) 131),(.grp ko (λw9=>gn w9 oa ob oc ho)),.blk b2 (.cells (a8 ho.no ho.gt vw vh vi) 66)] _:=s
    rw [hb10] at s
    replace s:St w [.blk b10 (.cells (cW mZ aj) 164),.blk b9 (.cells (cP (ho.ws.getD k dR)) 197),.sl vb 166 139 (nS ho now k).length (dm (nS ho now k)),.blk b6 (.cells (a8 ho.no ho.gt oa ob oc) 131),(.grp ko (λw9=>gn w9 oa ob oc ho)),.blk b2 (.cells (a8 ho.no ho.gt vw vh vi) 66)] _:=s
    refine ak 0 h s jy rfl rfl rfl (dp _ _) (dp _ _) (kl _ _ rfl) λw1 s=>nt ?_
    replace s:=s.bring 2 rfl
    replace s:St w [.sl vb 166 139 (nS ho now k).length (dm (nS ho now k)),.blk b10 (.cells (cW (yv ho (ho.ws.getD k dR)) aj) 164),.blk b9 (.cells (cP (ho.ws.getD k dR)) 197),.blk b6 (.cells (a8 ho.no ho.gt oa ob oc) 131),(.grp ko (λw9=>gn w9 oa ob oc ho)),.blk b2 (.cells (a8 ho.no ho.gt vw vh vi) 66)] _:=s
    refine eu 1 11 [[],[],[],[2],[2,3],[],[1,2,3,4,5],[],[1,2,3,4,5,6,7],[1,2,3,4,5,6,7,8],[0,1,2,3,4,5,6,7,8,9],[0,1,2,3,4,5,6,7,8,9,10]] [[],[],[],[],[],[],[],[],[],[],[9,12],[]] [[_]] [.v _,.v (.agg (a8 ho.no ho.gt oa ob oc)),.v _,.v (.agg (aA (ho.ws.getD k dR).1)),.v (.agg (aA (ho.ws.getD k dR).1)),.v _,.v (.int .i64 (kA ho (ho.ws.getD k dR).1 now)),.v (.agg (cW (yv ho (ho.ws.getD k dR)) aj)),.v (.agg (bK (kA ho (ho.ws.getD k dR).1 now) (yv ho (ho.ws.getD k dR)) aj eg)),.m (λv=>[.sl (v 9) 166 139 1 (dm [((mf ho now (ho.ws.getD k dR),aj):S2)])]),.m (λv=>[.sl (v 10) 166 139 ((nS ho now k)++[((mf ho now (ho.ws.getD k dR),aj):S2)]).length (dm ((nS ho now k)++[((mf ho now (ho.ws.getD k dR),aj):S2)]))]),.n] _ h s rfl (by kernel_rfl) (by kernel_rfl) (by kernel_rfl) (fB ac h rfl rfl rfl (cp ?_ (fB ac h rfl rfl rfl (cp ?_ (cp ?_ (fB ac h rfl rfl rfl (cp ?_ (cp ?_ (cp ?_ (cp ?_ (cp ?_ (trivial)))))))))))) [0,1,2,3,4,5,6,7,8,10] (by kernel_rfl) ?_
    ·intro f9 w2 vl9 E9 hs9 hd9 hl hF s
     have h:=cG [(6,_)] h hs9 hd9 ⟨fh hl 6 (by kernel_rfl) (h.holds 6 _ rfl),trivial⟩
     refine al 2 h s gJ rfl rfl (aN _ _ _ _ _) rfl λf h=>ay ⟨_,bk 37 h rfl rfl,rfl,s⟩
    ·intro f9 w2 vl9 E9 hs9 hd9 hl hF s
     have h:=cG [(38,_)] h hs9 hd9 ⟨bg hl 38 2 (by kernel_rfl) (hF 2 (by decide)),trivial⟩
     refine aB (aJ.subL (aJ.of_own s 1 rfl) 0 32 (D:=aA (ho.ws.getD k dR).1) (lW _)) h Ea rfl (by first|exact aF _|exact aE _ _) rfl λf h=>ay ⟨_,bk 39 h rfl rfl,rfl,s⟩
    ·intro f9 w2 vl9 E9 hs9 hd9 hl hF s
     have h:=cG [(39,_)] h hs9 hd9 ⟨bg hl 39 3 (by kernel_rfl) (hF 3 (by decide)),trivial⟩
     refine da h s ju (gR (ho.ws.getD k dR).1 _) rfl rfl λf w1 h s=>ay ⟨_,bk 40 h rfl rfl,rfl,s⟩
    ·intro f9 w2 vl9 E9 hs9 hd9 hl hF s
     have h:=cG [(37,_),(40,_),(41,_)] h hs9 hd9 ⟨bg hl 37 1 (by kernel_rfl) (hF 1 (by decide)),bg hl 40 4 (by kernel_rfl) (hF 4 (by decide)),bg hl 41 5 (by kernel_rfl) (hF 5 (by decide)),trivial⟩
     refine da h s HC (ve ho oa ob oc (ho.ws.getD k dR).1 now _ (s.getG 3 rfl) ⟨hw9,hh9,hi9⟩) rfl rfl λf w1 h s=>ay ⟨_,bk 42 h rfl rfl,rfl,s⟩
    ·intro f9 w2 vl9 E9 hs9 hd9 hl hF s
     have h:=cG [(10,_)] h hs9 hd9 ⟨fh hl 10 (by kernel_rfl) (h.holds 10 _ rfl),trivial⟩
     refine al 0 h s jy rfl rfl (dp _ _) rfl λf h=>ay ⟨_,bk 43 h rfl rfl,rfl,s⟩
    ·intro f9 w2 vl9 E9 hs9 hd9 hl hF s
     have h:=cG [(42,_),(43,_)] h hs9 hd9 ⟨bg hl 42 6 (by kernel_rfl) (hF 6 (by decide)),bg hl 43 7 (by kernel_rfl) (hF 7 (by decide)),trivial⟩
     refine ai h (iw pB (h.ev rfl) (h.ev rfl)) rfl λf h=>ay ⟨_,bk 44 h rfl rfl,rfl,s⟩
    ·intro f9 w2 vl9 E9 hs9 hd9 hl hF s
     have h:=cG [(44,_)] h hs9 hd9 ⟨bg hl 44 8 (by kernel_rfl) (hF 8 (by decide)),trivial⟩
     refine cT (vs:=[.agg (bK (kA ho (ho.ws.getD k dR).1 now) (yv ho (ho.ws.getD k dR)) aj eg)]) [.tmp 44] h s ac4 GF rfl rfl (SL ((mf ho now (ho.ws.getD k dR),aj):S2)) rfl rfl rfl λf w1 v45 h s=>?_
     replace s:=s.resl (m:=1) (ys:=dm [((mf ho now (ho.ws.getD k dR),aj):S2)]) 0 rfl rfl (by exact N4 [] ((mf ho now (ho.ws.getD k dR),aj):S2))
     exact ay ⟨_,bk 45 h rfl rfl,trivial,s⟩
    ·intro f9 w2 vl9 E9 hs9 hd9 hl hF s
     have e36:f9.tmps.getD 36 undef=vb:=(du hl 36 0 (by kernel_rfl) (by kernel_rfl)).trans (hF 0 (by decide))
     have e45:f9.tmps.getD 45 undef=(vl9 9):=du hl 45 9 (by kernel_rfl) (by kernel_rfl)
     have h:=cU [(36,vb),(45,(vl9 9))] (hs9.trans h.size) (hd9.trans h.defers) (holds_lk ⟨e36,e45,trivial⟩)
     refine ei 1 0 h s ac4 GF rfl rfl rfl rfl (by decide) (Kp (K:=[((mf ho now (ho.ws.getD k dR),aj):S2)]) (w:=w) (ES (Ae _) (bU _))) (by show _+1<=_;unfold maxLen;omega) (by show (_+1)*_<=_;omega) rfl λf w1 v46 h s=>?_
     replace s:=s.pick _ (YN _ _)
     replace s:=s.resl (m:=((nS ho now k)++[((mf ho now (ho.ws.getD k dR),aj):S2)]).length) (ys:=dm ((nS ho now k)++[((mf ho now (ho.ws.getD k dR),aj):S2)])) 0 rfl (by rw [Yy];rfl) (by rw [nE])
     exact ay ⟨_,bk 46 h rfl rfl,trivial,s⟩
    intro f w1 vl9 hs9 hd9 hv hr hF s
    replace hv:=λi d h9=>hv i d (show Nat.blt i 11=true from h9)
    replace h:=dN 11 (ops:=_) [(36,_),(37,_),(38,_),(39,_),(40,_),(41,_),(42,_),(43,_),(44,_),(45,(vl9 9)),(46,(vl9 10))] h hs9 hd9 hr ⟨(hv 0 36 rfl rfl).trans (hF 0 rfl),(hv 1 37 rfl rfl).trans (hF 1 rfl),(hv 2 38 rfl rfl).trans (hF 2 rfl),(hv 3 39 rfl rfl).trans (hF 3 rfl),(hv 4 40 rfl rfl).trans (hF 4 rfl),(hv 5 41 rfl rfl).trans (hF 5 rfl),(hv 6 42 rfl rfl).trans (hF 6 rfl),(hv 7 43 rfl rfl).trans (hF 7 rfl),(hv 8 44 rfl rfl).trans (hF 8 rfl),hv 9 45 rfl rfl,hv 10 46 rfl rfl,trivial⟩ (by kernel_rfl)
    replace s:St w [.sl (vl9 10) 166 139 ((nS ho now k)++[((mf ho now (ho.ws.getD k dR),aj):S2)]).length (dm ((nS ho now k)++[((mf ho now (ho.ws.getD k dR),aj):S2)])),.blk b10 (.cells (cW (yv ho (ho.ws.getD k dR)) aj) 164),.blk b9 (.cells (cP (ho.ws.getD k dR)) 197),.blk b6 (.cells (a8 ho.no ho.gt oa ob oc) 131),(.grp ko (λw9=>gn w9 oa ob oc ho)),.blk b2 (.cells (a8 ho.no ho.gt vw vh vi) 66)] _:=s
    refine ap ac 1 h rfl λf h=>ay (bw (aO (aG (ai h (bS (h.ev rfl) (h.ev rfl) (by omega)) rfl λf h=>e9 ac 1 h rfl λf h=>?_))))
    exact ⟨_,by omega,⟨k+1,(vl9 10),h.only ⟨rfl,rfl,rfl,rfl,rfl,rfl,rfl,av rfl (by omega),trivial⟩,St.as (s.pick _ (Yo _ (Yp _ (Yp _ (Yo _ (Yo _ (Yo _ (YL _)))))))) ⟨ge (by rw [L5 hkl]) (by rw [L5 hkl]),rfl,rfl,rfl,trivial⟩,rfl,by omega⟩⟩
   ·refine Za (a7 (a7 (cd (aO (bF ac 3 h rfl λf h=>Y8 (lr rfl h s rfl rfl (by obtain rfl:k=ho.ws.length:=(by omega);exact P1 (L6 ⟨r0,dJ.1 n0⟩) (s.sel [0] rfl (by decide)))))))))
end Go.Proofs.YtkhepdpfdhdlaaaGreatDoor
