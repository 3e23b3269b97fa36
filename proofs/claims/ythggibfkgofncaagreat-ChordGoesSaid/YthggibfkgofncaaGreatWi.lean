/- What Leave of package chord answers. -/
import Derived.Test.YthggibfkgofncaaGreatWe
import Derived.Test.YthggibfkgofncaaGreatWh
set_option linter.unusedVariables false
set_option linter.unusedSimpArgs false
set_option linter.unusedSectionVars false
namespace Go.Proofs.YthggibfkgofncaaGreat
open Go.RowKit
theorem ta (l:List Mb) (vh:Value) (g9:Nat) (caps:List Value) (p:Mb→Bool) (w:World) (hR:bX w vh 33 l.length (ar l)) (hln:l.length≤1000) (hg:Fnc Tryz.prog g9) (hp:∀ w9,Ext w w9→∀ x∈l,Calls Tryz.prog g9 (.agg (av x)::caps).toArray w9 (cU w9 (is (.bool (p x))))):Calls Tryz.prog 98 [vh,.func (.func g9) #[] caps.toArray].toArray w (cU w (fun v w'=>cS w' w.heap.size 28 33 v (l.filter p).length (ar (l.filter p)))):=by
 refine bq Tryz.func98 rfl Tryz.ntmps98 rfl [(0,vh),(1,.func (.func g9) #[] caps.toArray)] (by simp) fun f h=>?_
 have s:=St.start w
 refine al fun K1 hK1=>?_
 refine ae ?_
 refine ac h (ak (h.ev rfl)) rfl ?_;intro f h
 refine ah ?_
 refine hK1 _ _ ?_
 refine al fun K2 hK2=>?_
 refine ae ?_
 refine ac h (ak (h.ev rfl)) rfl ?_;intro f h
 refine ah ?_
 refine hK2 _ _ ?_
 refine al fun K3 hK3=>?_
 refine al fun K4 hK4=>?_
 refine ae ?_
 replace s:=s.nilSl 28 33
 refine ac h (ag (h.ev rfl)) rfl ?_;intro f h
 refine ac h (a8 (hR.keep s.ext) Tryz.underlying36 (h.ev rfl)) rfl ?_;intro f h
 refine ac h (ag (h.ev rfl)) rfl ?_;intro f h
 refine ah ?_
 refine hK4 _ _ ?_
 refine wpIn_block ?_
 refine wpIn_loop_ghost (fun nn aa ww=>∃ k:Nat,∃ vb:Value,Sl 23 aa [(0,vh),(1,.func (.func g9) #[] caps.toArray),(5,vb),(8,vh),(9,.int .i64 (l.length:Int)),(10,.int .i64 (k:Int))]∧St w [.sl vb 28 33 ((l.take k).filter p).length (ar ((l.take k).filter p))] ww∧nn=l.length - k∧k≤l.length) (l.length - (0)) ⟨0,(Value.slice none 0 0),h.only ⟨rfl,rfl,rfl,rfl,rfl,rfl,trivial⟩,s.as ⟨rfl,trivial⟩,rfl,Nat.zero_le _⟩ ?_
 rintro _ f w1 ⟨k,vb,h,s,hnn,hp0⟩
 refine al fun K5 hK5=>?_
 refine ae ?_
 refine ac h (bS (h.ev rfl) (h.ev rfl)) rfl ?_;intro f h
 refine ah ?_
 refine hK5 _ _ ?_
 refine al fun K6 hK6=>?_
 refine bK h rfl (fun hc=>?_) (fun hc=>?_)
 ·replace hc:=of_decide_eq_true hc
  refine wpIn_skip ?_
  refine hK6 _ _ ?_
  refine al fun K7 hK7=>?_
  refine wpIn_block ?_
  refine al fun K8 hK8=>?_
  refine ae ?_
  refine ac h (cc (hR.keep s.ext) (k) Tryz.underlying36 cD (h.ev rfl) (h.ev rfl) (rfl) (by omega)) rfl ?_;intro f h
  have hkl:k<l.length:=by omega
  refine ax ((hR.keep s.ext).el (k) (by omega) (by decide) (D:=av (l.getD k aZ)) (cI l k hkl)) h aC rfl (aj _) rfl ?_;intro f h
  refine bf (av aZ) h s cB rfl rfl ?_;intro f w1 b7 h s
  refine az 0 h s aC rfl rfl rfl (aj _) (aj _) (aS _) ?_;intro w1 s
  refine ah ?_
  refine hK8 _ _ ?_
  refine al fun K9 hK9=>?_
  refine ae ?_
  refine ac h (ag (h.ev rfl)) rfl ?_;intro f h
  refine au 0 h s aC rfl rfl (aj _) rfl ?_;intro f h
  refine dM [.agg (av (l.getD k aZ))] (caps:=caps) h s hg rfl (hp _ s.ext _ (eG hkl)) rfl rfl ?_;intro f w1 v9 hT hE h s;obtain rfl:=hT
  refine ah ?_
  refine hK9 _ _ ?_
  refine bK h rfl (fun hc=>?_) (fun hc=>?_)
  ·refine ae ?_
   refine ac h (ag (h.ev rfl)) rfl ?_;intro f h
   refine au 0 h s aC rfl rfl (aj _) rfl ?_;intro f h
   refine cm (vs:=[.agg (av (l.getD k aZ))]) [.tmp 18] h s Tryz.underlying36 c8 rfl rfl (eI _) rfl rfl rfl ?_;intro f w1 v19 h s
   refine dP 2 0 h s Tryz.underlying36 c8 rfl rfl rfl rfl (by decide) (by rw [dh];exact aS _) (by have:=pN l p k;unfold maxLen;omega) (by have:=pN l p k;omega) rfl ?_;intro f w1 v20 h s
   replace s:=s.pick _ (List.sublist_cons_self _ _)
   replace s:=s.resl (m:=((l.take (k+1)).filter p).length) (ys:=ar ((l.take (k+1)).filter p)) 1 rfl (by rw [rm hkl hc,List.length_append];rfl) (by rw [rm hkl hc,dh,gA])
   refine ac h (ak (h.ev rfl)) rfl ?_;intro f h
   refine ah ?_
   refine bF ?_
   refine hK7 _ _ ?_
   refine ae ?_
   refine ac h (ce (h.ev rfl) (h.ev rfl) (by omega)) rfl ?_;intro f h
   refine ac h (ag (h.ev rfl)) rfl ?_;intro f h
   refine ah ?_
   refine bT ?_
   exact ⟨_,by omega,⟨k+1,v20,h.only ⟨rfl,rfl,rfl,rfl,rfl,aO rfl (by omega),trivial⟩,St.as (s.pick _ (List.sublist_append_right [_] _)) ⟨rfl,trivial⟩,rfl,by omega⟩⟩
  ·refine wpIn_skip ?_
   refine bF ?_
   refine hK7 _ _ ?_
   refine ae ?_
   refine ac h (ce (h.ev rfl) (h.ev rfl) (by omega)) rfl ?_;intro f h
   refine ac h (ag (h.ev rfl)) rfl ?_;intro f h
   refine ah ?_
   refine bT ?_
   exact ⟨_,by omega,⟨k+1,vb,h.only ⟨rfl,rfl,rfl,rfl,rfl,aO rfl (by omega),trivial⟩,St.as (s.pick _ (List.sublist_append_right [_] _)) ⟨gX (by rw [sw hkl hc]) (by rw [sw hkl hc]),trivial⟩,rfl,by omega⟩⟩
 ·replace hc:=of_decide_eq_false hc
  refine wpIn_exit ?_
  refine bJ ?_
  refine bJ ?_
  refine cC ?_
  refine hK3 _ _ ?_
  refine al fun K10 hK10=>?_
  refine ae ?_
  refine ac h (ag (h.ev rfl)) rfl ?_;intro f h
  refine ac h (ak (h.ev rfl)) rfl ?_;intro f h
  refine ah ?_
  refine hK10 _ _ ?_
  refine wpIn_ret ?_
  exact bo rfl h s rfl ((by obtain rfl:k=l.length:=(by omega);rw [List.take_length] at s;exact(s.getSl 0 rfl)))
theorem eW (m:Mb) (K:List N3) (nos:List Int) (l:List Mb) (vq:Value) (kx bm b9 b8:Nat) (w:World) (h3:w.heap[b9]? = some (.cells #[.pointer (some (a2 vq (kx*68)))] 54)) (h5:w.heap[b8]? = some (.cells #[.map (some bm)] 84)) (hq:bX w vq 68 K.length (aG K)) (hm:w.heap[bm]? = some (d5 nos)) (hk:kx<K.length) (hal:∀ no,decide (no∈nos)=cx l no):Calls Tryz.prog 97 [.agg (av m),.pointer (some ⟨b9,0,none⟩),.pointer (some ⟨b8,0,none⟩)].toArray w (cU w (is (.bool (rA l (K.getD kx z3).1.me.1 m)))):=by
 refine bq Tryz.func97 rfl Tryz.ntmps97 rfl [(0,.agg (av m)),(1,.pointer (some ⟨b9,0,none⟩)),(2,.pointer (some ⟨b8,0,none⟩))] (by simp) fun f h=>?_
 have s:=St.start w
 refine al fun K1 hK1=>?_
 refine ae ?_
 refine bV ((av m)) h s rfl rfl rfl ?_;intro f w1 b3 h s
 refine ac h (ak (h.ev rfl)) rfl ?_;intro f h
 refine ah ?_
 refine hK1 _ _ ?_
 refine al fun K2 hK2=>?_
 cases q0:(decide (m.1≠(K.getD kx z3).1.me.1):Bool)
 ·skip
  refine bH 15 [[],[0],[],[2],[2,3],[2,3,4],[2,3,4,5],[0,1,2,3,4,5,6],[0,1,2,3,4,5,6,7],[0,1,2,3,4,5,6,7,8],[0,1,2,3,4,5,6,7,8],[0,1,2,3,4,5,6,7,8,10],[0,1,2,3,4,5,6,7,8,9,10,11],[0,1,2,3,4,5,6,7,8,9,10,11,12],[0,1,2,3,4,5,6,7,8,9,10,11,12,13]] h (by kernel_rfl) (by kernel_rfl) (by kernel_rfl) ?_
  refine ao h (ai aH (h.ev rfl)) rfl ?_;intro f h
  refine aU (am (aL.of_own s 0 rfl) 0 (aP _)) h bw rfl rfl ?_;intro f h
  refine aU (V:=.pointer (some (a2 vq (kx*68)))) (am (aL.of_blk (dC h3 s.ext)) 0 (rfl)) h ge rfl rfl ?_;intro f h
  refine ao h (bz (h.ev rfl)) rfl ?_;intro f h
  refine ao h (bL aK (h.ev rfl) ((hq.keep s.ext).some (by omega))) rfl ?_;intro f h
  refine ao h (bL aH (h.ev rfl) ((hq.keep s.ext).some (by omega))) rfl ?_;intro f h
  refine aU (V:=.int .i64 (K.getD kx z3).1.me.1) (ez (hq.keep s.ext) (kx*68+0) (ie K kx hk)) h bw rfl rfl ?_;intro f h
  refine ao h (aw (.bool false) (cy (h.ev rfl) (h.ev rfl)) (congrArg Value.bool q0)) rfl ?_;intro f h
  refine ao h (ag (h.ev rfl)) rfl ?_;intro f h
  refine aX (b:=true) h rfl rfl rfl rfl ?_;intro f h
  refine aX (b:=true) h rfl rfl rfl rfl ?_;intro f h
  refine aX (b:=true) h rfl rfl rfl rfl ?_;intro f h
  refine aX (b:=true) h rfl rfl rfl rfl ?_;intro f h
  refine ao h (aF (h.ev rfl) (h.ev rfl)) rfl ?_;intro f h
  refine ao h (ak (h.ev rfl)) rfl ?_;intro f h
  refine ck s fun w1 s=>?_
  refine ah ?_
  refine hK2 _ _ ?_
  refine wpIn_ret ?_
  exact bo rfl h s rfl ((congrArg Value.bool (B1 q0)).symm)
 ·skip
  cases q1:(cx l m.1:Bool)
  ·skip
   refine bH 15 [[],[0],[],[2],[2,3],[2,3,4],[2,3,4,5],[0,1,2,3,4,5,6],[0,1,2,3,4,5,6,7],[0,1,2,3,4,5,6,7,8],[0,1,2,3,4,5,6,7,8],[0,1,2,3,4,5,6,7,8,10],[0,1,2,3,4,5,6,7,8,9,10,11],[0,1,2,3,4,5,6,7,8,9,10,11,12],[0,1,2,3,4,5,6,7,8,9,10,11,12,13]] h (by kernel_rfl) (by kernel_rfl) (by kernel_rfl) ?_
   refine ao h (ai aH (h.ev rfl)) rfl ?_;intro f h
   refine aU (am (aL.of_own s 0 rfl) 0 (aP _)) h bw rfl rfl ?_;intro f h
   refine aU (V:=.pointer (some (a2 vq (kx*68)))) (am (aL.of_blk (dC h3 s.ext)) 0 (rfl)) h ge rfl rfl ?_;intro f h
   refine ao h (bz (h.ev rfl)) rfl ?_;intro f h
   refine ao h (bL aK (h.ev rfl) ((hq.keep s.ext).some (by omega))) rfl ?_;intro f h
   refine ao h (bL aH (h.ev rfl) ((hq.keep s.ext).some (by omega))) rfl ?_;intro f h
   refine aU (V:=.int .i64 (K.getD kx z3).1.me.1) (ez (hq.keep s.ext) (kx*68+0) (ie K kx hk)) h bw rfl rfl ?_;intro f h
   refine ao h (aw (.bool true) (cy (h.ev rfl) (h.ev rfl)) (congrArg Value.bool q0)) rfl ?_;intro f h
   refine ao h (ag (h.ev rfl)) rfl ?_;intro f h
   refine aT h rfl rfl rfl ?_
   refine aU (V:=.map (some bm)) (am (aL.of_blk (dC h5 s.ext)) 0 (rfl)) h jY rfl rfl ?_;intro f h
   refine aT h rfl rfl rfl ?_
   refine ao h (ai aH (h.ev rfl)) rfl ?_;intro f h
   refine aT h rfl rfl rfl ?_
   refine aU (am (aL.of_own s 0 rfl) 0 (aP _)) h bw rfl rfl ?_;intro f h
   refine aT h rfl rfl rfl ?_
   refine cn h rt (fun w9 hE9=>aM (.bool false) (lD nos bm m.1 w9 (dC hm (s.ext.trans hE9))) (congrArg Value.bool ((hal _).trans q1))) rfl rfl ?_;intro f h
   refine ao h (aD (h.ev rfl) (h.ev rfl)) rfl ?_;intro f h
   refine ao h (ak (h.ev rfl)) rfl ?_;intro f h
   refine ck s fun w1 s=>?_
   refine ah ?_
   refine hK2 _ _ ?_
   refine wpIn_ret ?_
   exact bo rfl h s rfl ((congrArg Value.bool ((z6 q0).trans q1)).symm)
  ·skip
   refine bH 15 [[],[0],[],[2],[2,3],[2,3,4],[2,3,4,5],[0,1,2,3,4,5,6],[0,1,2,3,4,5,6,7],[0,1,2,3,4,5,6,7,8],[0,1,2,3,4,5,6,7,8],[0,1,2,3,4,5,6,7,8,10],[0,1,2,3,4,5,6,7,8,9,10,11],[0,1,2,3,4,5,6,7,8,9,10,11,12],[0,1,2,3,4,5,6,7,8,9,10,11,12,13]] h (by kernel_rfl) (by kernel_rfl) (by kernel_rfl) ?_
   refine ao h (ai aH (h.ev rfl)) rfl ?_;intro f h
   refine aU (am (aL.of_own s 0 rfl) 0 (aP _)) h bw rfl rfl ?_;intro f h
   refine aU (V:=.pointer (some (a2 vq (kx*68)))) (am (aL.of_blk (dC h3 s.ext)) 0 (rfl)) h ge rfl rfl ?_;intro f h
   refine ao h (bz (h.ev rfl)) rfl ?_;intro f h
   refine ao h (bL aK (h.ev rfl) ((hq.keep s.ext).some (by omega))) rfl ?_;intro f h
   refine ao h (bL aH (h.ev rfl) ((hq.keep s.ext).some (by omega))) rfl ?_;intro f h
   refine aU (V:=.int .i64 (K.getD kx z3).1.me.1) (ez (hq.keep s.ext) (kx*68+0) (ie K kx hk)) h bw rfl rfl ?_;intro f h
   refine ao h (aw (.bool true) (cy (h.ev rfl) (h.ev rfl)) (congrArg Value.bool q0)) rfl ?_;intro f h
   refine ao h (ag (h.ev rfl)) rfl ?_;intro f h
   refine aT h rfl rfl rfl ?_
   refine aU (V:=.map (some bm)) (am (aL.of_blk (dC h5 s.ext)) 0 (rfl)) h jY rfl rfl ?_;intro f h
   refine aT h rfl rfl rfl ?_
   refine ao h (ai aH (h.ev rfl)) rfl ?_;intro f h
   refine aT h rfl rfl rfl ?_
   refine aU (am (aL.of_own s 0 rfl) 0 (aP _)) h bw rfl rfl ?_;intro f h
   refine aT h rfl rfl rfl ?_
   refine cn h rt (fun w9 hE9=>aM (.bool true) (lD nos bm m.1 w9 (dC hm (s.ext.trans hE9))) (congrArg Value.bool ((hal _).trans q1))) rfl rfl ?_;intro f h
   refine ao h (aD (h.ev rfl) (h.ev rfl)) rfl ?_;intro f h
   refine ao h (ak (h.ev rfl)) rfl ?_;intro f h
   refine ck s fun w1 s=>?_
   refine ah ?_
   refine hK2 _ _ ?_
   refine wpIn_ret ?_
   exact bo rfl h s rfl ((congrArg Value.bool ((z6 q0).trans q1)).symm)
set_option maxHeartbeats 4000000 in
theorem uu (K:List N3) (ks:List Nat) (nos:List Int) (l:List Mb) (vq:Value) (kx bm:Nat) (B9:List Own) (g:Nd) (us uf:Value) (w0 w:World) (s:St w0 (.sl vq 42 68 K.length (aG K)::.grp ks (c6 K)::.blk bm (d5 nos)::B9) w) (hk:kx<K.length) (hkl:K.length≤40) (hrn:RN (K.getD kx z3).1) (hbx:(K.getD kx z3).1.sc.length≤300∧(K.getD kx z3).1.fg.length≤300) (hal:∀ no,decide (no∈nos)=cx l no) (hUs:bX w0 us 33 g.sc.length (ar g.sc)) (hUf:bX w0 uf 33 g.fg.length (ar g.fg)) (hus:g.sc.length≤300):Calls Tryz.prog 65 [.pointer (some (a2 vq (kx*68))),.agg (ay g.me g.pr us uf),.map (some bm)].toArray w (fun e w9=>∃ r,e=.returned r∧∃ du dv kn,St w0 (.sl vq 42 68 (K.set kx ((eK l (K.getD kx z3).1 g,du,dv):N3)).length (aG (K.set kx ((eK l (K.getD kx z3).1 g,du,dv):N3)))::.grp kn (c6 (K.set kx ((eK l (K.getD kx z3).1 g,du,dv):N3)))::.blk bm (d5 nos)::B9) w9):=by
 refine eb Tryz.func65 rfl Tryz.ntmps65 rfl [(0,.pointer (some (a2 vq (kx*68)))),(1,.agg (ay g.me g.pr us uf)),(2,.map (some bm))] (by simp) fun f h=>?_
 refine al fun K1 hK1=>?_
 refine ae ?_
 refine bV (#[.pointer (some (a2 vq (kx*68)))]) h s rfl rfl rfl ?_;intro f w1 b3 h s
 refine bV (ay g.me g.pr us uf) h s rfl rfl rfl ?_;intro f w1 b4 h s
 refine bV (#[.map (some bm)]) h s rfl rfl rfl ?_;intro f w1 b5 h s
 refine ah ?_
 refine hK1 _ _ ?_
 refine al fun K2 hK2=>?_
 refine ae ?_
 refine bR 2 h s ge rfl rfl (rfl) rfl ?_;intro f h
 refine ac h (bz (h.ev rfl)) rfl ?_;intro f h
 refine ax ((bX.of_own (s.getSl 3 rfl)).el (kx) (by omega) (by decide) (D:=ay (K.getD kx z3).1.me (K.getD kx z3).1.pr (K.getD kx z3).2.1 (K.getD kx z3).2.2) (df K kx hk)) h aW rfl (ap _ _ _ _) rfl ?_;intro f h
 refine bf (ay aZ aZ bp bp) h s dL rfl rfl ?_;intro f w1 b6 h s
 refine az 0 h s aW rfl rfl rfl (ap _ _ _ _) (ap _ _ _ _) (a7 (dc ((s.getG 5 rfl _ (bu hk)).1)) (dc ((s.getG 5 rfl _ (bu hk)).2))) ?_;intro w1 s
 refine ah ?_
 refine hK2 _ _ ?_
 refine al fun K3 hK3=>?_
 replace s:=s.bring 4 rfl
 replace s:St w0 (.sl vq 42 68 K.length (aG K)::.blk b6 (.cells (ay (K.getD kx z3).1.me (K.getD kx z3).1.pr (K.getD kx z3).2.1 (K.getD kx z3).2.2) 42)::.blk b5 (.cells (#[.map (some bm)]) 84)::.blk b4 (.cells (ay g.me g.pr us uf) 42)::.blk b3 (.cells (#[.pointer (some (a2 vq (kx*68)))]) 54)::(.grp ks (c6 K))::.blk bm (d5 nos)::B9) _:=s
 have hdn:=Ar (g:=g) hrn
 refine nX 1 [[],[],[],[2],[2,3],[2,3,4],[1,2,3,4,5],[1,2,3,4,5,6],[1,2,3,4,5,6,7],[1,2,3,4,5,6,7],[0,1,2,3,4,5,6,7,8],[0,1,2,3,4,5,6,7,8,10]] [[],[],[],[],[],[],[5],[],[],[],[],[12]] [fun _=>[],fun _=>[],fun _=>[],fun _=>[],fun _=>[],fun v=>[.sl (v 5) 3 1 [g.me.1].length ([g.me.1].map (Value.int .i64))],fun v=>[.sl (bI 66 (v 6)) 28 33 (bD (K.getD kx z3).1 g).sc.length (ar (bD (K.getD kx z3).1 g).sc),.sl (bI 67 (v 6)) 28 33 (bD (K.getD kx z3).1 g).fg.length (ar (bD (K.getD kx z3).1 g).fg)],fun _=>[],fun _=>[],fun _=>[],fun _=>[],fun v=>[.sl vq 42 68 (K.set kx (((bD (K.getD kx z3).1 g),(bI 66 (v 6)),(bI 67 (v 6))):N3)).length (aG (K.set kx (((bD (K.getD kx z3).1 g),(bI 66 (v 6)),(bI 67 (v 6))):N3)))]] [[.sl vq 42 68 K.length (aG K)]] [fun v=>v 0=.pointer (some (a2 vq (kx*68))),fun v=>v 1=.agg (ay (K.getD kx z3).1.me (K.getD kx z3).1.pr (K.getD kx z3).2.1 (K.getD kx z3).2.2),fun v=>v 2=.pointer (some ⟨b4,0,none⟩),fun v=>v 3=.pointer (some ⟨b4,0,none⟩),fun v=>v 4=.int .i64 g.me.1,fun _=>True,fun v=>v 6=.tuple #[.agg (ay (bD (K.getD kx z3).1 g).me (bD (K.getD kx z3).1 g).pr (bI 66 (v 6)) (bI 67 (v 6))),.int .i64 0],fun v=>v 7=.tuple #[.agg (ay (bD (K.getD kx z3).1 g).me (bD (K.getD kx z3).1 g).pr (bI 66 (v 6)) (bI 67 (v 6))),.int .i64 0],fun v=>v 8=.agg (ay (bD (K.getD kx z3).1 g).me (bD (K.getD kx z3).1 g).pr (bI 66 (v 6)) (bI 67 (v 6))),fun v=>v 9=.int .i64 0,fun v=>v 10=.pointer (some (a2 vq (kx*68))),fun _=>True] (.blk b6 (.cells (ay (K.getD kx z3).1.me (K.getD kx z3).1.pr (K.getD kx z3).2.1 (K.getD kx z3).2.2) 42)::.blk b5 (.cells (#[.map (some bm)]) 84)::.blk b4 (.cells (ay g.me g.pr us uf) 42)::.blk b3 (.cells (#[.pointer (some (a2 vq (kx*68)))]) 54)::(.grp ks (c6 K))::.blk bm (d5 nos)::B9) h s rfl (by kernel_rfl) (by kernel_rfl) (by kernel_rfl) (And.intro ?_ (And.intro ?_ (And.intro ?_ (And.intro ?_ (And.intro ?_ (And.intro ?_ (And.intro ?_ (And.intro ?_ (And.intro ?_ (And.intro ?_ (And.intro ?_ (And.intro ?_ (trivial))))))))))))) [0,1,2,3,4,6,7,8,9,10,11] (by kernel_rfl) ?_
 ·intro f9 w2 vl2 E9 hs9 hd9 hl hF s
  have e3:f9.tmps.getD 3 undef=_:=dt hl 3 (by kernel_rfl) (by kernel_rfl) (h.holds 3 _ rfl)
  have h:=aE [(3,_)] (hs9.trans h.size) (hd9.trans h.defers) (holds_lk ⟨e3,trivial⟩)
  replace s:St w0 (.blk b6 (.cells (ay (K.getD kx z3).1.me (K.getD kx z3).1.pr (K.getD kx z3).2.1 (K.getD kx z3).2.2) 42)::.blk b5 (.cells (#[.map (some bm)]) 84)::.blk b4 (.cells (ay g.me g.pr us uf) 42)::.blk b3 (.cells (#[.pointer (some (a2 vq (kx*68)))]) 54)::(.grp ks (c6 K))::.blk bm (d5 nos)::(B9++E9)) _:=s
  refine bR 3 h s ge rfl rfl (rfl) rfl ?_;intro f h
  exact ah ⟨_,bY 13 rfl (h.holds 13 _ rfl),rfl,s⟩
 ·intro f9 w2 vl2 E9 hs9 hd9 hl hF s
  have e6:f9.tmps.getD 6 undef=_:=dt hl 6 (by kernel_rfl) (by kernel_rfl) (h.holds 6 _ rfl)
  have h:=aE [(6,_)] (hs9.trans h.size) (hd9.trans h.defers) (holds_lk ⟨e6,trivial⟩)
  replace s:St w0 (.blk b6 (.cells (ay (K.getD kx z3).1.me (K.getD kx z3).1.pr (K.getD kx z3).2.1 (K.getD kx z3).2.2) 42)::.blk b5 (.cells (#[.map (some bm)]) 84)::.blk b4 (.cells (ay g.me g.pr us uf) 42)::.blk b3 (.cells (#[.pointer (some (a2 vq (kx*68)))]) 54)::(.grp ks (c6 K))::.blk bm (d5 nos)::(B9++E9)) _:=s
  refine au 0 h s aW rfl rfl (ap _ _ _ _) rfl ?_;intro f h
  exact ah ⟨_,bY 14 rfl (h.holds 14 _ rfl),rfl,s⟩
 ·intro f9 w2 vl2 E9 hs9 hd9 hl hF s
  have e4:f9.tmps.getD 4 undef=_:=dt hl 4 (by kernel_rfl) (by kernel_rfl) (h.holds 4 _ rfl)
  have h:=aE [(4,_)] (hs9.trans h.size) (hd9.trans h.defers) (holds_lk ⟨e4,trivial⟩)
  replace s:St w0 (.blk b6 (.cells (ay (K.getD kx z3).1.me (K.getD kx z3).1.pr (K.getD kx z3).2.1 (K.getD kx z3).2.2) 42)::.blk b5 (.cells (#[.map (some bm)]) 84)::.blk b4 (.cells (ay g.me g.pr us uf) 42)::.blk b3 (.cells (#[.pointer (some (a2 vq (kx*68)))]) 54)::(.grp ks (c6 K))::.blk bm (d5 nos)::(B9++E9)) _:=s
  refine ac h (ai aK (h.ev rfl)) rfl ?_;intro f h
  exact ah ⟨_,bY 15 rfl (h.holds 15 _ rfl),rfl,s⟩
 ·intro f9 w2 vl2 E9 hs9 hd9 hl hF s
  have e15:f9.tmps.getD 15 undef=.pointer (some ⟨b4,0,none⟩):=(cd hl 15 2 (by kernel_rfl) (by kernel_rfl)).trans (hF 2 (by decide))
  have h:=aE [(15,.pointer (some ⟨b4,0,none⟩))] (hs9.trans h.size) (hd9.trans h.defers) (holds_lk ⟨e15,trivial⟩)
  replace s:St w0 (.blk b6 (.cells (ay (K.getD kx z3).1.me (K.getD kx z3).1.pr (K.getD kx z3).2.1 (K.getD kx z3).2.2) 42)::.blk b5 (.cells (#[.map (some bm)]) 84)::.blk b4 (.cells (ay g.me g.pr us uf) 42)::.blk b3 (.cells (#[.pointer (some (a2 vq (kx*68)))]) 54)::(.grp ks (c6 K))::.blk bm (d5 nos)::(B9++E9)) _:=s
  refine ac h (ai aH (h.ev rfl)) rfl ?_;intro f h
  exact ah ⟨_,bY 16 rfl (h.holds 16 _ rfl),rfl,s⟩
 ·intro f9 w2 vl2 E9 hs9 hd9 hl hF s
  have e16:f9.tmps.getD 16 undef=.pointer (some ⟨b4,0,none⟩):=(cd hl 16 3 (by kernel_rfl) (by kernel_rfl)).trans (hF 3 (by decide))
  have h:=aE [(16,.pointer (some ⟨b4,0,none⟩))] (hs9.trans h.size) (hd9.trans h.defers) (holds_lk ⟨e16,trivial⟩)
  replace s:St w0 (.blk b6 (.cells (ay (K.getD kx z3).1.me (K.getD kx z3).1.pr (K.getD kx z3).2.1 (K.getD kx z3).2.2) 42)::.blk b5 (.cells (#[.map (some bm)]) 84)::.blk b4 (.cells (ay g.me g.pr us uf) 42)::.blk b3 (.cells (#[.pointer (some (a2 vq (kx*68)))]) 54)::(.grp ks (c6 K))::.blk bm (d5 nos)::(B9++E9)) _:=s
  refine aq (am (aL.of_own s 2 rfl) 0 (bZ _ _ _ _)) h bw rfl rfl ?_;intro f h
  exact ah ⟨_,bY 17 rfl (h.holds 17 _ rfl),rfl,s⟩
 ·intro f9 w2 vl2 E9 hs9 hd9 hl hF s
  have e17:f9.tmps.getD 17 undef=.int .i64 g.me.1:=(cd hl 17 4 (by kernel_rfl) (by kernel_rfl)).trans (hF 4 (by decide))
  have h:=aE [(17,.int .i64 g.me.1)] (hs9.trans h.size) (hd9.trans h.defers) (holds_lk ⟨e17,trivial⟩)
  replace s:St w0 (.blk b6 (.cells (ay (K.getD kx z3).1.me (K.getD kx z3).1.pr (K.getD kx z3).2.1 (K.getD kx z3).2.2) 42)::.blk b5 (.cells (#[.map (some bm)]) 84)::.blk b4 (.cells (ay g.me g.pr us uf) 42)::.blk b3 (.cells (#[.pointer (some (a2 vq (kx*68)))]) 54)::(.grp ks (c6 K))::.blk bm (d5 nos)::(B9++E9)) _:=s
  refine cm (vs:=[.int .i64 g.me.1]) [.tmp 17] h s Tryz.underlying78 yt rfl rfl (by simp [Value.cells]) rfl rfl rfl ?_;intro f w1 v18 h s
  replace s:=s.resl (m:=[g.me.1].length) (ys:=[g.me.1].map (Value.int .i64)) 0 rfl rfl (by simp [Value.cells])
  exact ah ⟨_,bY 18 rfl (h.holds 18 _ rfl),trivial,s⟩
 ·intro f9 w2 vl2 E9 hs9 hd9 hl hF s
  have e14:f9.tmps.getD 14 undef=.agg (ay (K.getD kx z3).1.me (K.getD kx z3).1.pr (K.getD kx z3).2.1 (K.getD kx z3).2.2):=(cd hl 14 1 (by kernel_rfl) (by kernel_rfl)).trans (hF 1 (by decide))
  have e18:f9.tmps.getD 18 undef=(vl2 5):=cd hl 18 5 (by kernel_rfl) (by kernel_rfl)
  have h:=aE [(14,.agg (ay (K.getD kx z3).1.me (K.getD kx z3).1.pr (K.getD kx z3).2.1 (K.getD kx z3).2.2)),(18,(vl2 5))] (hs9.trans h.size) (hd9.trans h.defers) (holds_lk ⟨e14,e18,trivial⟩)
  replace s:St w0 (.sl (vl2 5) 3 1 [g.me.1].length ([g.me.1].map (Value.int .i64))::.blk b6 (.cells (ay (K.getD kx z3).1.me (K.getD kx z3).1.pr (K.getD kx z3).2.1 (K.getD kx z3).2.2) 42)::.blk b5 (.cells (#[.map (some bm)]) 84)::.blk b4 (.cells (ay g.me g.pr us uf) 42)::.blk b3 (.cells (#[.pointer (some (a2 vq (kx*68)))]) 54)::(.grp ks (c6 K))::.blk bm (d5 nos)::(B9++E9)) _:=s
  refine aI h s zH (nl (K.getD kx z3).1 (K.getD kx z3).2.1 (K.getD kx z3).2.2 [g.me.1] (vl2 5) _ (s.getG 5 rfl _ (bu hk)).1 (s.getG 5 rfl _ (bu hk)).2 (by omega) (by omega) (bX.of_own (s.getSl 0 rfl)) (by show 1≤1000;omega)) rfl rfl ?_;rintro f w1 v19 ⟨cu,cv,hv9,hS⟩ hE h sq;rw [hdn.1,hdn.2] at hv9;rw [hdn.1] at hS;replace s:=s.add hS
  have h66:cu=bI 66 v19:=by rw [hv9];exact(uc (bX.of_own (hS.getSl 0 rfl))).symm
  have h67:cv=bI 67 v19:=by rw [hv9];exact(vO (bX.of_own (hS.getSl 1 rfl))).symm
  clear hS
  subst h66;subst h67
  exact ah ⟨_,bY 19 rfl (h.holds 19 _ rfl),hv9,(s.pick _ (List.Sublist.cons_cons _ (List.Sublist.cons_cons _ (List.Sublist.cons _ (List.Sublist.cons_cons _ (List.Sublist.cons_cons _ (List.Sublist.cons_cons _ (List.Sublist.cons_cons _ (List.Sublist.cons_cons _ (List.Sublist.cons_cons _ (List.Sublist.refl _)))))))))))⟩
 ·intro f9 w2 vl2 E9 hs9 hd9 hl hF s
  have e19:f9.tmps.getD 19 undef=.tuple #[.agg (ay (bD (K.getD kx z3).1 g).me (bD (K.getD kx z3).1 g).pr (bI 66 (vl2 6)) (bI 67 (vl2 6))),.int .i64 0]:=(cd hl 19 6 (by kernel_rfl) (by kernel_rfl)).trans (hF 6 (by decide))
  have h:=aE [(19,.tuple #[.agg (ay (bD (K.getD kx z3).1 g).me (bD (K.getD kx z3).1 g).pr (bI 66 (vl2 6)) (bI 67 (vl2 6))),.int .i64 0])] (hs9.trans h.size) (hd9.trans h.defers) (holds_lk ⟨e19,trivial⟩)
  replace s:St w0 (.blk b6 (.cells (ay (K.getD kx z3).1.me (K.getD kx z3).1.pr (K.getD kx z3).2.1 (K.getD kx z3).2.2) 42)::.blk b5 (.cells (#[.map (some bm)]) 84)::.blk b4 (.cells (ay g.me g.pr us uf) 42)::.blk b3 (.cells (#[.pointer (some (a2 vq (kx*68)))]) 54)::(.grp ks (c6 K))::.blk bm (d5 nos)::(B9++E9)) _:=s
  refine ac h (ag (h.ev rfl)) rfl ?_;intro f h
  exact ah ⟨_,bY 12 rfl (h.holds 12 _ rfl),rfl,s⟩
 ·intro f9 w2 vl2 E9 hs9 hd9 hl hF s
  have e12:f9.tmps.getD 12 undef=.tuple #[.agg (ay (bD (K.getD kx z3).1 g).me (bD (K.getD kx z3).1 g).pr (bI 66 (vl2 6)) (bI 67 (vl2 6))),.int .i64 0]:=(cd hl 12 7 (by kernel_rfl) (by kernel_rfl)).trans (hF 7 (by decide))
  have h:=aE [(12,.tuple #[.agg (ay (bD (K.getD kx z3).1 g).me (bD (K.getD kx z3).1 g).pr (bI 66 (vl2 6)) (bI 67 (vl2 6))),.int .i64 0])] (hs9.trans h.size) (hd9.trans h.defers) (holds_lk ⟨e12,trivial⟩)
  replace s:St w0 (.blk b6 (.cells (ay (K.getD kx z3).1.me (K.getD kx z3).1.pr (K.getD kx z3).2.1 (K.getD kx z3).2.2) 42)::.blk b5 (.cells (#[.map (some bm)]) 84)::.blk b4 (.cells (ay g.me g.pr us uf) 42)::.blk b3 (.cells (#[.pointer (some (a2 vq (kx*68)))]) 54)::(.grp ks (c6 K))::.blk bm (d5 nos)::(B9++E9)) _:=s
  refine ac h (bG (h.ev rfl) rfl) rfl ?_;intro f h
  exact ah ⟨_,bY 20 rfl (h.holds 20 _ rfl),rfl,s⟩
 ·intro f9 w2 vl2 E9 hs9 hd9 hl hF s
  have e12:f9.tmps.getD 12 undef=.tuple #[.agg (ay (bD (K.getD kx z3).1 g).me (bD (K.getD kx z3).1 g).pr (bI 66 (vl2 6)) (bI 67 (vl2 6))),.int .i64 0]:=(cd hl 12 7 (by kernel_rfl) (by kernel_rfl)).trans (hF 7 (by decide))
  have h:=aE [(12,.tuple #[.agg (ay (bD (K.getD kx z3).1 g).me (bD (K.getD kx z3).1 g).pr (bI 66 (vl2 6)) (bI 67 (vl2 6))),.int .i64 0])] (hs9.trans h.size) (hd9.trans h.defers) (holds_lk ⟨e12,trivial⟩)
  replace s:St w0 (.blk b6 (.cells (ay (K.getD kx z3).1.me (K.getD kx z3).1.pr (K.getD kx z3).2.1 (K.getD kx z3).2.2) 42)::.blk b5 (.cells (#[.map (some bm)]) 84)::.blk b4 (.cells (ay g.me g.pr us uf) 42)::.blk b3 (.cells (#[.pointer (some (a2 vq (kx*68)))]) 54)::(.grp ks (c6 K))::.blk bm (d5 nos)::(B9++E9)) _:=s
  refine ac h (bG (h.ev rfl) rfl) rfl ?_;intro f h
  exact ah ⟨_,bY 21 rfl (h.holds 21 _ rfl),rfl,s⟩
 ·intro f9 w2 vl2 E9 hs9 hd9 hl hF s
  have e13:f9.tmps.getD 13 undef=.pointer (some (a2 vq (kx*68))):=(cd hl 13 0 (by kernel_rfl) (by kernel_rfl)).trans (hF 0 (by decide))
  have h:=aE [(13,.pointer (some (a2 vq (kx*68))))] (hs9.trans h.size) (hd9.trans h.defers) (holds_lk ⟨e13,trivial⟩)
  replace s:St w0 (.blk b6 (.cells (ay (K.getD kx z3).1.me (K.getD kx z3).1.pr (K.getD kx z3).2.1 (K.getD kx z3).2.2) 42)::.blk b5 (.cells (#[.map (some bm)]) 84)::.blk b4 (.cells (ay g.me g.pr us uf) 42)::.blk b3 (.cells (#[.pointer (some (a2 vq (kx*68)))]) 54)::(.grp ks (c6 K))::.blk bm (d5 nos)::(B9++E9)) _:=s
  refine ac h (bz (h.ev rfl)) rfl ?_;intro f h
  exact ah ⟨_,bY 22 rfl (h.holds 22 _ rfl),rfl,s⟩
 ·intro f9 w2 vl2 E9 hs9 hd9 hl hF s
  have e22:f9.tmps.getD 22 undef=.pointer (some (a2 vq (kx*68))):=(cd hl 22 10 (by kernel_rfl) (by kernel_rfl)).trans (hF 10 (by decide))
  have e20:f9.tmps.getD 20 undef=.agg (ay (bD (K.getD kx z3).1 g).me (bD (K.getD kx z3).1 g).pr (bI 66 (vl2 6)) (bI 67 (vl2 6))):=(cd hl 20 8 (by kernel_rfl) (by kernel_rfl)).trans (hF 8 (by decide))
  have h:=aE [(22,.pointer (some (a2 vq (kx*68)))),(20,.agg (ay (bD (K.getD kx z3).1 g).me (bD (K.getD kx z3).1 g).pr (bI 66 (vl2 6)) (bI 67 (vl2 6))))] (hs9.trans h.size) (hd9.trans h.defers) (holds_lk ⟨e22,e20,trivial⟩)
  replace s:St w0 (.sl vq 42 68 K.length (aG K)::.blk b6 (.cells (ay (K.getD kx z3).1.me (K.getD kx z3).1.pr (K.getD kx z3).2.1 (K.getD kx z3).2.2) 42)::.blk b5 (.cells (#[.map (some bm)]) 84)::.blk b4 (.cells (ay g.me g.pr us uf) 42)::.blk b3 (.cells (#[.pointer (some (a2 vq (kx*68)))]) 54)::(.grp ks (c6 K))::.blk bm (d5 nos)::(B9++E9)) _:=s
  refine eX 0 (kx) h s aW rfl rfl rfl (ap _ _ _ _) (by omega) (a7 (lf _ _) (lf _ _)) (show _=aG (K.set kx (((bD (K.getD kx z3).1 g),(bI 66 (vl2 6)),(bI 67 (vl2 6))):N3)) from qq hk (((bD (K.getD kx z3).1 g),(bI 66 (vl2 6)),(bI 67 (vl2 6))):N3)) ?_;intro w1 s
  replace s:=s.resl (m:=(K.set kx (((bD (K.getD kx z3).1 g),(bI 66 (vl2 6)),(bI 67 (vl2 6))):N3)).length) (ys:=aG (K.set kx (((bD (K.getD kx z3).1 g),(bI 66 (vl2 6)),(bI 67 (vl2 6))):N3))) 0 rfl (by rw [List.length_set]) rfl
  exact ah ⟨undef,ly rfl,trivial,s⟩
 intro f w1 vl2 hs9 hd9 hv hr hF s
 replace h:=rp (ops:=_) [(13,.pointer (some (a2 vq (kx*68)))),(14,.agg (ay (K.getD kx z3).1.me (K.getD kx z3).1.pr (K.getD kx z3).2.1 (K.getD kx z3).2.2)),(15,.pointer (some ⟨b4,0,none⟩)),(16,.pointer (some ⟨b4,0,none⟩)),(17,.int .i64 g.me.1),(18,(vl2 5)),(19,.tuple #[.agg (ay (bD (K.getD kx z3).1 g).me (bD (K.getD kx z3).1 g).pr (bI 66 (vl2 6)) (bI 67 (vl2 6))),.int .i64 0]),(12,.tuple #[.agg (ay (bD (K.getD kx z3).1 g).me (bD (K.getD kx z3).1 g).pr (bI 66 (vl2 6)) (bI 67 (vl2 6))),.int .i64 0]),(20,.agg (ay (bD (K.getD kx z3).1 g).me (bD (K.getD kx z3).1 g).pr (bI 66 (vl2 6)) (bI 67 (vl2 6)))),(21,.int .i64 0),(22,.pointer (some (a2 vq (kx*68))))] h hs9 hd9 hr ⟨(hv 0 13 rfl).trans (hF 0 (by kernel_rfl)),(hv 1 14 rfl).trans (hF 1 (by kernel_rfl)),(hv 2 15 rfl).trans (hF 2 (by kernel_rfl)),(hv 3 16 rfl).trans (hF 3 (by kernel_rfl)),(hv 4 17 rfl).trans (hF 4 (by kernel_rfl)),hv 5 18 rfl,(hv 6 19 rfl).trans (hF 6 (by kernel_rfl)),(hv 7 12 rfl).trans (hF 7 (by kernel_rfl)),(hv 8 20 rfl).trans (hF 8 (by kernel_rfl)),(hv 9 21 rfl).trans (hF 9 (by kernel_rfl)),(hv 10 22 rfl).trans (hF 10 (by kernel_rfl)),trivial⟩ (by kernel_rfl)
 replace s:St w0 (.sl (bI 66 (vl2 6)) 28 33 (bD (K.getD kx z3).1 g).sc.length (ar (bD (K.getD kx z3).1 g).sc)::.sl (bI 67 (vl2 6)) 28 33 (bD (K.getD kx z3).1 g).fg.length (ar (bD (K.getD kx z3).1 g).fg)::.sl vq 42 68 (K.set kx (((bD (K.getD kx z3).1 g),(bI 66 (vl2 6)),(bI 67 (vl2 6))):N3)).length (aG (K.set kx (((bD (K.getD kx z3).1 g),(bI 66 (vl2 6)),(bI 67 (vl2 6))):N3)))::.blk b6 (.cells (ay (K.getD kx z3).1.me (K.getD kx z3).1.pr (K.getD kx z3).2.1 (K.getD kx z3).2.2) 42)::.blk b5 (.cells (#[.map (some bm)]) 84)::.blk b4 (.cells (ay g.me g.pr us uf) 42)::.blk b3 (.cells (#[.pointer (some (a2 vq (kx*68)))]) 54)::(.grp ks (c6 K))::.blk bm (d5 nos)::B9) _:=s
 replace s:=s.bring 7 rfl
 replace s:=s.bring 2 rfl
 replace s:=s.bring 2 rfl
 replace s:St w0 (.sl (bI 66 (vl2 6)) 28 33 (bD (K.getD kx z3).1 g).sc.length (ar (bD (K.getD kx z3).1 g).sc)::.sl (bI 67 (vl2 6)) 28 33 (bD (K.getD kx z3).1 g).fg.length (ar (bD (K.getD kx z3).1 g).fg)::(.grp ks (c6 K))::.sl vq 42 68 (K.set kx (((bD (K.getD kx z3).1 g),(bI 66 (vl2 6)),(bI 67 (vl2 6))):N3)).length (aG (K.set kx (((bD (K.getD kx z3).1 g),(bI 66 (vl2 6)),(bI 67 (vl2 6))):N3)))::.blk b6 (.cells (ay (K.getD kx z3).1.me (K.getD kx z3).1.pr (K.getD kx z3).2.1 (K.getD kx z3).2.2) 42)::.blk b5 (.cells (#[.map (some bm)]) 84)::.blk b4 (.cells (ay g.me g.pr us uf) 42)::.blk b3 (.cells (#[.pointer (some (a2 vq (kx*68)))]) 54)::.blk bm (d5 nos)::B9) _:=s
 obtain ⟨k2,s⟩:=s.grpR (S':=fun w9=>c6 (K.set kx (((bD (K.getD kx z3).1 g),(bI 66 (vl2 6)),(bI 67 (vl2 6))):N3)) w9∧f4 w9 (K.getD kx z3)) (fun w9 h1 h2 h3=>⟨nT h3 ⟨h1,h2⟩,h3 _ (bu hk)⟩)
 have hk1:kx<(K.set kx (((bD (K.getD kx z3).1 g),(bI 66 (vl2 6)),(bI 67 (vl2 6))):N3)).length:=by rw [List.length_set];exact hk
 refine hK3 _ _ ?_
 refine al fun K4 hK4=>?_
 refine ae ?_
 refine ac h (dn [.pointer (some ⟨b3,0,none⟩),.pointer (some ⟨b5,0,none⟩)] (jE h rfl)) rfl ?_;intro f h
 refine ac h (ak (h.ev rfl)) rfl ?_;intro f h
 refine ah ?_
 refine hK4 _ _ ?_
 refine al fun K5 hK5=>?_
 refine al fun K6 hK6=>?_
 cases c0:(decide ((K.getD kx z3).1.sc=[g.me]):Bool)
 ·skip
  refine ae ?_
  refine ac h (ai bC (h.ev rfl)) rfl ?_;intro f h
  refine aq (V:=(K.getD kx z3).2.1) (am (aL.of_own s 2 rfl) 66 (bA _ _ _ _)) h bE rfl rfl ?_;intro f h
  refine ac h (ai aK (h.ev rfl)) rfl ?_;intro f h
  refine ax (aL.subL (aL.of_own s 4 rfl) 0 33 (D:=av g.me) (bj _ _ _ _)) h aC rfl (aj _) rfl ?_;intro f h
  refine cm (vs:=[.agg (av g.me)]) [.tmp 27] h s Tryz.underlying36 c8 rfl rfl (eI _) rfl rfl rfl ?_;intro f w1 v28 h s
  replace s:=s.resl (m:=[g.me].length) (ys:=ar [g.me]) 0 rfl rfl (by rw [dh,cQ])
  refine aI h s rJ (aM (.bool false) (iS (K.getD kx z3).1.sc [g.me] (K.getD kx z3).2.1 v28 _ (s.getG 1 rfl).2.1 (bX.of_own (s.getSl 0 rfl)) (by omega) (by show 1≤1000;omega)) (congrArg Value.bool c0)) rfl rfl ?_;intro f w1 v9 hT hE h s;obtain rfl:=hT
  refine ah ?_
  refine hK6 _ _ ?_
  refine wpIn_cond_false (h.ev rfl) ?_
  refine wpIn_skip ?_
  refine hK5 _ _ ?_
  refine al fun K7 hK7=>?_
  cases q0:(decide ((K.getD kx z3).1.pr=g.me):Bool)
  ·skip
   refine ae ?_
   refine ac h (ai aV (h.ev rfl)) rfl ?_;intro f h
   refine ax (aL.subL (aL.of_own s 3 rfl) 33 33 (D:=av (K.getD kx z3).1.pr) (bc _ _ _ _)) h aC rfl (aj _) rfl ?_;intro f h
   refine ac h (ai aK (h.ev rfl)) rfl ?_;intro f h
   refine ax (aL.subL (aL.of_own s 5 rfl) 0 33 (D:=av g.me) (bj _ _ _ _)) h aC rfl (aj _) rfl ?_;intro f h
   refine ac h (aw (.bool false) (bW (eo _ _) (by kernel_rfl) (by decide) (h.ev rfl) (h.ev rfl) (decide ((K.getD kx z3).1.pr=g.me)) (cR _ _)) (congrArg Value.bool q0)) rfl ?_;intro f h
   refine ac h (ag (h.ev rfl)) rfl ?_;intro f h
   refine aB (b:=true) h rfl rfl rfl rfl ?_;intro f h
   refine aB (b:=true) h rfl rfl rfl rfl ?_;intro f h
   refine aB (b:=true) h rfl rfl rfl rfl ?_;intro f h
   refine aB (b:=true) h rfl rfl rfl rfl ?_;intro f h
   refine ac h (aF (h.ev rfl) (h.ev rfl)) rfl ?_;intro f h
   refine ah ?_
   refine hK7 _ _ ?_
   refine wpIn_cond_false (h.ev rfl) ?_
   refine wpIn_skip ?_
   replace s:=s.bring 1 rfl
   replace s:St w0 ((.grp k2 (fun w9=>c6 (K.set kx (((bD (K.getD kx z3).1 g),(bI 66 (vl2 6)),(bI 67 (vl2 6))):N3)) w9∧f4 w9 (K.getD kx z3)))::.sl v28 28 33 [g.me].length (ar [g.me])::.sl vq 42 68 (K.set kx (((bD (K.getD kx z3).1 g),(bI 66 (vl2 6)),(bI 67 (vl2 6))):N3)).length (aG (K.set kx (((bD (K.getD kx z3).1 g),(bI 66 (vl2 6)),(bI 67 (vl2 6))):N3)))::.blk b6 (.cells (ay (K.getD kx z3).1.me (K.getD kx z3).1.pr (K.getD kx z3).2.1 (K.getD kx z3).2.2) 42)::.blk b5 (.cells (#[.map (some bm)]) 84)::.blk b4 (.cells (ay g.me g.pr us uf) 42)::.blk b3 (.cells (#[.pointer (some (a2 vq (kx*68)))]) 54)::.blk bm (d5 nos)::B9) _:=s
   replace s:=s.weak (S':=c6 (K.set kx (((bD (K.getD kx z3).1 g),(bI 66 (vl2 6)),(bI 67 (vl2 6))):N3))) (fun w9 h3=>h3.1)
   replace s:=s.bring 7 rfl
   replace s:=s.bring 1 rfl
   replace s:=s.bring 3 rfl
   replace s:St w0 (.sl vq 42 68 (K.set kx (((bD (K.getD kx z3).1 g),(bI 66 (vl2 6)),(bI 67 (vl2 6))):N3)).length (aG (K.set kx (((bD (K.getD kx z3).1 g),(bI 66 (vl2 6)),(bI 67 (vl2 6))):N3)))::(.grp k2 (c6 (K.set kx (((bD (K.getD kx z3).1 g),(bI 66 (vl2 6)),(bI 67 (vl2 6))):N3))))::.blk bm (d5 nos)::.sl v28 28 33 [g.me].length (ar [g.me])::.blk b6 (.cells (ay (K.getD kx z3).1.me (K.getD kx z3).1.pr (K.getD kx z3).2.1 (K.getD kx z3).2.2) 42)::.blk b5 (.cells (#[.map (some bm)]) 84)::.blk b4 (.cells (ay g.me g.pr us uf) 42)::.blk b3 (.cells (#[.pointer (some (a2 vq (kx*68)))]) 54)::B9) _:=s
   exact c4 rfl h (⟨_,rfl,(bI 66 (vl2 6)),(bI 67 (vl2 6)),_,(by rw [gG (qh q0) (qE c0)];exact(s.pick _ (List.Sublist.cons_cons _ (List.Sublist.cons_cons _ (List.Sublist.cons_cons _ (List.Sublist.cons _ (List.Sublist.cons _ (List.Sublist.cons _ (List.Sublist.cons _ (List.Sublist.cons _ (List.Sublist.refl _)))))))))))⟩)
  ·skip
   cases q1:(rA l (K.getD kx z3).1.me.1 g.pr:Bool)
   ·skip
    refine ae ?_
    refine ac h (ai aV (h.ev rfl)) rfl ?_;intro f h
    refine ax (aL.subL (aL.of_own s 3 rfl) 33 33 (D:=av (K.getD kx z3).1.pr) (bc _ _ _ _)) h aC rfl (aj _) rfl ?_;intro f h
    refine ac h (ai aK (h.ev rfl)) rfl ?_;intro f h
    refine ax (aL.subL (aL.of_own s 5 rfl) 0 33 (D:=av g.me) (bj _ _ _ _)) h aC rfl (aj _) rfl ?_;intro f h
    refine ac h (aw (.bool true) (bW (eo _ _) (by kernel_rfl) (by decide) (h.ev rfl) (h.ev rfl) (decide ((K.getD kx z3).1.pr=g.me)) (cR _ _)) (congrArg Value.bool q0)) rfl ?_;intro f h
    refine ac h (ag (h.ev rfl)) rfl ?_;intro f h
    refine aA h rfl rfl rfl ?_
    refine ac h (ag (h.ev rfl)) rfl ?_;intro f h
    refine aA h rfl rfl rfl ?_
    refine ac h (ai aV (h.ev rfl)) rfl ?_;intro f h
    refine aA h rfl rfl rfl ?_
    refine ax (aL.subL (aL.of_own s 5 rfl) 33 33 (D:=av g.pr) (bc _ _ _ _)) h aC rfl (aj _) rfl ?_;intro f h
    refine aA h rfl rfl rfl ?_
    have hme5:((K.set kx (((bD (K.getD kx z3).1 g),(bI 66 (vl2 6)),(bI 67 (vl2 6))):N3)).getD kx z3).1.me.1=(K.getD kx z3).1.me.1:=by rw [en hk];rfl
    refine dM [.agg (av g.pr)] (caps:=[.pointer (some ⟨b3,0,none⟩),.pointer (some ⟨b5,0,none⟩)]) h s lP rfl (aM (.bool false) (eW g.pr (K.set kx (((bD (K.getD kx z3).1 g),(bI 66 (vl2 6)),(bI 67 (vl2 6))):N3)) nos l vq kx bm b3 b5 _ (s.get 6 rfl) (s.get 4 rfl) (bX.of_own (s.getSl 2 rfl)) (s.get 7 rfl) hk1 hal) (by rw [hme5];exact congrArg Value.bool q1)) rfl rfl ?_;intro f w1 v50 hT hE h s;obtain rfl:=hT
    refine ac h (aD (h.ev rfl) (h.ev rfl)) rfl ?_;intro f h
    refine ah ?_
    refine hK7 _ _ ?_
    refine wpIn_cond_false (h.ev rfl) ?_
    refine wpIn_skip ?_
    replace s:=s.bring 1 rfl
    replace s:St w0 ((.grp k2 (fun w9=>c6 (K.set kx (((bD (K.getD kx z3).1 g),(bI 66 (vl2 6)),(bI 67 (vl2 6))):N3)) w9∧f4 w9 (K.getD kx z3)))::.sl v28 28 33 [g.me].length (ar [g.me])::.sl vq 42 68 (K.set kx (((bD (K.getD kx z3).1 g),(bI 66 (vl2 6)),(bI 67 (vl2 6))):N3)).length (aG (K.set kx (((bD (K.getD kx z3).1 g),(bI 66 (vl2 6)),(bI 67 (vl2 6))):N3)))::.blk b6 (.cells (ay (K.getD kx z3).1.me (K.getD kx z3).1.pr (K.getD kx z3).2.1 (K.getD kx z3).2.2) 42)::.blk b5 (.cells (#[.map (some bm)]) 84)::.blk b4 (.cells (ay g.me g.pr us uf) 42)::.blk b3 (.cells (#[.pointer (some (a2 vq (kx*68)))]) 54)::.blk bm (d5 nos)::B9) _:=s
    replace s:=s.weak (S':=c6 (K.set kx (((bD (K.getD kx z3).1 g),(bI 66 (vl2 6)),(bI 67 (vl2 6))):N3))) (fun w9 h3=>h3.1)
    replace s:=s.bring 7 rfl
    replace s:=s.bring 1 rfl
    replace s:=s.bring 3 rfl
    replace s:St w0 (.sl vq 42 68 (K.set kx (((bD (K.getD kx z3).1 g),(bI 66 (vl2 6)),(bI 67 (vl2 6))):N3)).length (aG (K.set kx (((bD (K.getD kx z3).1 g),(bI 66 (vl2 6)),(bI 67 (vl2 6))):N3)))::(.grp k2 (c6 (K.set kx (((bD (K.getD kx z3).1 g),(bI 66 (vl2 6)),(bI 67 (vl2 6))):N3))))::.blk bm (d5 nos)::.sl v28 28 33 [g.me].length (ar [g.me])::.blk b6 (.cells (ay (K.getD kx z3).1.me (K.getD kx z3).1.pr (K.getD kx z3).2.1 (K.getD kx z3).2.2) 42)::.blk b5 (.cells (#[.map (some bm)]) 84)::.blk b4 (.cells (ay g.me g.pr us uf) 42)::.blk b3 (.cells (#[.pointer (some (a2 vq (kx*68)))]) 54)::B9) _:=s
    exact c4 rfl h (⟨_,rfl,(bI 66 (vl2 6)),(bI 67 (vl2 6)),_,(by rw [gG (qR q1) (qE c0)];exact(s.pick _ (List.Sublist.cons_cons _ (List.Sublist.cons_cons _ (List.Sublist.cons_cons _ (List.Sublist.cons _ (List.Sublist.cons _ (List.Sublist.cons _ (List.Sublist.cons _ (List.Sublist.cons _ (List.Sublist.refl _)))))))))))⟩)
   ·skip
    refine ae ?_
    refine ac h (ai aV (h.ev rfl)) rfl ?_;intro f h
    refine ax (aL.subL (aL.of_own s 3 rfl) 33 33 (D:=av (K.getD kx z3).1.pr) (bc _ _ _ _)) h aC rfl (aj _) rfl ?_;intro f h
    refine ac h (ai aK (h.ev rfl)) rfl ?_;intro f h
    refine ax (aL.subL (aL.of_own s 5 rfl) 0 33 (D:=av g.me) (bj _ _ _ _)) h aC rfl (aj _) rfl ?_;intro f h
    refine ac h (aw (.bool true) (bW (eo _ _) (by kernel_rfl) (by decide) (h.ev rfl) (h.ev rfl) (decide ((K.getD kx z3).1.pr=g.me)) (cR _ _)) (congrArg Value.bool q0)) rfl ?_;intro f h
    refine ac h (ag (h.ev rfl)) rfl ?_;intro f h
    refine aA h rfl rfl rfl ?_
    refine ac h (ag (h.ev rfl)) rfl ?_;intro f h
    refine aA h rfl rfl rfl ?_
    refine ac h (ai aV (h.ev rfl)) rfl ?_;intro f h
    refine aA h rfl rfl rfl ?_
    refine ax (aL.subL (aL.of_own s 5 rfl) 33 33 (D:=av g.pr) (bc _ _ _ _)) h aC rfl (aj _) rfl ?_;intro f h
    refine aA h rfl rfl rfl ?_
    have hme5:((K.set kx (((bD (K.getD kx z3).1 g),(bI 66 (vl2 6)),(bI 67 (vl2 6))):N3)).getD kx z3).1.me.1=(K.getD kx z3).1.me.1:=by rw [en hk];rfl
    refine dM [.agg (av g.pr)] (caps:=[.pointer (some ⟨b3,0,none⟩),.pointer (some ⟨b5,0,none⟩)]) h s lP rfl (aM (.bool true) (eW g.pr (K.set kx (((bD (K.getD kx z3).1 g),(bI 66 (vl2 6)),(bI 67 (vl2 6))):N3)) nos l vq kx bm b3 b5 _ (s.get 6 rfl) (s.get 4 rfl) (bX.of_own (s.getSl 2 rfl)) (s.get 7 rfl) hk1 hal) (by rw [hme5];exact congrArg Value.bool q1)) rfl rfl ?_;intro f w1 v50 hT hE h s;obtain rfl:=hT
    refine ac h (aD (h.ev rfl) (h.ev rfl)) rfl ?_;intro f h
    refine ah ?_
    refine hK7 _ _ ?_
    refine wpIn_cond_true (h.ev rfl) ?_
    refine ae ?_
    refine bR 6 h s ge rfl rfl (rfl) rfl ?_;intro f h
    refine ac h (ai aV (h.ev rfl)) rfl ?_;intro f h
    refine ax (aL.subL (aL.of_own s 5 rfl) 33 33 (D:=av g.pr) (bc _ _ _ _)) h aC rfl (aj _) rfl ?_;intro f h
    refine ac h (bz (h.ev rfl)) rfl ?_;intro f h
    refine ac h (bL aV (h.ev rfl) ((bX.of_own (s.getSl 2 rfl)).some (by omega))) rfl ?_;intro f h
    refine iy 2 h s aC rfl rfl rfl (aj _) (by decide) (by omega) (aS _) (DN hk (bD (K.getD kx z3).1 g) (bI 66 (vl2 6)) (bI 67 (vl2 6)) g.pr) ?_;intro w1 s
    replace s:=s.resl (m:=(K.set kx (((⟨(bD (K.getD kx z3).1 g).me,g.pr,(bD (K.getD kx z3).1 g).sc,(bD (K.getD kx z3).1 g).fg⟩:Nd),(bI 66 (vl2 6)),(bI 67 (vl2 6))):N3)).length) (ys:=aG (K.set kx (((⟨(bD (K.getD kx z3).1 g).me,g.pr,(bD (K.getD kx z3).1 g).sc,(bD (K.getD kx z3).1 g).fg⟩:Nd),(bI 66 (vl2 6)),(bI 67 (vl2 6))):N3))) 2 rfl (by rw [List.length_set,List.length_set]) rfl
    replace s:=s.bring 1 rfl
    replace s:St w0 ((.grp k2 (fun w9=>c6 (K.set kx (((bD (K.getD kx z3).1 g),(bI 66 (vl2 6)),(bI 67 (vl2 6))):N3)) w9∧f4 w9 (K.getD kx z3)))::.sl v28 28 33 [g.me].length (ar [g.me])::.sl vq 42 68 (K.set kx (((⟨(bD (K.getD kx z3).1 g).me,g.pr,(bD (K.getD kx z3).1 g).sc,(bD (K.getD kx z3).1 g).fg⟩:Nd),(bI 66 (vl2 6)),(bI 67 (vl2 6))):N3)).length (aG (K.set kx (((⟨(bD (K.getD kx z3).1 g).me,g.pr,(bD (K.getD kx z3).1 g).sc,(bD (K.getD kx z3).1 g).fg⟩:Nd),(bI 66 (vl2 6)),(bI 67 (vl2 6))):N3)))::.blk b6 (.cells (ay (K.getD kx z3).1.me (K.getD kx z3).1.pr (K.getD kx z3).2.1 (K.getD kx z3).2.2) 42)::.blk b5 (.cells (#[.map (some bm)]) 84)::.blk b4 (.cells (ay g.me g.pr us uf) 42)::.blk b3 (.cells (#[.pointer (some (a2 vq (kx*68)))]) 54)::.blk bm (d5 nos)::B9) _:=s
    replace s:=s.weak (S':=fun w9=>c6 (K.set kx (((⟨(bD (K.getD kx z3).1 g).me,g.pr,(bD (K.getD kx z3).1 g).sc,(bD (K.getD kx z3).1 g).fg⟩:Nd),(bI 66 (vl2 6)),(bI 67 (vl2 6))):N3)) w9∧f4 w9 (K.getD kx z3)) (fun w9 h3=>⟨lA h3.1 (n1 (T:=(bD (K.getD kx z3).1 g)) (u:=(bI 66 (vl2 6))) (v:=(bI 67 (vl2 6))) h3.1 hk1 (en hk _)),h3.2⟩)
    refine ah ?_
    replace s:St w0 ((.grp k2 (fun w9=>c6 (K.set kx (((⟨(bD (K.getD kx z3).1 g).me,g.pr,(bD (K.getD kx z3).1 g).sc,(bD (K.getD kx z3).1 g).fg⟩:Nd),(bI 66 (vl2 6)),(bI 67 (vl2 6))):N3)) w9∧f4 w9 (K.getD kx z3)))::.sl v28 28 33 [g.me].length (ar [g.me])::.sl vq 42 68 (K.set kx (((⟨(bD (K.getD kx z3).1 g).me,g.pr,(bD (K.getD kx z3).1 g).sc,(bD (K.getD kx z3).1 g).fg⟩:Nd),(bI 66 (vl2 6)),(bI 67 (vl2 6))):N3)).length (aG (K.set kx (((⟨(bD (K.getD kx z3).1 g).me,g.pr,(bD (K.getD kx z3).1 g).sc,(bD (K.getD kx z3).1 g).fg⟩:Nd),(bI 66 (vl2 6)),(bI 67 (vl2 6))):N3)))::.blk b6 (.cells (ay (K.getD kx z3).1.me (K.getD kx z3).1.pr (K.getD kx z3).2.1 (K.getD kx z3).2.2) 42)::.blk b5 (.cells (#[.map (some bm)]) 84)::.blk b4 (.cells (ay g.me g.pr us uf) 42)::.blk b3 (.cells (#[.pointer (some (a2 vq (kx*68)))]) 54)::.blk bm (d5 nos)::B9) _:=s
    replace s:=s.weak (S':=c6 (K.set kx (((⟨(bD (K.getD kx z3).1 g).me,g.pr,(bD (K.getD kx z3).1 g).sc,(bD (K.getD kx z3).1 g).fg⟩:Nd),(bI 66 (vl2 6)),(bI 67 (vl2 6))):N3))) (fun w9 h3=>h3.1)
    replace s:=s.bring 7 rfl
    replace s:=s.bring 1 rfl
    replace s:=s.bring 3 rfl
    replace s:St w0 (.sl vq 42 68 (K.set kx (((⟨(bD (K.getD kx z3).1 g).me,g.pr,(bD (K.getD kx z3).1 g).sc,(bD (K.getD kx z3).1 g).fg⟩:Nd),(bI 66 (vl2 6)),(bI 67 (vl2 6))):N3)).length (aG (K.set kx (((⟨(bD (K.getD kx z3).1 g).me,g.pr,(bD (K.getD kx z3).1 g).sc,(bD (K.getD kx z3).1 g).fg⟩:Nd),(bI 66 (vl2 6)),(bI 67 (vl2 6))):N3)))::(.grp k2 (c6 (K.set kx (((⟨(bD (K.getD kx z3).1 g).me,g.pr,(bD (K.getD kx z3).1 g).sc,(bD (K.getD kx z3).1 g).fg⟩:Nd),(bI 66 (vl2 6)),(bI 67 (vl2 6))):N3))))::.blk bm (d5 nos)::.sl v28 28 33 [g.me].length (ar [g.me])::.blk b6 (.cells (ay (K.getD kx z3).1.me (K.getD kx z3).1.pr (K.getD kx z3).2.1 (K.getD kx z3).2.2) 42)::.blk b5 (.cells (#[.map (some bm)]) 84)::.blk b4 (.cells (ay g.me g.pr us uf) 42)::.blk b3 (.cells (#[.pointer (some (a2 vq (kx*68)))]) 54)::B9) _:=s
    exact c4 rfl h (⟨_,rfl,(bI 66 (vl2 6)),(bI 67 (vl2 6)),_,(by rw [gG (wj q0 q1) (qE c0)];exact(s.pick _ (List.Sublist.cons_cons _ (List.Sublist.cons_cons _ (List.Sublist.cons_cons _ (List.Sublist.cons _ (List.Sublist.cons _ (List.Sublist.cons _ (List.Sublist.cons _ (List.Sublist.cons _ (List.Sublist.refl _)))))))))))⟩)
 ·skip
  refine ae ?_
  refine ac h (ai bC (h.ev rfl)) rfl ?_;intro f h
  refine aq (V:=(K.getD kx z3).2.1) (am (aL.of_own s 2 rfl) 66 (bA _ _ _ _)) h bE rfl rfl ?_;intro f h
  refine ac h (ai aK (h.ev rfl)) rfl ?_;intro f h
  refine ax (aL.subL (aL.of_own s 4 rfl) 0 33 (D:=av g.me) (bj _ _ _ _)) h aC rfl (aj _) rfl ?_;intro f h
  refine cm (vs:=[.agg (av g.me)]) [.tmp 27] h s Tryz.underlying36 c8 rfl rfl (eI _) rfl rfl rfl ?_;intro f w1 v28 h s
  replace s:=s.resl (m:=[g.me].length) (ys:=ar [g.me]) 0 rfl rfl (by rw [dh,cQ])
  refine aI h s rJ (aM (.bool true) (iS (K.getD kx z3).1.sc [g.me] (K.getD kx z3).2.1 v28 _ (s.getG 1 rfl).2.1 (bX.of_own (s.getSl 0 rfl)) (by omega) (by show 1≤1000;omega)) (congrArg Value.bool c0)) rfl rfl ?_;intro f w1 v9 hT hE h s;obtain rfl:=hT
  refine ah ?_
  refine hK6 _ _ ?_
  refine wpIn_cond_true (h.ev rfl) ?_
  refine al fun K8 hK8=>?_
  refine ae ?_
  refine ac h (ai bC (h.ev rfl)) rfl ?_;intro f h
  refine aq (V:=us) (am (aL.of_own s 5 rfl) 66 (bA _ _ _ _)) h bE rfl rfl ?_;intro f h
  refine ac h (ag (h.ev rfl)) rfl ?_;intro f h
  have hme:((K.set kx (((bD (K.getD kx z3).1 g),(bI 66 (vl2 6)),(bI 67 (vl2 6))):N3)).getD kx z3).1.me.1=(K.getD kx z3).1.me.1:=by rw [en hk];rfl
  refine aI h s C3 (ta g.sc us 97 [.pointer (some ⟨b3,0,none⟩),.pointer (some ⟨b5,0,none⟩)] (rA l ((K.set kx (((bD (K.getD kx z3).1 g),(bI 66 (vl2 6)),(bI 67 (vl2 6))):N3)).getD kx z3).1.me.1) _ (hUs.keep s.ext) (by omega) lP (fun w9 h9 x _=>eW x (K.set kx (((bD (K.getD kx z3).1 g),(bI 66 (vl2 6)),(bI 67 (vl2 6))):N3)) nos l vq kx bm b3 b5 w9 (dC (s.get 6 rfl) h9) (dC (s.get 4 rfl) h9) ((bX.of_own (s.getSl 2 rfl)).keep h9) (dC (s.get 7 rfl) h9) hk1 hal)) rfl rfl ?_;intro f w1 v33 hT hE h sq;rw [hme] at hT;replace s:=s.sl_new hE hT;replace s:=s.resl (m:=(ct l (K.getD kx z3).1 g).length) (ys:=ar (ct l (K.getD kx z3).1 g)) 0 rfl rfl rfl
  refine ac h (ak (h.ev rfl)) rfl ?_;intro f h
  refine ah ?_
  refine hK8 _ _ ?_
  refine al fun K9 hK9=>?_
  refine ae ?_
  refine ac h (ag (h.ev rfl)) rfl ?_;intro f h
  refine cT 0 h s Tryz.underlying36 rfl rfl rfl ?_;intro f h
  refine ac h (cY (h.ev rfl) (h.ev rfl)) rfl ?_;intro f h
  refine ah ?_
  refine hK9 _ _ ?_
  refine bK h rfl (fun hc=>?_) (fun hc=>?_)
  ·have hc1:0<(ct l (K.getD kx z3).1 g).length:=by have:=of_decide_eq_true hc;omega
   refine ae ?_
   refine bR 7 h s ge rfl rfl (rfl) rfl ?_;intro f h
   refine ac h (ag (h.ev rfl)) rfl ?_;intro f h
   refine ac h (bz (h.ev rfl)) rfl ?_;intro f h
   refine ac h (bL bC (h.ev rfl) ((bX.of_own (s.getSl 3 rfl)).some (by omega))) rfl ?_;intro f h
   refine ir 3 h s bE rfl rfl rfl (by omega) (aQ (s.getSl 0 rfl)) (Eh hk (bD (K.getD kx z3).1 g) (bI 66 (vl2 6)) (bI 67 (vl2 6)) v33 (ct l (K.getD kx z3).1 g)) ?_;intro w1 s
   replace s:=s.resl (m:=(K.set kx (((⟨(bD (K.getD kx z3).1 g).me,(bD (K.getD kx z3).1 g).pr,(ct l (K.getD kx z3).1 g),(bD (K.getD kx z3).1 g).fg⟩:Nd),v33,(bI 67 (vl2 6))):N3)).length) (ys:=aG (K.set kx (((⟨(bD (K.getD kx z3).1 g).me,(bD (K.getD kx z3).1 g).pr,(ct l (K.getD kx z3).1 g),(bD (K.getD kx z3).1 g).fg⟩:Nd),v33,(bI 67 (vl2 6))):N3))) 3 rfl (by rw [List.length_set,List.length_set]) rfl
   replace s:=s.bring 2 rfl
   replace s:=s.bring 1 rfl
   replace s:St w0 (.sl v33 28 33 (ct l (K.getD kx z3).1 g).length (ar (ct l (K.getD kx z3).1 g))::(.grp k2 (fun w9=>c6 (K.set kx (((bD (K.getD kx z3).1 g),(bI 66 (vl2 6)),(bI 67 (vl2 6))):N3)) w9∧f4 w9 (K.getD kx z3)))::.sl v28 28 33 [g.me].length (ar [g.me])::.sl vq 42 68 (K.set kx (((⟨(bD (K.getD kx z3).1 g).me,(bD (K.getD kx z3).1 g).pr,(ct l (K.getD kx z3).1 g),(bD (K.getD kx z3).1 g).fg⟩:Nd),v33,(bI 67 (vl2 6))):N3)).length (aG (K.set kx (((⟨(bD (K.getD kx z3).1 g).me,(bD (K.getD kx z3).1 g).pr,(ct l (K.getD kx z3).1 g),(bD (K.getD kx z3).1 g).fg⟩:Nd),v33,(bI 67 (vl2 6))):N3)))::.blk b6 (.cells (ay (K.getD kx z3).1.me (K.getD kx z3).1.pr (K.getD kx z3).2.1 (K.getD kx z3).2.2) 42)::.blk b5 (.cells (#[.map (some bm)]) 84)::.blk b4 (.cells (ay g.me g.pr us uf) 42)::.blk b3 (.cells (#[.pointer (some (a2 vq (kx*68)))]) 54)::.blk bm (d5 nos)::B9) _:=s
   replace s:=s.nilSl 28 33
   obtain ⟨k3,s⟩:=s.grpR (S':=fun w9=>c6 (K.set kx (((⟨(bD (K.getD kx z3).1 g).me,(bD (K.getD kx z3).1 g).pr,(ct l (K.getD kx z3).1 g),(bD (K.getD kx z3).1 g).fg⟩:Nd),v33,(bI 67 (vl2 6))):N3)) w9∧f4 w9 (K.getD kx z3)) (fun w9 h1 h2 h3=>⟨lA h3.1 ⟨h2,(n1 h3.1 hk1 (en hk _)).2⟩,h3.2⟩)
   replace hk1:kx<(K.set kx (((⟨(bD (K.getD kx z3).1 g).me,(bD (K.getD kx z3).1 g).pr,(ct l (K.getD kx z3).1 g),(bD (K.getD kx z3).1 g).fg⟩:Nd),v33,(bI 67 (vl2 6))):N3)).length:=by rw [List.length_set];exact hk
   refine ah ?_
   refine hK5 _ _ ?_
   refine al fun K10 hK10=>?_
   cases q0:(decide ((K.getD kx z3).1.pr=g.me):Bool)
   ·skip
    refine ae ?_
    refine ac h (ai aV (h.ev rfl)) rfl ?_;intro f h
    refine ax (aL.subL (aL.of_own s 3 rfl) 33 33 (D:=av (K.getD kx z3).1.pr) (bc _ _ _ _)) h aC rfl (aj _) rfl ?_;intro f h
    refine ac h (ai aK (h.ev rfl)) rfl ?_;intro f h
    refine ax (aL.subL (aL.of_own s 5 rfl) 0 33 (D:=av g.me) (bj _ _ _ _)) h aC rfl (aj _) rfl ?_;intro f h
    refine ac h (aw (.bool false) (bW (eo _ _) (by kernel_rfl) (by decide) (h.ev rfl) (h.ev rfl) (decide ((K.getD kx z3).1.pr=g.me)) (cR _ _)) (congrArg Value.bool q0)) rfl ?_;intro f h
    refine ac h (ag (h.ev rfl)) rfl ?_;intro f h
    refine aB (b:=true) h rfl rfl rfl rfl ?_;intro f h
    refine aB (b:=true) h rfl rfl rfl rfl ?_;intro f h
    refine aB (b:=true) h rfl rfl rfl rfl ?_;intro f h
    refine aB (b:=true) h rfl rfl rfl rfl ?_;intro f h
    refine ac h (aF (h.ev rfl) (h.ev rfl)) rfl ?_;intro f h
    refine ah ?_
    refine hK10 _ _ ?_
    refine wpIn_cond_false (h.ev rfl) ?_
    refine wpIn_skip ?_
    replace s:St w0 ((.grp k3 (fun w9=>c6 (K.set kx (((⟨(bD (K.getD kx z3).1 g).me,(bD (K.getD kx z3).1 g).pr,(ct l (K.getD kx z3).1 g),(bD (K.getD kx z3).1 g).fg⟩:Nd),v33,(bI 67 (vl2 6))):N3)) w9∧f4 w9 (K.getD kx z3)))::.sl v28 28 33 [g.me].length (ar [g.me])::.sl vq 42 68 (K.set kx (((⟨(bD (K.getD kx z3).1 g).me,(bD (K.getD kx z3).1 g).pr,(ct l (K.getD kx z3).1 g),(bD (K.getD kx z3).1 g).fg⟩:Nd),v33,(bI 67 (vl2 6))):N3)).length (aG (K.set kx (((⟨(bD (K.getD kx z3).1 g).me,(bD (K.getD kx z3).1 g).pr,(ct l (K.getD kx z3).1 g),(bD (K.getD kx z3).1 g).fg⟩:Nd),v33,(bI 67 (vl2 6))):N3)))::.blk b6 (.cells (ay (K.getD kx z3).1.me (K.getD kx z3).1.pr (K.getD kx z3).2.1 (K.getD kx z3).2.2) 42)::.blk b5 (.cells (#[.map (some bm)]) 84)::.blk b4 (.cells (ay g.me g.pr us uf) 42)::.blk b3 (.cells (#[.pointer (some (a2 vq (kx*68)))]) 54)::.blk bm (d5 nos)::B9) _:=s
    replace s:=s.weak (S':=c6 (K.set kx (((⟨(bD (K.getD kx z3).1 g).me,(bD (K.getD kx z3).1 g).pr,(ct l (K.getD kx z3).1 g),(bD (K.getD kx z3).1 g).fg⟩:Nd),v33,(bI 67 (vl2 6))):N3))) (fun w9 h3=>h3.1)
    replace s:=s.bring 7 rfl
    replace s:=s.bring 1 rfl
    replace s:=s.bring 3 rfl
    replace s:St w0 (.sl vq 42 68 (K.set kx (((⟨(bD (K.getD kx z3).1 g).me,(bD (K.getD kx z3).1 g).pr,(ct l (K.getD kx z3).1 g),(bD (K.getD kx z3).1 g).fg⟩:Nd),v33,(bI 67 (vl2 6))):N3)).length (aG (K.set kx (((⟨(bD (K.getD kx z3).1 g).me,(bD (K.getD kx z3).1 g).pr,(ct l (K.getD kx z3).1 g),(bD (K.getD kx z3).1 g).fg⟩:Nd),v33,(bI 67 (vl2 6))):N3)))::(.grp k3 (c6 (K.set kx (((⟨(bD (K.getD kx z3).1 g).me,(bD (K.getD kx z3).1 g).pr,(ct l (K.getD kx z3).1 g),(bD (K.getD kx z3).1 g).fg⟩:Nd),v33,(bI 67 (vl2 6))):N3))))::.blk bm (d5 nos)::.sl v28 28 33 [g.me].length (ar [g.me])::.blk b6 (.cells (ay (K.getD kx z3).1.me (K.getD kx z3).1.pr (K.getD kx z3).2.1 (K.getD kx z3).2.2) 42)::.blk b5 (.cells (#[.map (some bm)]) 84)::.blk b4 (.cells (ay g.me g.pr us uf) 42)::.blk b3 (.cells (#[.pointer (some (a2 vq (kx*68)))]) 54)::B9) _:=s
    exact c4 rfl h (⟨_,rfl,v33,(bI 67 (vl2 6)),_,(by rw [gG (qh q0) (ve c0 hc1)];exact(s.pick _ (List.Sublist.cons_cons _ (List.Sublist.cons_cons _ (List.Sublist.cons_cons _ (List.Sublist.cons _ (List.Sublist.cons _ (List.Sublist.cons _ (List.Sublist.cons _ (List.Sublist.cons _ (List.Sublist.refl _)))))))))))⟩)
   ·skip
    cases q1:(rA l (K.getD kx z3).1.me.1 g.pr:Bool)
    ·skip
     refine ae ?_
     refine ac h (ai aV (h.ev rfl)) rfl ?_;intro f h
     refine ax (aL.subL (aL.of_own s 3 rfl) 33 33 (D:=av (K.getD kx z3).1.pr) (bc _ _ _ _)) h aC rfl (aj _) rfl ?_;intro f h
     refine ac h (ai aK (h.ev rfl)) rfl ?_;intro f h
     refine ax (aL.subL (aL.of_own s 5 rfl) 0 33 (D:=av g.me) (bj _ _ _ _)) h aC rfl (aj _) rfl ?_;intro f h
     refine ac h (aw (.bool true) (bW (eo _ _) (by kernel_rfl) (by decide) (h.ev rfl) (h.ev rfl) (decide ((K.getD kx z3).1.pr=g.me)) (cR _ _)) (congrArg Value.bool q0)) rfl ?_;intro f h
     refine ac h (ag (h.ev rfl)) rfl ?_;intro f h
     refine aA h rfl rfl rfl ?_
     refine ac h (ag (h.ev rfl)) rfl ?_;intro f h
     refine aA h rfl rfl rfl ?_
     refine ac h (ai aV (h.ev rfl)) rfl ?_;intro f h
     refine aA h rfl rfl rfl ?_
     refine ax (aL.subL (aL.of_own s 5 rfl) 33 33 (D:=av g.pr) (bc _ _ _ _)) h aC rfl (aj _) rfl ?_;intro f h
     refine aA h rfl rfl rfl ?_
     have hme5:((K.set kx (((⟨(bD (K.getD kx z3).1 g).me,(bD (K.getD kx z3).1 g).pr,(ct l (K.getD kx z3).1 g),(bD (K.getD kx z3).1 g).fg⟩:Nd),v33,(bI 67 (vl2 6))):N3)).getD kx z3).1.me.1=(K.getD kx z3).1.me.1:=by rw [en hk];rfl
     refine dM [.agg (av g.pr)] (caps:=[.pointer (some ⟨b3,0,none⟩),.pointer (some ⟨b5,0,none⟩)]) h s lP rfl (aM (.bool false) (eW g.pr (K.set kx (((⟨(bD (K.getD kx z3).1 g).me,(bD (K.getD kx z3).1 g).pr,(ct l (K.getD kx z3).1 g),(bD (K.getD kx z3).1 g).fg⟩:Nd),v33,(bI 67 (vl2 6))):N3)) nos l vq kx bm b3 b5 _ (s.get 6 rfl) (s.get 4 rfl) (bX.of_own (s.getSl 2 rfl)) (s.get 7 rfl) hk1 hal) (by rw [hme5];exact congrArg Value.bool q1)) rfl rfl ?_;intro f w1 v50 hT hE h s;obtain rfl:=hT
     refine ac h (aD (h.ev rfl) (h.ev rfl)) rfl ?_;intro f h
     refine ah ?_
     refine hK10 _ _ ?_
     refine wpIn_cond_false (h.ev rfl) ?_
     refine wpIn_skip ?_
     replace s:St w0 ((.grp k3 (fun w9=>c6 (K.set kx (((⟨(bD (K.getD kx z3).1 g).me,(bD (K.getD kx z3).1 g).pr,(ct l (K.getD kx z3).1 g),(bD (K.getD kx z3).1 g).fg⟩:Nd),v33,(bI 67 (vl2 6))):N3)) w9∧f4 w9 (K.getD kx z3)))::.sl v28 28 33 [g.me].length (ar [g.me])::.sl vq 42 68 (K.set kx (((⟨(bD (K.getD kx z3).1 g).me,(bD (K.getD kx z3).1 g).pr,(ct l (K.getD kx z3).1 g),(bD (K.getD kx z3).1 g).fg⟩:Nd),v33,(bI 67 (vl2 6))):N3)).length (aG (K.set kx (((⟨(bD (K.getD kx z3).1 g).me,(bD (K.getD kx z3).1 g).pr,(ct l (K.getD kx z3).1 g),(bD (K.getD kx z3).1 g).fg⟩:Nd),v33,(bI 67 (vl2 6))):N3)))::.blk b6 (.cells (ay (K.getD kx z3).1.me (K.getD kx z3).1.pr (K.getD kx z3).2.1 (K.getD kx z3).2.2) 42)::.blk b5 (.cells (#[.map (some bm)]) 84)::.blk b4 (.cells (ay g.me g.pr us uf) 42)::.blk b3 (.cells (#[.pointer (some (a2 vq (kx*68)))]) 54)::.blk bm (d5 nos)::B9) _:=s
     replace s:=s.weak (S':=c6 (K.set kx (((⟨(bD (K.getD kx z3).1 g).me,(bD (K.getD kx z3).1 g).pr,(ct l (K.getD kx z3).1 g),(bD (K.getD kx z3).1 g).fg⟩:Nd),v33,(bI 67 (vl2 6))):N3))) (fun w9 h3=>h3.1)
     replace s:=s.bring 7 rfl
     replace s:=s.bring 1 rfl
     replace s:=s.bring 3 rfl
     replace s:St w0 (.sl vq 42 68 (K.set kx (((⟨(bD (K.getD kx z3).1 g).me,(bD (K.getD kx z3).1 g).pr,(ct l (K.getD kx z3).1 g),(bD (K.getD kx z3).1 g).fg⟩:Nd),v33,(bI 67 (vl2 6))):N3)).length (aG (K.set kx (((⟨(bD (K.getD kx z3).1 g).me,(bD (K.getD kx z3).1 g).pr,(ct l (K.getD kx z3).1 g),(bD (K.getD kx z3).1 g).fg⟩:Nd),v33,(bI 67 (vl2 6))):N3)))::(.grp k3 (c6 (K.set kx (((⟨(bD (K.getD kx z3).1 g).me,(bD (K.getD kx z3).1 g).pr,(ct l (K.getD kx z3).1 g),(bD (K.getD kx z3).1 g).fg⟩:Nd),v33,(bI 67 (vl2 6))):N3))))::.blk bm (d5 nos)::.sl v28 28 33 [g.me].length (ar [g.me])::.blk b6 (.cells (ay (K.getD kx z3).1.me (K.getD kx z3).1.pr (K.getD kx z3).2.1 (K.getD kx z3).2.2) 42)::.blk b5 (.cells (#[.map (some bm)]) 84)::.blk b4 (.cells (ay g.me g.pr us uf) 42)::.blk b3 (.cells (#[.pointer (some (a2 vq (kx*68)))]) 54)::B9) _:=s
     exact c4 rfl h (⟨_,rfl,v33,(bI 67 (vl2 6)),_,(by rw [gG (qR q1) (ve c0 hc1)];exact(s.pick _ (List.Sublist.cons_cons _ (List.Sublist.cons_cons _ (List.Sublist.cons_cons _ (List.Sublist.cons _ (List.Sublist.cons _ (List.Sublist.cons _ (List.Sublist.cons _ (List.Sublist.cons _ (List.Sublist.refl _)))))))))))⟩)
    ·skip
     refine ae ?_
     refine ac h (ai aV (h.ev rfl)) rfl ?_;intro f h
     refine ax (aL.subL (aL.of_own s 3 rfl) 33 33 (D:=av (K.getD kx z3).1.pr) (bc _ _ _ _)) h aC rfl (aj _) rfl ?_;intro f h
     refine ac h (ai aK (h.ev rfl)) rfl ?_;intro f h
     refine ax (aL.subL (aL.of_own s 5 rfl) 0 33 (D:=av g.me) (bj _ _ _ _)) h aC rfl (aj _) rfl ?_;intro f h
     refine ac h (aw (.bool true) (bW (eo _ _) (by kernel_rfl) (by decide) (h.ev rfl) (h.ev rfl) (decide ((K.getD kx z3).1.pr=g.me)) (cR _ _)) (congrArg Value.bool q0)) rfl ?_;intro f h
     refine ac h (ag (h.ev rfl)) rfl ?_;intro f h
     refine aA h rfl rfl rfl ?_
     refine ac h (ag (h.ev rfl)) rfl ?_;intro f h
     refine aA h rfl rfl rfl ?_
     refine ac h (ai aV (h.ev rfl)) rfl ?_;intro f h
     refine aA h rfl rfl rfl ?_
     refine ax (aL.subL (aL.of_own s 5 rfl) 33 33 (D:=av g.pr) (bc _ _ _ _)) h aC rfl (aj _) rfl ?_;intro f h
     refine aA h rfl rfl rfl ?_
     have hme5:((K.set kx (((⟨(bD (K.getD kx z3).1 g).me,(bD (K.getD kx z3).1 g).pr,(ct l (K.getD kx z3).1 g),(bD (K.getD kx z3).1 g).fg⟩:Nd),v33,(bI 67 (vl2 6))):N3)).getD kx z3).1.me.1=(K.getD kx z3).1.me.1:=by rw [en hk];rfl
     refine dM [.agg (av g.pr)] (caps:=[.pointer (some ⟨b3,0,none⟩),.pointer (some ⟨b5,0,none⟩)]) h s lP rfl (aM (.bool true) (eW g.pr (K.set kx (((⟨(bD (K.getD kx z3).1 g).me,(bD (K.getD kx z3).1 g).pr,(ct l (K.getD kx z3).1 g),(bD (K.getD kx z3).1 g).fg⟩:Nd),v33,(bI 67 (vl2 6))):N3)) nos l vq kx bm b3 b5 _ (s.get 6 rfl) (s.get 4 rfl) (bX.of_own (s.getSl 2 rfl)) (s.get 7 rfl) hk1 hal) (by rw [hme5];exact congrArg Value.bool q1)) rfl rfl ?_;intro f w1 v50 hT hE h s;obtain rfl:=hT
     refine ac h (aD (h.ev rfl) (h.ev rfl)) rfl ?_;intro f h
     refine ah ?_
     refine hK10 _ _ ?_
     refine wpIn_cond_true (h.ev rfl) ?_
     refine ae ?_
     refine bR 6 h s ge rfl rfl (rfl) rfl ?_;intro f h
     refine ac h (ai aV (h.ev rfl)) rfl ?_;intro f h
     refine ax (aL.subL (aL.of_own s 5 rfl) 33 33 (D:=av g.pr) (bc _ _ _ _)) h aC rfl (aj _) rfl ?_;intro f h
     refine ac h (bz (h.ev rfl)) rfl ?_;intro f h
     refine ac h (bL aV (h.ev rfl) ((bX.of_own (s.getSl 2 rfl)).some (by omega))) rfl ?_;intro f h
     refine iy 2 h s aC rfl rfl rfl (aj _) (by decide) (by omega) (aS _) (DN hk (⟨(bD (K.getD kx z3).1 g).me,(bD (K.getD kx z3).1 g).pr,(ct l (K.getD kx z3).1 g),(bD (K.getD kx z3).1 g).fg⟩:Nd) v33 (bI 67 (vl2 6)) g.pr) ?_;intro w1 s
     replace s:=s.resl (m:=(K.set kx (((⟨(⟨(bD (K.getD kx z3).1 g).me,(bD (K.getD kx z3).1 g).pr,(ct l (K.getD kx z3).1 g),(bD (K.getD kx z3).1 g).fg⟩:Nd).me,g.pr,(⟨(bD (K.getD kx z3).1 g).me,(bD (K.getD kx z3).1 g).pr,(ct l (K.getD kx z3).1 g),(bD (K.getD kx z3).1 g).fg⟩:Nd).sc,(⟨(bD (K.getD kx z3).1 g).me,(bD (K.getD kx z3).1 g).pr,(ct l (K.getD kx z3).1 g),(bD (K.getD kx z3).1 g).fg⟩:Nd).fg⟩:Nd),v33,(bI 67 (vl2 6))):N3)).length) (ys:=aG (K.set kx (((⟨(⟨(bD (K.getD kx z3).1 g).me,(bD (K.getD kx z3).1 g).pr,(ct l (K.getD kx z3).1 g),(bD (K.getD kx z3).1 g).fg⟩:Nd).me,g.pr,(⟨(bD (K.getD kx z3).1 g).me,(bD (K.getD kx z3).1 g).pr,(ct l (K.getD kx z3).1 g),(bD (K.getD kx z3).1 g).fg⟩:Nd).sc,(⟨(bD (K.getD kx z3).1 g).me,(bD (K.getD kx z3).1 g).pr,(ct l (K.getD kx z3).1 g),(bD (K.getD kx z3).1 g).fg⟩:Nd).fg⟩:Nd),v33,(bI 67 (vl2 6))):N3))) 2 rfl (by rw [List.length_set,List.length_set]) rfl
     replace s:St w0 ((.grp k3 (fun w9=>c6 (K.set kx (((⟨(bD (K.getD kx z3).1 g).me,(bD (K.getD kx z3).1 g).pr,(ct l (K.getD kx z3).1 g),(bD (K.getD kx z3).1 g).fg⟩:Nd),v33,(bI 67 (vl2 6))):N3)) w9∧f4 w9 (K.getD kx z3)))::.sl v28 28 33 [g.me].length (ar [g.me])::.sl vq 42 68 (K.set kx (((⟨(⟨(bD (K.getD kx z3).1 g).me,(bD (K.getD kx z3).1 g).pr,(ct l (K.getD kx z3).1 g),(bD (K.getD kx z3).1 g).fg⟩:Nd).me,g.pr,(⟨(bD (K.getD kx z3).1 g).me,(bD (K.getD kx z3).1 g).pr,(ct l (K.getD kx z3).1 g),(bD (K.getD kx z3).1 g).fg⟩:Nd).sc,(⟨(bD (K.getD kx z3).1 g).me,(bD (K.getD kx z3).1 g).pr,(ct l (K.getD kx z3).1 g),(bD (K.getD kx z3).1 g).fg⟩:Nd).fg⟩:Nd),v33,(bI 67 (vl2 6))):N3)).length (aG (K.set kx (((⟨(⟨(bD (K.getD kx z3).1 g).me,(bD (K.getD kx z3).1 g).pr,(ct l (K.getD kx z3).1 g),(bD (K.getD kx z3).1 g).fg⟩:Nd).me,g.pr,(⟨(bD (K.getD kx z3).1 g).me,(bD (K.getD kx z3).1 g).pr,(ct l (K.getD kx z3).1 g),(bD (K.getD kx z3).1 g).fg⟩:Nd).sc,(⟨(bD (K.getD kx z3).1 g).me,(bD (K.getD kx z3).1 g).pr,(ct l (K.getD kx z3).1 g),(bD (K.getD kx z3).1 g).fg⟩:Nd).fg⟩:Nd),v33,(bI 67 (vl2 6))):N3)))::.blk b6 (.cells (ay (K.getD kx z3).1.me (K.getD kx z3).1.pr (K.getD kx z3).2.1 (K.getD kx z3).2.2) 42)::.blk b5 (.cells (#[.map (some bm)]) 84)::.blk b4 (.cells (ay g.me g.pr us uf) 42)::.blk b3 (.cells (#[.pointer (some (a2 vq (kx*68)))]) 54)::.blk bm (d5 nos)::B9) _:=s
     replace s:=s.weak (S':=fun w9=>c6 (K.set kx (((⟨(⟨(bD (K.getD kx z3).1 g).me,(bD (K.getD kx z3).1 g).pr,(ct l (K.getD kx z3).1 g),(bD (K.getD kx z3).1 g).fg⟩:Nd).me,g.pr,(⟨(bD (K.getD kx z3).1 g).me,(bD (K.getD kx z3).1 g).pr,(ct l (K.getD kx z3).1 g),(bD (K.getD kx z3).1 g).fg⟩:Nd).sc,(⟨(bD (K.getD kx z3).1 g).me,(bD (K.getD kx z3).1 g).pr,(ct l (K.getD kx z3).1 g),(bD (K.getD kx z3).1 g).fg⟩:Nd).fg⟩:Nd),v33,(bI 67 (vl2 6))):N3)) w9∧f4 w9 (K.getD kx z3)) (fun w9 h3=>⟨lA h3.1 (n1 (T:=(⟨(bD (K.getD kx z3).1 g).me,(bD (K.getD kx z3).1 g).pr,(ct l (K.getD kx z3).1 g),(bD (K.getD kx z3).1 g).fg⟩:Nd)) (u:=v33) (v:=(bI 67 (vl2 6))) h3.1 hk1 (en hk _)),h3.2⟩)
     refine ah ?_
     replace s:St w0 ((.grp k3 (fun w9=>c6 (K.set kx (((⟨(⟨(bD (K.getD kx z3).1 g).me,(bD (K.getD kx z3).1 g).pr,(ct l (K.getD kx z3).1 g),(bD (K.getD kx z3).1 g).fg⟩:Nd).me,g.pr,(⟨(bD (K.getD kx z3).1 g).me,(bD (K.getD kx z3).1 g).pr,(ct l (K.getD kx z3).1 g),(bD (K.getD kx z3).1 g).fg⟩:Nd).sc,(⟨(bD (K.getD kx z3).1 g).me,(bD (K.getD kx z3).1 g).pr,(ct l (K.getD kx z3).1 g),(bD (K.getD kx z3).1 g).fg⟩:Nd).fg⟩:Nd),v33,(bI 67 (vl2 6))):N3)) w9∧f4 w9 (K.getD kx z3)))::.sl v28 28 33 [g.me].length (ar [g.me])::.sl vq 42 68 (K.set kx (((⟨(⟨(bD (K.getD kx z3).1 g).me,(bD (K.getD kx z3).1 g).pr,(ct l (K.getD kx z3).1 g),(bD (K.getD kx z3).1 g).fg⟩:Nd).me,g.pr,(⟨(bD (K.getD kx z3).1 g).me,(bD (K.getD kx z3).1 g).pr,(ct l (K.getD kx z3).1 g),(bD (K.getD kx z3).1 g).fg⟩:Nd).sc,(⟨(bD (K.getD kx z3).1 g).me,(bD (K.getD kx z3).1 g).pr,(ct l (K.getD kx z3).1 g),(bD (K.getD kx z3).1 g).fg⟩:Nd).fg⟩:Nd),v33,(bI 67 (vl2 6))):N3)).length (aG (K.set kx (((⟨(⟨(bD (K.getD kx z3).1 g).me,(bD (K.getD kx z3).1 g).pr,(ct l (K.getD kx z3).1 g),(bD (K.getD kx z3).1 g).fg⟩:Nd).me,g.pr,(⟨(bD (K.getD kx z3).1 g).me,(bD (K.getD kx z3).1 g).pr,(ct l (K.getD kx z3).1 g),(bD (K.getD kx z3).1 g).fg⟩:Nd).sc,(⟨(bD (K.getD kx z3).1 g).me,(bD (K.getD kx z3).1 g).pr,(ct l (K.getD kx z3).1 g),(bD (K.getD kx z3).1 g).fg⟩:Nd).fg⟩:Nd),v33,(bI 67 (vl2 6))):N3)))::.blk b6 (.cells (ay (K.getD kx z3).1.me (K.getD kx z3).1.pr (K.getD kx z3).2.1 (K.getD kx z3).2.2) 42)::.blk b5 (.cells (#[.map (some bm)]) 84)::.blk b4 (.cells (ay g.me g.pr us uf) 42)::.blk b3 (.cells (#[.pointer (some (a2 vq (kx*68)))]) 54)::.blk bm (d5 nos)::B9) _:=s
     replace s:=s.weak (S':=c6 (K.set kx (((⟨(⟨(bD (K.getD kx z3).1 g).me,(bD (K.getD kx z3).1 g).pr,(ct l (K.getD kx z3).1 g),(bD (K.getD kx z3).1 g).fg⟩:Nd).me,g.pr,(⟨(bD (K.getD kx z3).1 g).me,(bD (K.getD kx z3).1 g).pr,(ct l (K.getD kx z3).1 g),(bD (K.getD kx z3).1 g).fg⟩:Nd).sc,(⟨(bD (K.getD kx z3).1 g).me,(bD (K.getD kx z3).1 g).pr,(ct l (K.getD kx z3).1 g),(bD (K.getD kx z3).1 g).fg⟩:Nd).fg⟩:Nd),v33,(bI 67 (vl2 6))):N3))) (fun w9 h3=>h3.1)
     replace s:=s.bring 7 rfl
     replace s:=s.bring 1 rfl
     replace s:=s.bring 3 rfl
     replace s:St w0 (.sl vq 42 68 (K.set kx (((⟨(⟨(bD (K.getD kx z3).1 g).me,(bD (K.getD kx z3).1 g).pr,(ct l (K.getD kx z3).1 g),(bD (K.getD kx z3).1 g).fg⟩:Nd).me,g.pr,(⟨(bD (K.getD kx z3).1 g).me,(bD (K.getD kx z3).1 g).pr,(ct l (K.getD kx z3).1 g),(bD (K.getD kx z3).1 g).fg⟩:Nd).sc,(⟨(bD (K.getD kx z3).1 g).me,(bD (K.getD kx z3).1 g).pr,(ct l (K.getD kx z3).1 g),(bD (K.getD kx z3).1 g).fg⟩:Nd).fg⟩:Nd),v33,(bI 67 (vl2 6))):N3)).length (aG (K.set kx (((⟨(⟨(bD (K.getD kx z3).1 g).me,(bD (K.getD kx z3).1 g).pr,(ct l (K.getD kx z3).1 g),(bD (K.getD kx z3).1 g).fg⟩:Nd).me,g.pr,(⟨(bD (K.getD kx z3).1 g).me,(bD (K.getD kx z3).1 g).pr,(ct l (K.getD kx z3).1 g),(bD (K.getD kx z3).1 g).fg⟩:Nd).sc,(⟨(bD (K.getD kx z3).1 g).me,(bD (K.getD kx z3).1 g).pr,(ct l (K.getD kx z3).1 g),(bD (K.getD kx z3).1 g).fg⟩:Nd).fg⟩:Nd),v33,(bI 67 (vl2 6))):N3)))::(.grp k3 (c6 (K.set kx (((⟨(⟨(bD (K.getD kx z3).1 g).me,(bD (K.getD kx z3).1 g).pr,(ct l (K.getD kx z3).1 g),(bD (K.getD kx z3).1 g).fg⟩:Nd).me,g.pr,(⟨(bD (K.getD kx z3).1 g).me,(bD (K.getD kx z3).1 g).pr,(ct l (K.getD kx z3).1 g),(bD (K.getD kx z3).1 g).fg⟩:Nd).sc,(⟨(bD (K.getD kx z3).1 g).me,(bD (K.getD kx z3).1 g).pr,(ct l (K.getD kx z3).1 g),(bD (K.getD kx z3).1 g).fg⟩:Nd).fg⟩:Nd),v33,(bI 67 (vl2 6))):N3))))::.blk bm (d5 nos)::.sl v28 28 33 [g.me].length (ar [g.me])::.blk b6 (.cells (ay (K.getD kx z3).1.me (K.getD kx z3).1.pr (K.getD kx z3).2.1 (K.getD kx z3).2.2) 42)::.blk b5 (.cells (#[.map (some bm)]) 84)::.blk b4 (.cells (ay g.me g.pr us uf) 42)::.blk b3 (.cells (#[.pointer (some (a2 vq (kx*68)))]) 54)::B9) _:=s
     exact c4 rfl h (⟨_,rfl,v33,(bI 67 (vl2 6)),_,(by rw [gG (wj q0 q1) (ve c0 hc1)];exact(s.pick _ (List.Sublist.cons_cons _ (List.Sublist.cons_cons _ (List.Sublist.cons_cons _ (List.Sublist.cons _ (List.Sublist.cons _ (List.Sublist.cons _ (List.Sublist.cons _ (List.Sublist.cons _ (List.Sublist.refl _)))))))))))⟩)
  ·have hc1:¬ 0<(ct l (K.getD kx z3).1 g).length:=by have:=of_decide_eq_false hc;omega
   refine wpIn_skip ?_
   refine hK5 _ _ ?_
   refine al fun K11 hK11=>?_
   cases q0:(decide ((K.getD kx z3).1.pr=g.me):Bool)
   ·skip
    refine ae ?_
    refine ac h (ai aV (h.ev rfl)) rfl ?_;intro f h
    refine ax (aL.subL (aL.of_own s 4 rfl) 33 33 (D:=av (K.getD kx z3).1.pr) (bc _ _ _ _)) h aC rfl (aj _) rfl ?_;intro f h
    refine ac h (ai aK (h.ev rfl)) rfl ?_;intro f h
    refine ax (aL.subL (aL.of_own s 6 rfl) 0 33 (D:=av g.me) (bj _ _ _ _)) h aC rfl (aj _) rfl ?_;intro f h
    refine ac h (aw (.bool false) (bW (eo _ _) (by kernel_rfl) (by decide) (h.ev rfl) (h.ev rfl) (decide ((K.getD kx z3).1.pr=g.me)) (cR _ _)) (congrArg Value.bool q0)) rfl ?_;intro f h
    refine ac h (ag (h.ev rfl)) rfl ?_;intro f h
    refine aB (b:=true) h rfl rfl rfl rfl ?_;intro f h
    refine aB (b:=true) h rfl rfl rfl rfl ?_;intro f h
    refine aB (b:=true) h rfl rfl rfl rfl ?_;intro f h
    refine aB (b:=true) h rfl rfl rfl rfl ?_;intro f h
    refine ac h (aF (h.ev rfl) (h.ev rfl)) rfl ?_;intro f h
    refine ah ?_
    refine hK11 _ _ ?_
    refine wpIn_cond_false (h.ev rfl) ?_
    refine wpIn_skip ?_
    replace s:=s.bring 2 rfl
    replace s:St w0 ((.grp k2 (fun w9=>c6 (K.set kx (((bD (K.getD kx z3).1 g),(bI 66 (vl2 6)),(bI 67 (vl2 6))):N3)) w9∧f4 w9 (K.getD kx z3)))::.sl v33 28 33 (ct l (K.getD kx z3).1 g).length (ar (ct l (K.getD kx z3).1 g))::.sl v28 28 33 [g.me].length (ar [g.me])::.sl vq 42 68 (K.set kx (((bD (K.getD kx z3).1 g),(bI 66 (vl2 6)),(bI 67 (vl2 6))):N3)).length (aG (K.set kx (((bD (K.getD kx z3).1 g),(bI 66 (vl2 6)),(bI 67 (vl2 6))):N3)))::.blk b6 (.cells (ay (K.getD kx z3).1.me (K.getD kx z3).1.pr (K.getD kx z3).2.1 (K.getD kx z3).2.2) 42)::.blk b5 (.cells (#[.map (some bm)]) 84)::.blk b4 (.cells (ay g.me g.pr us uf) 42)::.blk b3 (.cells (#[.pointer (some (a2 vq (kx*68)))]) 54)::.blk bm (d5 nos)::B9) _:=s
    replace s:=s.weak (S':=c6 (K.set kx (((bD (K.getD kx z3).1 g),(bI 66 (vl2 6)),(bI 67 (vl2 6))):N3))) (fun w9 h3=>h3.1)
    replace s:=s.bring 8 rfl
    replace s:=s.bring 1 rfl
    replace s:=s.bring 4 rfl
    replace s:St w0 (.sl vq 42 68 (K.set kx (((bD (K.getD kx z3).1 g),(bI 66 (vl2 6)),(bI 67 (vl2 6))):N3)).length (aG (K.set kx (((bD (K.getD kx z3).1 g),(bI 66 (vl2 6)),(bI 67 (vl2 6))):N3)))::(.grp k2 (c6 (K.set kx (((bD (K.getD kx z3).1 g),(bI 66 (vl2 6)),(bI 67 (vl2 6))):N3))))::.blk bm (d5 nos)::.sl v33 28 33 (ct l (K.getD kx z3).1 g).length (ar (ct l (K.getD kx z3).1 g))::.sl v28 28 33 [g.me].length (ar [g.me])::.blk b6 (.cells (ay (K.getD kx z3).1.me (K.getD kx z3).1.pr (K.getD kx z3).2.1 (K.getD kx z3).2.2) 42)::.blk b5 (.cells (#[.map (some bm)]) 84)::.blk b4 (.cells (ay g.me g.pr us uf) 42)::.blk b3 (.cells (#[.pointer (some (a2 vq (kx*68)))]) 54)::B9) _:=s
    exact c4 rfl h (⟨_,rfl,(bI 66 (vl2 6)),(bI 67 (vl2 6)),_,(by rw [gG (qh q0) (qS hc1)];exact(s.pick _ (List.Sublist.cons_cons _ (List.Sublist.cons_cons _ (List.Sublist.cons_cons _ (List.Sublist.cons _ (List.Sublist.cons _ (List.Sublist.cons _ (List.Sublist.cons _ (List.Sublist.cons _ (List.Sublist.cons _ (List.Sublist.refl _))))))))))))⟩)
   ·skip
    cases q1:(rA l (K.getD kx z3).1.me.1 g.pr:Bool)
    ·skip
     refine ae ?_
     refine ac h (ai aV (h.ev rfl)) rfl ?_;intro f h
     refine ax (aL.subL (aL.of_own s 4 rfl) 33 33 (D:=av (K.getD kx z3).1.pr) (bc _ _ _ _)) h aC rfl (aj _) rfl ?_;intro f h
     refine ac h (ai aK (h.ev rfl)) rfl ?_;intro f h
     refine ax (aL.subL (aL.of_own s 6 rfl) 0 33 (D:=av g.me) (bj _ _ _ _)) h aC rfl (aj _) rfl ?_;intro f h
     refine ac h (aw (.bool true) (bW (eo _ _) (by kernel_rfl) (by decide) (h.ev rfl) (h.ev rfl) (decide ((K.getD kx z3).1.pr=g.me)) (cR _ _)) (congrArg Value.bool q0)) rfl ?_;intro f h
     refine ac h (ag (h.ev rfl)) rfl ?_;intro f h
     refine aA h rfl rfl rfl ?_
     refine ac h (ag (h.ev rfl)) rfl ?_;intro f h
     refine aA h rfl rfl rfl ?_
     refine ac h (ai aV (h.ev rfl)) rfl ?_;intro f h
     refine aA h rfl rfl rfl ?_
     refine ax (aL.subL (aL.of_own s 6 rfl) 33 33 (D:=av g.pr) (bc _ _ _ _)) h aC rfl (aj _) rfl ?_;intro f h
     refine aA h rfl rfl rfl ?_
     have hme5:((K.set kx (((bD (K.getD kx z3).1 g),(bI 66 (vl2 6)),(bI 67 (vl2 6))):N3)).getD kx z3).1.me.1=(K.getD kx z3).1.me.1:=by rw [en hk];rfl
     refine dM [.agg (av g.pr)] (caps:=[.pointer (some ⟨b3,0,none⟩),.pointer (some ⟨b5,0,none⟩)]) h s lP rfl (aM (.bool false) (eW g.pr (K.set kx (((bD (K.getD kx z3).1 g),(bI 66 (vl2 6)),(bI 67 (vl2 6))):N3)) nos l vq kx bm b3 b5 _ (s.get 7 rfl) (s.get 5 rfl) (bX.of_own (s.getSl 3 rfl)) (s.get 8 rfl) hk1 hal) (by rw [hme5];exact congrArg Value.bool q1)) rfl rfl ?_;intro f w1 v50 hT hE h s;obtain rfl:=hT
     refine ac h (aD (h.ev rfl) (h.ev rfl)) rfl ?_;intro f h
     refine ah ?_
     refine hK11 _ _ ?_
     refine wpIn_cond_false (h.ev rfl) ?_
     refine wpIn_skip ?_
     replace s:=s.bring 2 rfl
     replace s:St w0 ((.grp k2 (fun w9=>c6 (K.set kx (((bD (K.getD kx z3).1 g),(bI 66 (vl2 6)),(bI 67 (vl2 6))):N3)) w9∧f4 w9 (K.getD kx z3)))::.sl v33 28 33 (ct l (K.getD kx z3).1 g).length (ar (ct l (K.getD kx z3).1 g))::.sl v28 28 33 [g.me].length (ar [g.me])::.sl vq 42 68 (K.set kx (((bD (K.getD kx z3).1 g),(bI 66 (vl2 6)),(bI 67 (vl2 6))):N3)).length (aG (K.set kx (((bD (K.getD kx z3).1 g),(bI 66 (vl2 6)),(bI 67 (vl2 6))):N3)))::.blk b6 (.cells (ay (K.getD kx z3).1.me (K.getD kx z3).1.pr (K.getD kx z3).2.1 (K.getD kx z3).2.2) 42)::.blk b5 (.cells (#[.map (some bm)]) 84)::.blk b4 (.cells (ay g.me g.pr us uf) 42)::.blk b3 (.cells (#[.pointer (some (a2 vq (kx*68)))]) 54)::.blk bm (d5 nos)::B9) _:=s
     replace s:=s.weak (S':=c6 (K.set kx (((bD (K.getD kx z3).1 g),(bI 66 (vl2 6)),(bI 67 (vl2 6))):N3))) (fun w9 h3=>h3.1)
     replace s:=s.bring 8 rfl
     replace s:=s.bring 1 rfl
     replace s:=s.bring 4 rfl
     replace s:St w0 (.sl vq 42 68 (K.set kx (((bD (K.getD kx z3).1 g),(bI 66 (vl2 6)),(bI 67 (vl2 6))):N3)).length (aG (K.set kx (((bD (K.getD kx z3).1 g),(bI 66 (vl2 6)),(bI 67 (vl2 6))):N3)))::(.grp k2 (c6 (K.set kx (((bD (K.getD kx z3).1 g),(bI 66 (vl2 6)),(bI 67 (vl2 6))):N3))))::.blk bm (d5 nos)::.sl v33 28 33 (ct l (K.getD kx z3).1 g).length (ar (ct l (K.getD kx z3).1 g))::.sl v28 28 33 [g.me].length (ar [g.me])::.blk b6 (.cells (ay (K.getD kx z3).1.me (K.getD kx z3).1.pr (K.getD kx z3).2.1 (K.getD kx z3).2.2) 42)::.blk b5 (.cells (#[.map (some bm)]) 84)::.blk b4 (.cells (ay g.me g.pr us uf) 42)::.blk b3 (.cells (#[.pointer (some (a2 vq (kx*68)))]) 54)::B9) _:=s
     exact c4 rfl h (⟨_,rfl,(bI 66 (vl2 6)),(bI 67 (vl2 6)),_,(by rw [gG (qR q1) (qS hc1)];exact(s.pick _ (List.Sublist.cons_cons _ (List.Sublist.cons_cons _ (List.Sublist.cons_cons _ (List.Sublist.cons _ (List.Sublist.cons _ (List.Sublist.cons _ (List.Sublist.cons _ (List.Sublist.cons _ (List.Sublist.cons _ (List.Sublist.refl _))))))))))))⟩)
    ·skip
     refine ae ?_
     refine ac h (ai aV (h.ev rfl)) rfl ?_;intro f h
     refine ax (aL.subL (aL.of_own s 4 rfl) 33 33 (D:=av (K.getD kx z3).1.pr) (bc _ _ _ _)) h aC rfl (aj _) rfl ?_;intro f h
     refine ac h (ai aK (h.ev rfl)) rfl ?_;intro f h
     refine ax (aL.subL (aL.of_own s 6 rfl) 0 33 (D:=av g.me) (bj _ _ _ _)) h aC rfl (aj _) rfl ?_;intro f h
     refine ac h (aw (.bool true) (bW (eo _ _) (by kernel_rfl) (by decide) (h.ev rfl) (h.ev rfl) (decide ((K.getD kx z3).1.pr=g.me)) (cR _ _)) (congrArg Value.bool q0)) rfl ?_;intro f h
     refine ac h (ag (h.ev rfl)) rfl ?_;intro f h
     refine aA h rfl rfl rfl ?_
     refine ac h (ag (h.ev rfl)) rfl ?_;intro f h
     refine aA h rfl rfl rfl ?_
     refine ac h (ai aV (h.ev rfl)) rfl ?_;intro f h
     refine aA h rfl rfl rfl ?_
     refine ax (aL.subL (aL.of_own s 6 rfl) 33 33 (D:=av g.pr) (bc _ _ _ _)) h aC rfl (aj _) rfl ?_;intro f h
     refine aA h rfl rfl rfl ?_
     have hme5:((K.set kx (((bD (K.getD kx z3).1 g),(bI 66 (vl2 6)),(bI 67 (vl2 6))):N3)).getD kx z3).1.me.1=(K.getD kx z3).1.me.1:=by rw [en hk];rfl
     refine dM [.agg (av g.pr)] (caps:=[.pointer (some ⟨b3,0,none⟩),.pointer (some ⟨b5,0,none⟩)]) h s lP rfl (aM (.bool true) (eW g.pr (K.set kx (((bD (K.getD kx z3).1 g),(bI 66 (vl2 6)),(bI 67 (vl2 6))):N3)) nos l vq kx bm b3 b5 _ (s.get 7 rfl) (s.get 5 rfl) (bX.of_own (s.getSl 3 rfl)) (s.get 8 rfl) hk1 hal) (by rw [hme5];exact congrArg Value.bool q1)) rfl rfl ?_;intro f w1 v50 hT hE h s;obtain rfl:=hT
     refine ac h (aD (h.ev rfl) (h.ev rfl)) rfl ?_;intro f h
     refine ah ?_
     refine hK11 _ _ ?_
     refine wpIn_cond_true (h.ev rfl) ?_
     refine ae ?_
     refine bR 7 h s ge rfl rfl (rfl) rfl ?_;intro f h
     refine ac h (ai aV (h.ev rfl)) rfl ?_;intro f h
     refine ax (aL.subL (aL.of_own s 6 rfl) 33 33 (D:=av g.pr) (bc _ _ _ _)) h aC rfl (aj _) rfl ?_;intro f h
     refine ac h (bz (h.ev rfl)) rfl ?_;intro f h
     refine ac h (bL aV (h.ev rfl) ((bX.of_own (s.getSl 3 rfl)).some (by omega))) rfl ?_;intro f h
     refine iy 3 h s aC rfl rfl rfl (aj _) (by decide) (by omega) (aS _) (DN hk (bD (K.getD kx z3).1 g) (bI 66 (vl2 6)) (bI 67 (vl2 6)) g.pr) ?_;intro w1 s
     replace s:=s.resl (m:=(K.set kx (((⟨(bD (K.getD kx z3).1 g).me,g.pr,(bD (K.getD kx z3).1 g).sc,(bD (K.getD kx z3).1 g).fg⟩:Nd),(bI 66 (vl2 6)),(bI 67 (vl2 6))):N3)).length) (ys:=aG (K.set kx (((⟨(bD (K.getD kx z3).1 g).me,g.pr,(bD (K.getD kx z3).1 g).sc,(bD (K.getD kx z3).1 g).fg⟩:Nd),(bI 66 (vl2 6)),(bI 67 (vl2 6))):N3))) 3 rfl (by rw [List.length_set,List.length_set]) rfl
     replace s:=s.bring 2 rfl
     replace s:St w0 ((.grp k2 (fun w9=>c6 (K.set kx (((bD (K.getD kx z3).1 g),(bI 66 (vl2 6)),(bI 67 (vl2 6))):N3)) w9∧f4 w9 (K.getD kx z3)))::.sl v33 28 33 (ct l (K.getD kx z3).1 g).length (ar (ct l (K.getD kx z3).1 g))::.sl v28 28 33 [g.me].length (ar [g.me])::.sl vq 42 68 (K.set kx (((⟨(bD (K.getD kx z3).1 g).me,g.pr,(bD (K.getD kx z3).1 g).sc,(bD (K.getD kx z3).1 g).fg⟩:Nd),(bI 66 (vl2 6)),(bI 67 (vl2 6))):N3)).length (aG (K.set kx (((⟨(bD (K.getD kx z3).1 g).me,g.pr,(bD (K.getD kx z3).1 g).sc,(bD (K.getD kx z3).1 g).fg⟩:Nd),(bI 66 (vl2 6)),(bI 67 (vl2 6))):N3)))::.blk b6 (.cells (ay (K.getD kx z3).1.me (K.getD kx z3).1.pr (K.getD kx z3).2.1 (K.getD kx z3).2.2) 42)::.blk b5 (.cells (#[.map (some bm)]) 84)::.blk b4 (.cells (ay g.me g.pr us uf) 42)::.blk b3 (.cells (#[.pointer (some (a2 vq (kx*68)))]) 54)::.blk bm (d5 nos)::B9) _:=s
     replace s:=s.weak (S':=fun w9=>c6 (K.set kx (((⟨(bD (K.getD kx z3).1 g).me,g.pr,(bD (K.getD kx z3).1 g).sc,(bD (K.getD kx z3).1 g).fg⟩:Nd),(bI 66 (vl2 6)),(bI 67 (vl2 6))):N3)) w9∧f4 w9 (K.getD kx z3)) (fun w9 h3=>⟨lA h3.1 (n1 (T:=(bD (K.getD kx z3).1 g)) (u:=(bI 66 (vl2 6))) (v:=(bI 67 (vl2 6))) h3.1 hk1 (en hk _)),h3.2⟩)
     refine ah ?_
     replace s:St w0 ((.grp k2 (fun w9=>c6 (K.set kx (((⟨(bD (K.getD kx z3).1 g).me,g.pr,(bD (K.getD kx z3).1 g).sc,(bD (K.getD kx z3).1 g).fg⟩:Nd),(bI 66 (vl2 6)),(bI 67 (vl2 6))):N3)) w9∧f4 w9 (K.getD kx z3)))::.sl v33 28 33 (ct l (K.getD kx z3).1 g).length (ar (ct l (K.getD kx z3).1 g))::.sl v28 28 33 [g.me].length (ar [g.me])::.sl vq 42 68 (K.set kx (((⟨(bD (K.getD kx z3).1 g).me,g.pr,(bD (K.getD kx z3).1 g).sc,(bD (K.getD kx z3).1 g).fg⟩:Nd),(bI 66 (vl2 6)),(bI 67 (vl2 6))):N3)).length (aG (K.set kx (((⟨(bD (K.getD kx z3).1 g).me,g.pr,(bD (K.getD kx z3).1 g).sc,(bD (K.getD kx z3).1 g).fg⟩:Nd),(bI 66 (vl2 6)),(bI 67 (vl2 6))):N3)))::.blk b6 (.cells (ay (K.getD kx z3).1.me (K.getD kx z3).1.pr (K.getD kx z3).2.1 (K.getD kx z3).2.2) 42)::.blk b5 (.cells (#[.map (some bm)]) 84)::.blk b4 (.cells (ay g.me g.pr us uf) 42)::.blk b3 (.cells (#[.pointer (some (a2 vq (kx*68)))]) 54)::.blk bm (d5 nos)::B9) _:=s
     replace s:=s.weak (S':=c6 (K.set kx (((⟨(bD (K.getD kx z3).1 g).me,g.pr,(bD (K.getD kx z3).1 g).sc,(bD (K.getD kx z3).1 g).fg⟩:Nd),(bI 66 (vl2 6)),(bI 67 (vl2 6))):N3))) (fun w9 h3=>h3.1)
     replace s:=s.bring 8 rfl
     replace s:=s.bring 1 rfl
     replace s:=s.bring 4 rfl
     replace s:St w0 (.sl vq 42 68 (K.set kx (((⟨(bD (K.getD kx z3).1 g).me,g.pr,(bD (K.getD kx z3).1 g).sc,(bD (K.getD kx z3).1 g).fg⟩:Nd),(bI 66 (vl2 6)),(bI 67 (vl2 6))):N3)).length (aG (K.set kx (((⟨(bD (K.getD kx z3).1 g).me,g.pr,(bD (K.getD kx z3).1 g).sc,(bD (K.getD kx z3).1 g).fg⟩:Nd),(bI 66 (vl2 6)),(bI 67 (vl2 6))):N3)))::(.grp k2 (c6 (K.set kx (((⟨(bD (K.getD kx z3).1 g).me,g.pr,(bD (K.getD kx z3).1 g).sc,(bD (K.getD kx z3).1 g).fg⟩:Nd),(bI 66 (vl2 6)),(bI 67 (vl2 6))):N3))))::.blk bm (d5 nos)::.sl v33 28 33 (ct l (K.getD kx z3).1 g).length (ar (ct l (K.getD kx z3).1 g))::.sl v28 28 33 [g.me].length (ar [g.me])::.blk b6 (.cells (ay (K.getD kx z3).1.me (K.getD kx z3).1.pr (K.getD kx z3).2.1 (K.getD kx z3).2.2) 42)::.blk b5 (.cells (#[.map (some bm)]) 84)::.blk b4 (.cells (ay g.me g.pr us uf) 42)::.blk b3 (.cells (#[.pointer (some (a2 vq (kx*68)))]) 54)::B9) _:=s
     exact c4 rfl h (⟨_,rfl,(bI 66 (vl2 6)),(bI 67 (vl2 6)),_,(by rw [gG (wj q0 q1) (qS hc1)];exact(s.pick _ (List.Sublist.cons_cons _ (List.Sublist.cons_cons _ (List.Sublist.cons_cons _ (List.Sublist.cons _ (List.Sublist.cons _ (List.Sublist.cons _ (List.Sublist.cons _ (List.Sublist.cons _ (List.Sublist.cons _ (List.Sublist.refl _))))))))))))⟩)
set_option maxHeartbeats 1000000 in
theorem p6 (L:List N3) (vo:Value) (no:Int) (w:World) (hO:eN w vo L) (hL:L.length≤40) (hb:RwB L):Calls Tryz.prog 29 [.agg #[vo],.int .i64 no].toArray w (cU w (zr w (Do vo L) (BM L no) (cE L no))):=by
 refine d7 Tryz.func29 rfl Tryz.ntmps29 rfl [(0,.agg #[vo]),(1,.int .i64 no)] (by simp) fun f h=>?_
 have s:=St.start w
 refine al fun K1 hK1=>?_
 refine ae ?_
 refine bV (#[vo]) h s rfl rfl rfl ?_;intro f w1 b2 h s
 refine bV (#[.int .i64 no]) h s rfl rfl rfl ?_;intro f w1 b3 h s
 refine bf (#[bp]) h s d3 rfl rfl ?_;intro f w1 b4 h s
 refine ac h (ak (h.ev rfl)) rfl ?_;intro f h
 refine ah ?_
 refine hK1 _ _ ?_
 refine al fun K2 hK2=>?_
 cases r0:(hQ L:Bool)
 ·skip
  refine ae ?_
  refine au 2 h s bk rfl rfl (rfl) rfl ?_;intro f h
  refine bR 1 h s bw rfl rfl (rfl) rfl ?_;intro f h
  refine aI h s rU (gr L vo no _ (hO.keep s.ext) hL hb) rfl rfl ?_;intro f w1 v13 hop hE h sq
  obtain rfl:=hop.n (fY r0) (by decide)
  replace s:=sq
  refine ac h (ag (h.ev rfl)) rfl ?_;intro f h
  refine ac h (bG (h.ev rfl) rfl) rfl ?_;intro f h
  refine ac h (bG (h.ev rfl) rfl) rfl ?_;intro f h
  refine bf (#[bp]) h s d3 rfl rfl ?_;intro f w1 b6 h s
  refine az 0 h s bk rfl rfl rfl (rfl) (rfl) (cq (rfl)) ?_;intro w1 s
  refine ac h (ak (h.ev rfl)) rfl ?_;intro f h
  refine ah ?_
  refine hK2 _ _ ?_
  refine al fun K3 hK3=>?_
  refine al fun K4 hK4=>?_
  refine ae ?_
  refine ac h (ag (h.ev rfl)) rfl ?_;intro f h
  refine ac h (aw (.bool true) (cy (h.ev rfl) (h.ev rfl)) (by rfl)) rfl ?_;intro f h
  refine ah ?_
  refine hK4 _ _ ?_
  refine wpIn_cond_true (h.ev rfl) ?_
  refine al fun K5 hK5=>?_
  refine ae ?_
  refine ac h (co g5) rfl ?_;intro f h
  refine ac h (ag (h.ev rfl)) rfl ?_;intro f h
  refine az 1 h s bk rfl rfl rfl (rfl) (rfl) (cq (rfl)) ?_;intro w1 s
  refine ac h (ak (h.ev rfl)) rfl ?_;intro f h
  refine ah ?_
  refine hK5 _ _ ?_
  refine wpIn_ret ?_
  refine aY ?_
  exact fb 1 rfl h s bk rfl rfl rfl (rfl) (jg s (pj (fY r0) (by decide)) (fY r0))
 ·skip
  cases l0:(cx (aR L) no:Bool)
  ·skip
   refine ae ?_
   refine au 2 h s bk rfl rfl (rfl) rfl ?_;intro f h
   refine bR 1 h s bw rfl rfl (rfl) rfl ?_;intro f h
   refine aI h s rU (gr L vo no _ (hO.keep s.ext) hL hb) rfl rfl ?_;intro f w1 v13 hop hE h sq
   obtain rfl:=hop.n (eZ r0 l0) (by decide)
   replace s:=sq
   refine ac h (ag (h.ev rfl)) rfl ?_;intro f h
   refine ac h (bG (h.ev rfl) rfl) rfl ?_;intro f h
   refine ac h (bG (h.ev rfl) rfl) rfl ?_;intro f h
   refine bf (#[bp]) h s d3 rfl rfl ?_;intro f w1 b6 h s
   refine az 0 h s bk rfl rfl rfl (rfl) (rfl) (cq (rfl)) ?_;intro w1 s
   refine ac h (ak (h.ev rfl)) rfl ?_;intro f h
   refine ah ?_
   refine hK2 _ _ ?_
   refine al fun K6 hK6=>?_
   refine al fun K7 hK7=>?_
   refine ae ?_
   refine ac h (ag (h.ev rfl)) rfl ?_;intro f h
   refine ac h (aw (.bool true) (cy (h.ev rfl) (h.ev rfl)) (by rfl)) rfl ?_;intro f h
   refine ah ?_
   refine hK7 _ _ ?_
   refine wpIn_cond_true (h.ev rfl) ?_
   refine al fun K8 hK8=>?_
   refine ae ?_
   refine ac h (co g5) rfl ?_;intro f h
   refine ac h (ag (h.ev rfl)) rfl ?_;intro f h
   refine az 1 h s bk rfl rfl rfl (rfl) (rfl) (cq (rfl)) ?_;intro w1 s
   refine ac h (ak (h.ev rfl)) rfl ?_;intro f h
   refine ah ?_
   refine hK8 _ _ ?_
   refine wpIn_ret ?_
   refine aY ?_
   exact fb 1 rfl h s bk rfl rfl rfl (rfl) (jg s (pj (eZ r0 l0) (by decide)) (eZ r0 l0))
  ·skip
   refine ae ?_
   refine au 2 h s bk rfl rfl (rfl) rfl ?_;intro f h
   refine bR 1 h s bw rfl rfl (rfl) rfl ?_;intro f h
   refine aI h s rU (gr L vo no _ (hO.keep s.ext) hL hb) rfl rfl ?_;intro f w1 v13 hop hE h sq
   obtain ⟨vq,K,ks,rfl,hnk,hS⟩:=hop.y (gQ r0 l0)
   replace s:=s.add hS
   clear hS hop
   have hrs:=(eJ r0).rs
   obtain ⟨hio,hgo,hgom⟩:=uW hrs l0
   have hRSK:RS K:=hrs.wosn hnk
   have hl16:=hRSK.len
   have hgb:=hb.each _ hgom
   rw [← hgo] at hgb
   refine ac h (ag (h.ev rfl)) rfl ?_;intro f h
   refine ac h (bG (h.ev rfl) rfl) rfl ?_;intro f h
   refine ac h (bG (h.ev rfl) rfl) rfl ?_;intro f h
   refine bf (#[bp]) h s d3 rfl rfl ?_;intro f w1 b6 h s
   refine az 0 h s bk rfl rfl rfl (rfl) (rfl) (cq (aQ (s.getSl 1 rfl))) ?_;intro w1 s
   refine ac h (ak (h.ev rfl)) rfl ?_;intro f h
   refine ah ?_
   refine hK2 _ _ ?_
   refine al fun K9 hK9=>?_
   refine al fun K10 hK10=>?_
   refine ae ?_
   refine ac h (ag (h.ev rfl)) rfl ?_;intro f h
   refine ac h (aw (.bool false) (cy (h.ev rfl) (h.ev rfl)) (by rfl)) rfl ?_;intro f h
   refine ah ?_
   refine hK10 _ _ ?_
   refine wpIn_cond_false (h.ev rfl) ?_
   refine wpIn_skip ?_
   refine hK9 _ _ ?_
   refine al fun K11 hK11=>?_
   refine ae ?_
   refine au 0 h s bk rfl rfl (rfl) rfl ?_;intro f h
   refine aI h s B4 (qf K vq _ ⟨(bX.of_own (s.getSl 1 rfl)),fun y hy=>(s.getG 2 rfl y hy)⟩ (by omega) (Ax hRSK.inc)) rfl rfl ?_;rintro f w1 v21 ⟨bm,rfl,hS⟩ hE h sq;replace s:=s.add hS;clear hS
   refine bf (#[.map none]) h s w6 rfl rfl ?_;intro f w1 b8 h s
   refine br 0 h s jY rfl rfl rfl (by simp) (rfl) ?_;intro w1 s
   refine ah ?_
   refine hK11 _ _ ?_
   refine al fun K12 hK12=>?_
   refine al fun K13 hK13=>?_
   refine ae ?_
   refine au 2 h s bk rfl rfl (rfl) rfl ?_;intro f h
   refine dl [.agg #[vq]] h kE (fk vq _ _ _ s) rfl rfl ?_;rintro f w1 r ⟨bn,rfl,s⟩ h
   refine ah ?_
   refine hK13 _ _ ?_
   refine wpIn_block ?_
   refine dW (fun d A9=>∃ (Kd:List N3) (kd:List Nat),nds Kd=mg (nds K) (aR K) (L.getD (dx L no) z3).1 d∧A9=[.blk b8 (.cells #[.map (some bm)] 84),.blk bm (d5 (fU K)),.blk b6 (.cells #[vq] 24),.sl vq 42 68 Kd.length (aG Kd),.grp kd (c6 Kd),.blk b4 (.cells (#[bp]) 24),.blk b3 (.cells #[.int .i64 no] 3),.blk b2 (.cells #[vo] 24)]) [.blk b8 (.cells #[.map (some bm)] 84),.blk bm (d5 (fU K)),.blk b6 (.cells #[vq] 24),.sl vq 42 68 K.length (aG K),.grp ks (c6 K),.blk b4 (.cells (#[bp]) 24),.blk b3 (.cells #[.int .i64 no] 3),.blk b2 (.cells #[vo] 24)] [.blk bn (.cells #[vq] 24)] (K.length) (fun _=>false) (fun d=>[Value.pointer (some (a2 vq (d*68)))]) h s rfl kH (List.Perm.refl _) (⟨K,ks,rfl,rfl⟩) (fun _=>rfl) ?_ ?_ ?_ ?_
   ·intro lp w2 GG g0 hg0 s2 hY;exact eB K.length (by omega) vq _ _ (bX.of_own (s.getSl 4 rfl)) lp bn (fun _=>false) GG g0 w w2 s2 hg0 hY
   ·intro lp D9 d9 rc R9 A9 w2 hd9 hq9 hJ9 s
    obtain ⟨Kd,kd,hkn,rfl⟩:=hJ9
    have h:=Sl.round1 (p:=24) (V:=.pointer (some (a2 vq (d9*68)))) h rfl
    have hdl9:=hd9
    have hxd:=Bk hkn hdl9
    have hrn9:RN (K.getD d9 z3).1:=hRSK.rn _ (bu hdl9)
    have hkdl:Kd.length≤16:=by have h9:=congrArg List.length hkn;rw [rT] at h9;simp only [nds,List.length_map] at h9;omega
    refine ae ?_
    refine ac h (ak (h.ev rfl)) rfl ?_;intro f h
    refine ah ?_
    refine bT ?_
    refine ⟨_,s,fun w3 s=>?_⟩
    refine wpIn_block ?_
    refine bH 7 [[],[],[],[1,2],[1,2,3],[1,2,3,4],[]] h (by kernel_rfl) (by kernel_rfl) (by kernel_rfl) ?_
    refine ao h (ag (h.ev rfl)) rfl ?_;intro f h
    refine bM 9 h s bk rfl rfl (rfl) rfl ?_;intro f h
    refine dq 8 h s bw rfl rfl (rfl) rfl ?_;intro f h
    refine cn h lW (fun w9 hE9=>aM (.pointer (some (a2 vo (dx L no*68)))) (eV L vo no w9 (hO.keep (s.ext.trans hE9)) hL) (oP hio)) rfl rfl ?_;intro f h
    refine ao h (bz (h.ev rfl)) rfl ?_;intro f h
    refine bi ((hO.1.keep s.ext).el (dx L no) (by omega) (by decide) (D:=ay (L.getD (dx L no) z3).1.me (L.getD (dx L no) z3).1.pr (L.getD (dx L no) z3).2.1 (L.getD (dx L no) z3).2.2) (df L _ hio)) h aW rfl (ap _ _ _ _) rfl ?_;intro f h
    refine dq 2 h s jY rfl rfl (rfl) rfl ?_;intro f h
    refine ck s fun w1 s=>?_
    replace s:=s.bring 3 rfl
    replace s:=s.bring 6 rfl
    replace s:=s.bring 6 rfl
    replace s:St w (.sl vq 42 68 Kd.length (aG Kd)::(.grp kd (c6 Kd))::.blk bm (d5 (fU K))::.blk lp (.loop (rc .busy))::.blk D9 (.deferred (some []))::.blk b8 (.cells (#[.map (some bm)]) 84)::.blk b6 (.cells (#[vq]) 24)::.blk b4 (.cells (#[bp]) 24)::.blk b3 (.cells (#[.int .i64 no]) 3)::.blk b2 (.cells (#[vo]) 24)::R9) _:=s
    refine dl [.pointer (some (a2 vq (d9*68))),.agg (ay (L.getD (dx L no) z3).1.me (L.getD (dx L no) z3).1.pr (L.getD (dx L no) z3).2.1 (L.getD (dx L no) z3).2.2),.map (some bm)] h CN (uu Kd kd (fU K) (aR K) vq d9 bm _ (L.getD (dx L no) z3).1 (L.getD (dx L no) z3).2.1 (L.getD (dx L no) z3).2.2 _ _ s hxd.1 (by omega) (by rw [hxd.2];exact hrn9) (by rw [hxd.2];have:=hrn9.len;have:=hrn9.fg.1;omega) (sU hRSK.nos) (hO.2 _ (bu hio)).1 (hO.2 _ (bu hio)).2 (by omega)) rfl rfl ?_;rintro f w1 r ⟨du,dv,kn,s⟩ h
    refine ah ?_
    refine bF ?_
    replace s:=s.resl (m:=(Kd.set d9 ((eK (aR K) (Kd.getD d9 z3).1 (L.getD (dx L no) z3).1,du,dv):N3)).length) (ys:=aG (Kd.set d9 ((eK (aR K) (Kd.getD d9 z3).1 (L.getD (dx L no) z3).1,du,dv):N3))) 0 rfl rfl rfl
    replace s:=s.bring 9 rfl
    replace s:=s.bring 9 rfl
    replace s:=s.bring 9 rfl
    replace s:=s.bring 4 rfl
    replace s:=s.bring 4 rfl
    replace s:=s.bring 9 rfl
    replace s:=s.bring 6 rfl
    replace s:=s.bring 9 rfl
    replace s:=s.bring 9 rfl
    replace s:=s.bring 9 rfl
    replace s:St w (.blk lp (.loop (rc .busy))::.blk D9 (.deferred (some []))::.blk b8 (.cells (#[.map (some bm)]) 84)::.blk bm (d5 (fU K))::.blk b6 (.cells (#[vq]) 24)::.sl vq 42 68 (Kd.set d9 ((eK (aR K) (Kd.getD d9 z3).1 (L.getD (dx L no) z3).1,du,dv):N3)).length (aG (Kd.set d9 ((eK (aR K) (Kd.getD d9 z3).1 (L.getD (dx L no) z3).1,du,dv):N3)))::(.grp kn (c6 (Kd.set d9 ((eK (aR K) (Kd.getD d9 z3).1 (L.getD (dx L no) z3).1,du,dv):N3))))::.blk b4 (.cells (#[bp]) 24)::.blk b3 (.cells (#[.int .i64 no]) 3)::.blk b2 (.cells (#[vo]) 24)::R9) _:=s
    refine ⟨rfl,_,⟨(Kd.set d9 ((eK (aR K) (Kd.getD d9 z3).1 (L.getD (dx L no) z3).1,du,dv):N3)),kn,uA hkn hdl9 (by show eK _ _ _=_;rw [hxd.2]),rfl⟩,s.pick _ ?_⟩
    exact List.Sublist.cons_cons _ (List.Sublist.refl _)
   ·intro D9 A9 w2 hJ9 hq9 s
    obtain ⟨Kd,kd,hkn,rfl⟩:=hJ9
    replace h:Sl _ {f with defers:={target:=.collected D9,args:=#[]}::f.defers} _ [{target:=.collected D9,args:=#[]}]:=⟨h.size,by rw [h.defers],h.holds⟩
    refine bF ?_
    refine hK12 _ _ ?_
    refine al fun K14 hK14=>?_
    refine ae ?_
    refine au 4 h s bk rfl rfl (rfl) rfl ?_;intro f h
    refine az 7 h s bk rfl rfl rfl (rfl) (rfl) (cq (aQ (s.getSl 5 rfl))) ?_;intro w1 s
    refine ac h (ak (h.ev rfl)) rfl ?_;intro f h
    refine ah ?_
    refine hK14 _ _ ?_
    refine wpIn_ret ?_
    exact jI 7 0 rfl h s bk rfl rfl rfl rfl (rfl) (fun w9 s9=>oz (gQ r0 l0) (oO (by rw [oM (gQ r0 l0)];exact Ap hnk (by rw [← hgo];exact hkn)) (s9.sel [5,6] rfl (by decide))))
   ·intro D9 d9 A9 w2 hd9 hqd9 hq9 hJ9 s
    cases hqd9
end Go.Proofs.YthggibfkgofncaaGreat
