/- What may lead where, and nonces: package proof and its reference, for all arguments of their types (a nonce of each kind: made, refused). -/
import Derived.Test.YtobfeflheaobiaaGreatDoorVb
set_option linter.unusedVariables false
set_option linter.unusedSimpArgs false
set_option linter.unusedSectionVars false
namespace Go.Proofs.YtobfeflheaobiaaGreatDoor
open Go.RowKit
theorem eC (a:Id) (w:World):Calls Tryz.prog 126 [en a].toArray w (bT w (is (.agg (i0 (dk a))))):=by
 refine br Tryz.func126 rfl Tryz.ntmps126 rfl fun f h s=>qr (aR (aw a) h s rfl rfl rfl fun f w1 b1 h s=>aJ (aG (fun _=>0) 16) h s BF rfl rfl fun f w1 b2 h s=>nt (qr (ag h (ig 16 Tryz.underlying26 dG (h.ev rfl) (h.ev rfl) rfl (by decide)) rfl fun f h=>ag h (AO Tryz.underlying184 (h.ev rfl) (by decide)) rfl fun f h=>aE (aO.subL (aO.of_own s 1 rfl) 0 16 (D:=i0 (dk a)) (oS a)) h tZ rfl (by first|exact jb _|exact ah _ _) rfl fun f h=>ao 0 h s tZ rfl rfl rfl (by first|exact jb _|exact ah _ _) (by first|exact jb _|exact ah _ _) (by first|exact xf _|exact bM _ _) fun w1 s=>nt (wpIn_ret (fI 0 rfl h s tZ rfl rfl (by first|exact jb _|exact ah _ _) (rfl))))))
theorem nL (word:ByteArray) (hwd:word.size≤100) (k:wU) (w:World) (hH:dB w 0 (wF gF 8)) (hK:dB w 1 (wF gv 64)):Calls Tryz.prog 139 [.string word,.agg (i0 k)].toArray w (bT w (is (en (kA word k)))):=by
 have hks:=xK k
 have hcs:(word++nR k).size<2147483648:=by rw [ByteArray.size_append];omega
 refine br Tryz.func139 rfl Tryz.ntmps139 rfl fun f h s=>qr (aR ((i0 k)) h s rfl rfl rfl fun f w1 b3 h s=>aJ (aw 0#256) h s fD rfl rfl fun f w1 b4 h s=>nt (cd ac 1 h rfl fun f h=>ag h (kV Tryz.underlying184 dG (h.ev rfl)) rfl fun f h=>DY 1 h s Tryz.underlying162 Tryz.underlying5 Tryz.underlying9 rfl rfl rfl ?_));intro f h
 refine bF (vs:=[.string word,.string (nR k)]) [.tmp 6,.tmp 8] h s Tryz.underlying101 GO rfl rfl (by simp [Value.cells]) rfl rfl rfl fun f w1 v9 h s=>cn h s yF (yH (word++nR k) [word,nR k] (Jf _ _) hcs (by simp) _ _ (Rd.of_own (s.getSl 0 rfl)) (hH.keep s.ext) (hK.keep s.ext)) rfl rfl fun f w1 h s=>aJ (aw 0#256) h s fD rfl rfl fun f w1 b5 h s=>ao 0 h s aP rfl rfl rfl (by first|exact am _|exact ah _ _) (by first|exact am _|exact ah _ _) (by first|exact c8 _|exact bM _ _) fun w1 s=>?_
 have s:=s.as (B':=[.blk b5 (.cells (aG (aS (sP (word++nR k))) 32) 26),.sl v9 9 1 2 ([Value.string word,Value.string (nR k)].flatMap fun v=>v.cells.toList),.blk b4 (.cells (aw 0#256) 26),.blk b3 (.cells (i0 k) 184)]) ⟨cF (dF _),rfl,rfl,rfl,trivial⟩
 refine nt (qr (ag h (fB (16) Tryz.underlying26 dG (h.ev rfl) (h.ev rfl) (rfl) (by decide)) rfl fun f h=>uN 0 h s Tryz.underlying162 AH rfl rfl (by decide) ?_));intro w1 s
 have s:=s.as (B':=[.blk b5 (.cells (aw (BL (sP (word++nR k)))) 26),.sl v9 9 1 2 ([Value.string word,Value.string (nR k)].flatMap fun v=>v.cells.toList),.blk b4 (.cells (aw 0#256) 26),.blk b3 (.cells (i0 k) 184)]) ⟨cF (ta _),rfl,rfl,rfl,trivial⟩
 refine nt (qr (aj 0 h s aP rfl rfl (by first|exact am _|exact ah _ _) rfl fun f h=>ao 2 h s aP rfl rfl rfl (by first|exact am _|exact ah _ _) (by first|exact am _|exact ah _ _) (by first|exact c8 _|exact bM _ _) fun w1 s=>nt (wpIn_ret (fI 2 rfl h s aP rfl rfl (by first|exact am _|exact ah _ _) (rfl)))))
theorem ru (a:Id) (w:World) (hH:dB w 0 (wF gF 8)) (hK:dB w 1 (wF gv 64)):Calls Tryz.prog 127 [en a].toArray w (bT w (is (en (kA o7 (dk a))))):=by
 refine br Tryz.func127 rfl Tryz.ntmps127 rfl fun f h s=>qr (aR (aw a) h s rfl rfl rfl fun f w1 b1 h s=>aJ (aw 0#256) h s fD rfl rfl fun f w1 b2 h s=>nt (qr (aj 1 h s aP rfl rfl (by first|exact am _|exact ah _ _) rfl fun f h=>cn h s iV (eC _ _) rfl rfl fun f w1 h s=>cn h s zM (nL o7 (by decide) _ _ (hH.keep s.ext) (hK.keep s.ext)) rfl rfl fun f w1 h s=>ao 0 h s aP rfl rfl rfl (by first|exact am _|exact ah _ _) (by first|exact am _|exact ah _ _) (by first|exact c8 _|exact bM _ _) fun w1 s=>nt (wpIn_ret (fI 0 rfl h s aP rfl rfl (by first|exact am _|exact ah _ _) (rfl))))))
theorem xd (a:Id) (w:World) (hH:dB w 0 (wF gF 8)) (hK:dB w 1 (wF gv 64)):Calls Tryz.prog 128 [en a].toArray w (bT w (is (en (kA pu (dk a))))):=by
 refine br Tryz.func128 rfl Tryz.ntmps128 rfl fun f h s=>qr (aR (aw a) h s rfl rfl rfl fun f w1 b1 h s=>aJ (aw 0#256) h s fD rfl rfl fun f w1 b2 h s=>nt (qr (aj 1 h s aP rfl rfl (by first|exact am _|exact ah _ _) rfl fun f h=>cn h s iV (eC _ _) rfl rfl fun f w1 h s=>cn h s zM (nL pu (by decide) _ _ (hH.keep s.ext) (hK.keep s.ext)) rfl rfl fun f w1 h s=>ao 0 h s aP rfl rfl rfl (by first|exact am _|exact ah _ _) (by first|exact am _|exact ah _ _) (by first|exact c8 _|exact bM _ _) fun w1 s=>nt (wpIn_ret (fI 0 rfl h s aP rfl rfl (by first|exact am _|exact ah _ _) (rfl))))))
theorem wN (a b:Id) (w:World) (hH:dB w 0 (wF gF 8)) (hK:dB w 1 (wF gv 64)):Calls Tryz.prog 113 [en a,en b].toArray w (bT w (is (.bool (iC a b)))):=by
 refine br Tryz.func113 rfl Tryz.ntmps113 rfl fun f h s=>qr (aR (aw a) h s rfl rfl rfl fun f w1 b2 h s=>aR (aw b) h s rfl rfl rfl fun f w1 b3 h s=>e9 ac 1 h rfl fun f h=>al ?_)
 cases hx:(decide (dk b=dk (kA o7 (dk a))):Bool)
 ·refine d8 15 h (by kernel_rfl) (aV 0 h s aP rfl rfl (by first|exact am _|exact ah _ _) rfl fun f h=>aX h iV (fun w9 hE9=>eC _ w9) rfl rfl fun f h=>aV 1 h s aP rfl rfl (by first|exact am _|exact ah _ _) rfl fun f h=>aX h zu (fun w9 hE9=>ru _ w9 (hH.keep (s.ext.trans hE9)) (hK.keep (s.ext.trans hE9))) rfl rfl fun f h=>aX h iV (fun w9 hE9=>eC _ w9) rfl rfl fun f h=>ax h (bm (.bool false) (fj (JD _ _) (by kernel_rfl) (by decide) (h.ev rfl) (h.ev rfl) (decide (dk b=dk (kA o7 (dk a)))) (J5 _ _)) (congrArg Value.bool hx)) rfl fun f h=>ay ac 1 h rfl fun f h=>bn h rfl (aV 1 h s aP rfl rfl (by first|exact am _|exact ah _ _) rfl fun f h=>bn h rfl (aX h iV (fun w9 hE9=>eC _ w9) rfl rfl fun f h=>bn h rfl (aV 0 h s aP rfl rfl (by first|exact am _|exact ah _ _) rfl fun f h=>bn h rfl (aX h FH (fun w9 hE9=>xd _ w9 (hH.keep (s.ext.trans hE9)) (hK.keep (s.ext.trans hE9))) rfl rfl fun f h=>bn h rfl (aX h iV (fun w9 hE9=>eC _ w9) rfl rfl fun f h=>bn h rfl (ax h (fj (JD _ _) (by kernel_rfl) (by decide) (h.ev rfl) (h.ev rfl) (decide (dk a=dk (kA pu (dk b)))) (J5 _ _)) rfl fun f h=>ay ac 2 h rfl fun f h=>cc s fun w1 s=>nt (wpIn_ret (aI rfl h s rfl (by show _=_;unfold iC;rw [hx];rfl))))))))))
 ·refine d8 15 h (by kernel_rfl) (aV 0 h s aP rfl rfl (by first|exact am _|exact ah _ _) rfl fun f h=>aX h iV (fun w9 hE9=>eC _ w9) rfl rfl fun f h=>aV 1 h s aP rfl rfl (by first|exact am _|exact ah _ _) rfl fun f h=>aX h zu (fun w9 hE9=>ru _ w9 (hH.keep (s.ext.trans hE9)) (hK.keep (s.ext.trans hE9))) rfl rfl fun f h=>aX h iV (fun w9 hE9=>eC _ w9) rfl rfl fun f h=>ax h (bm (.bool true) (fj (JD _ _) (by kernel_rfl) (by decide) (h.ev rfl) (h.ev rfl) (decide (dk b=dk (kA o7 (dk a)))) (J5 _ _)) (congrArg Value.bool hx)) rfl fun f h=>ay ac 9 h rfl fun f h=>cc s fun w1 s=>nt (wpIn_ret (aI rfl h s rfl (by show _=_;unfold iC;rw [hx];rfl))))
theorem zi (sx:ByteArray) (hsx:sx.size≤64) (id:Id) (n:Nat) (hn:n<16) (w:World) (hH:dB w 0 (wF gF 8)) (hK:dB w 1 (wF gv 64)):Calls Tryz.prog 110 [.string sx,en id,.int .i64 (n:Int)].toArray w (bT w (is (.tuple #[.string (zk sx id n),.int .i64 (0)]))):=by
 have hnt:=rh sx id n
 refine br Tryz.func110 rfl Tryz.ntmps110 rfl fun f h s=>qr (aR (aw id) h s rfl rfl rfl fun f w1 b4 h s=>e9 ac 2 h rfl fun f h=>al (cd ac 1 h rfl fun f h=>my ac h rfl (decide_eq_false (by omega)) fun f h=>aq ac 2 h rfl fun f h=>ca h rfl (my ac h rfl (decide_eq_false (by omega)) fun f h=>e9 ac 1 h rfl fun f h=>jw h rfl (al (cd ac 1 h rfl fun f h=>ag h (cA Tryz.underlying9 (h.ev rfl)) rfl fun f h=>my ac h rfl (decide_eq_false (by omega)) fun f h=>tY h rfl (al ?_))))))
 have hbs:=s.ext.le
 refine' Gp 10 [0,1,3,4] [9] [[],[],[1],[],[3],[3,4],[3,4,5],[0,1,2,3,4,5,6],[0,1,2,3,4,5,6,7],[],[0,1,2,3,4,5,6,7,8,9]] (is _::is _::is _::is _::is _::(fun v w9=>bK w9 v 1 1 ([n].map fun (m:Nat)=>Value.int .u8 (m:Int)))::is _::(fun v w9=>bK w9 v 1 4 ([Value.string jP,Value.string sx,Value.string (nz id),Value.string (io (fun _=>n) 1)]))::is _::(t7 (aw 0#256) 26)::is undef::[]) (fun _=>True) h s (by kernel_rfl) (by kernel_rfl) (by kernel_rfl) (by kernel_rfl) rfl (fun _ _ h _=>h) (trivial) ⟨⟨_,rfl⟩,⟨_,rfl⟩,⟨_,rfl⟩,⟨_,rfl⟩,trivial⟩ ⟨fi _,fi _,fi _,fi _,fi _,bK.mono,fi _,bK.mono,fi _,t7.mono _ _,fi _,trivial⟩ (And.intro ?_ (And.intro ?_ (And.intro ?_ (And.intro ?_ (And.intro ?_ (And.intro ?_ (And.intro ?_ (And.intro ?_ (And.intro ?_ (And.intro ?_ (And.intro ?_ (trivial)))))))))))) ?_
 rotate_left 7
 ·refine pQ 18 rfl (by decide) ?_
  intro f9 w2 hE hs hl
  have e0:f9.tmps.getD 0 undef=_:=tq hl 0 (by kernel_rfl) (by kernel_rfl) (h.holds 0 _ rfl)
  have h:=bI [(0,_)] hs rfl (holds_lk ⟨e0,trivial⟩)
  refine aq ac 1 h rfl fun f h=>aB ?_
  have e9:=h.holds 18 _ rfl
  refine ⟨?_,rfl⟩
  refine e9.trans ?_
  exact rfl
 ·refine pQ 19 rfl (by decide) ?_
  intro f9 w2 hE hs hl
  have e4:f9.tmps.getD 4 undef=_:=tq hl 4 (by kernel_rfl) (by kernel_rfl) (h.holds 4 _ rfl)
  have h:=bI [(4,_)] hs rfl (holds_lk ⟨e4,trivial⟩)
  refine ag h (kV Tryz.underlying26 dG (h.ev rfl)) rfl fun f h=>aB ?_
  have e9:=h.holds 19 _ rfl
  refine ⟨?_,rfl⟩
  refine e9.trans ?_
  exact rfl
 ·refine lK 20 rfl (by decide) (by decide) ?_
  intro f9 w2 hE hs hd9 hl
  have e19:f9.tmps.getD 19 undef=_:=iM hl 19 1 (by kernel_rfl) (by kernel_rfl)
  have h:=bI [(19,_)] hs hd9 (holds_lk ⟨e19,trivial⟩)
  have s:=s.more hE
  have z:=St.start w2
  refine DY 0 h s Tryz.underlying162 Tryz.underlying5 Tryz.underlying9 rfl rfl rfl ?_;intro f h
  refine aB ?_
  have e9:=h.holds 20 _ rfl
  refine ⟨?_,Ext.refl _,fun h9=>absurd h9 (by decide)⟩
  refine e9.trans ?_
  exact rfl
 ·refine pQ 21 rfl (by decide) ?_
  intro f9 w2 hE hs hl
  have e2:f9.tmps.getD 2 undef=_:=tq hl 2 (by kernel_rfl) (by kernel_rfl) (h.holds 2 _ rfl)
  have h:=bI [(2,_)] hs rfl (holds_lk ⟨e2,trivial⟩)
  refine aq ac 1 h rfl fun f h=>aB ?_
  have e9:=h.holds 21 _ rfl
  refine ⟨?_,rfl⟩
  refine e9.trans ?_
  exact rfl
 ·refine pQ 22 rfl (by decide) ?_
  intro f9 w2 hE hs hl
  have e21:f9.tmps.getD 21 undef=_:=iM hl 21 3 (by kernel_rfl) (by kernel_rfl)
  have h:=bI [(21,_)] hs rfl (holds_lk ⟨e21,trivial⟩)
  refine ag h (bm (.int .u8 (n:Int)) (gX Tryz.underlying3 Tryz.underlying5 (h.ev rfl)) (congrArg (Value.int .u8) (by omega))) rfl fun f h=>aB ?_
  have e9:=h.holds 22 _ rfl
  refine ⟨?_,rfl⟩
  refine e9.trans ?_
  exact rfl
 ·refine lK 23 rfl (by decide) (by decide) ?_
  intro f9 w2 hE hs hd9 hl
  have e22:f9.tmps.getD 22 undef=_:=iM hl 22 4 (by kernel_rfl) (by kernel_rfl)
  have h:=bI [(22,_)] hs hd9 (holds_lk ⟨e22,trivial⟩)
  have s:=s.more hE
  have z:=St.start w2
  refine bF (vs:=[.int .u8 (n:Int)]) [.tmp 22] h z Tryz.underlying162 Jk rfl rfl (by simp [Value.cells]) rfl rfl rfl fun f w1 v9 h z=>aB ?_
  exact Eo (h.holds 23 _ rfl) z _ (rfl)
 ·refine lK 24 rfl (by decide) (by decide) ?_
  intro f9 w2 hE hs hd9 hl
  obtain ⟨u23,hu23⟩:∃ v,f9.tmps.getD 23 undef=v:=⟨_,rfl⟩
  have e23:(fun v w9=>bK w9 v 1 1 ([n].map fun (m:Nat)=>Value.int .u8 (m:Int))) u23 w2:=by rw [← hu23];exact iM hl 23 5 (by kernel_rfl) (by kernel_rfl)
  have h:=bI [(23,u23)] hs hd9 (holds_lk ⟨hu23,trivial⟩)
  have s:=s.more hE
  have z:=St.start w2
  refine x4 (ns:=[n]) (e23) h Tryz.underlying162 Tryz.underlying5 Tryz.underlying9 rfl rfl ?_;intro f h
  refine aB ?_
  have e9:=h.holds 24 _ rfl
  refine ⟨?_,Ext.refl _,fun h9=>absurd h9 (by decide)⟩
  refine e9.trans ?_
  exact rfl
 ·refine lK 25 rfl (by decide) (by decide) ?_
  intro f9 w2 hE hs hd9 hl
  have e18:f9.tmps.getD 18 undef=_:=iM hl 18 0 (by kernel_rfl) (by kernel_rfl)
  have e20:f9.tmps.getD 20 undef=_:=iM hl 20 2 (by kernel_rfl) (by kernel_rfl)
  have e24:f9.tmps.getD 24 undef=_:=iM hl 24 6 (by kernel_rfl) (by kernel_rfl)
  have h:=bI [(18,_),(20,_),(24,_)] hs hd9 (holds_lk ⟨e18,e20,e24,trivial⟩)
  have s:=s.more hE
  have z:=St.start w2
  refine bF (vs:=[.string jP,.string sx,.string (nz id),.string (io (fun _=>n) 1)]) [.const (.string ⟨#[110,111,110,99,101]⟩),.tmp 18,.tmp 20,.tmp 24] h z Tryz.underlying101 GO rfl rfl (by simp [Value.cells]) rfl rfl rfl fun f w1 v9 h z=>aB ?_
  exact Eo (h.holds 25 _ rfl) z _ (rfl)
 ·refine lK 26 rfl (by decide) (by decide) ?_
  intro f9 w2 hE hs hd9 hl
  obtain ⟨u25,hu25⟩:∃ v,f9.tmps.getD 25 undef=v:=⟨_,rfl⟩
  have e25:(fun v w9=>bK w9 v 1 4 ([Value.string jP,Value.string sx,Value.string (nz id),Value.string (io (fun _=>n) 1)])) u25 w2:=by rw [← hu25];exact iM hl 25 7 (by kernel_rfl) (by kernel_rfl)
  have h:=bI [(25,u25)] hs hd9 (holds_lk ⟨hu25,trivial⟩)
  have s:=s.more hE
  have z:=St.start w2
  refine bk h s yF (yH (m7 sx id n) [jP,sx,nz id,io (fun _=>n) 1] (JY _ _ _ _) (by omega) (by simp) _ _ (bK.toRd e25) (hH.keep s.ext) (hK.keep s.ext)) rfl rfl ?_;intro f w1 v9 hT hE h s;obtain rfl:=hT
  refine aB ?_
  have e9:=h.holds 26 _ rfl
  refine ⟨?_,hE,fun h9=>absurd h9 (by decide)⟩
  refine e9.trans ?_
  exact rfl
 ·refine lK 8 rfl (by decide) (by decide) ?_
  intro f9 w2 hE hs hd9 hl
  have h:=bI [] hs hd9 (holds_lk trivial)
  have s:=s.more hE
  have z:=St.start w2
  refine aJ (aw 0#256) h z fD rfl rfl fun f w1 b9 h z=>aB ?_
  exact Eu (h.holds 8 _ rfl) z
 ·exact Fd (by decide) (by decide)
 ·intro f9 w2 hE hs hd9 hWp hT hR hFr hDj
  obtain ⟨u23,hu23⟩:∃ v,f9.tmps.getD 23 undef=v:=⟨_,rfl⟩
  have e23:(fun v w9=>bK w9 v 1 1 ([n].map fun (m:Nat)=>Value.int .u8 (m:Int))) u23 w2:=by rw [← hu23];exact hT 5 23 (by decide) rfl
  obtain ⟨u25,hu25⟩:∃ v,f9.tmps.getD 25 undef=v:=⟨_,rfl⟩
  have e25:(fun v w9=>bK w9 v 1 4 ([Value.string jP,Value.string sx,Value.string (nz id),Value.string (io (fun _=>n) 1)])) u25 w2:=by rw [← hu25];exact hT 7 25 (by decide) rfl
  obtain ⟨u8,hu8⟩:∃ v,f9.tmps.getD 8 undef=v:=⟨_,rfl⟩
  have e8:(t7 (aw 0#256) 26) u8 w2:=by rw [← hu8];exact hT 9 8 (by decide) rfl
  have k8:=hFr 9 8 (by decide) rfl;rw [hu8] at k8
  replace h:=sl_new (ops:=_) [(18,_),(19,_),(20,_),(21,_),(22,_),(23,u23),(24,_),(25,u25),(26,_),(8,u8)] h hs hd9 hR ⟨hT 0 18 (by decide) rfl,hT 1 19 (by decide) rfl,hT 2 20 (by decide) rfl,hT 3 21 (by decide) rfl,hT 4 22 (by decide) rfl,hu23,hT 6 24 (by decide) rfl,hu25,hT 8 26 (by decide) rfl,hu8,trivial⟩ (by kernel_rfl)
  obtain ⟨b8,hb8,s⟩:=AF s hE e8 k8;subst hb8
  clear hT hR hFr hDj
  refine jm.of ?_
  refine ao 0 h s aP rfl rfl rfl (by first|exact am _|exact ah _ _) (by first|exact am _|exact ah _ _) (by first|exact c8 _|exact bM _ _) fun w1 s=>nt (qr (ag h (ig 16 Tryz.underlying26 dG (h.ev rfl) (h.ev rfl) rfl (by decide)) rfl fun f h=>Af (aO.subL (o:=0) (aO.of_own s 0 rfl) 0 16 (D:=i0 (dk (sP (m7 sx id n)))) (oS _)) h Tryz.underlying162 Tryz.underlying5 Tryz.underlying9 rfl rfl ?_));intro f h
  refine e9 ac 2 h rfl fun f h=>wpIn_ret (cg rfl h s rfl rfl (rfl))
end Go.Proofs.YtobfeflheaobiaaGreatDoor
