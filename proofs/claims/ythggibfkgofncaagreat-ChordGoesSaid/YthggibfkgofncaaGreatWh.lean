/- What Fail of package chord answers. -/
import Derived.Test.YthggibfkgofncaaGreatWc
set_option linter.unusedVariables false
set_option linter.unusedSimpArgs false
set_option linter.unusedSectionVars false
namespace Go.Proofs.YthggibfkgofncaaGreat
open Go.RowKit
theorem pk (l:List N3) (vh:Value) (g9:Nat) (caps:List Value) (p:N3→Bool) (w:World) (hR:bX w vh 68 l.length (aG l)) (hln:l.length≤1000) (hg:Fnc Tryz.prog g9) (hp:∀ w9,Ext w w9→∀ x∈l,Calls Tryz.prog g9 (.agg (ay x.1.me x.1.pr x.2.1 x.2.2)::caps).toArray w9 (cU w9 (is (.bool (p x))))):Calls Tryz.prog 95 [vh,.func (.func g9) #[] caps.toArray].toArray w (cU w (fun v _=>∃ r:Int,v=.int .i64 r∧((r = -1∧∀ x∈l,p x=false)∨∃ k:Nat,k<l.length∧r=(k:Int)∧p (l.getD k z3)=true∧∀ i,i<k→p (l.getD i z3)=false))):=by
 refine bq Tryz.func95 rfl Tryz.ntmps95 rfl [(0,vh),(1,.func (.func g9) #[] caps.toArray)] (by simp) fun f h=>?_
 have s:=St.start w
 refine al fun K1 hK1=>?_
 refine ae ?_
 refine ac h (ak (h.ev rfl)) rfl ?_;intro f h
 refine ah ?_
 refine hK1 _ _ ?_
 refine al fun K2 hK2=>?_
 refine al fun K3 hK3=>?_
 refine ae ?_
 refine ac h (ag (h.ev rfl)) rfl ?_;intro f h
 refine ac h (a8 (hR.keep s.ext) Tryz.underlying22 (h.ev rfl)) rfl ?_;intro f h
 refine ac h (ag (h.ev rfl)) rfl ?_;intro f h
 refine ah ?_
 refine hK3 _ _ ?_
 refine wpIn_block ?_
 refine wpIn_loop_ghost (fun nn aa ww=>∃ k:Nat,Sl 19 aa [(0,vh),(1,.func (.func g9) #[] caps.toArray),(6,vh),(7,.int .i64 (l.length:Int)),(8,.int .i64 (k:Int))]∧St w [] ww∧nn=l.length - k∧k≤l.length∧∀ i,i<k→p (l.getD i z3)=false) (l.length - (0)) ⟨0,h.only ⟨rfl,rfl,rfl,rfl,aO rfl (by omega),trivial⟩,s.as trivial,rfl,Nat.zero_le _,fun i hi=>absurd hi (Nat.not_lt_zero _)⟩ ?_
 rintro _ f w1 ⟨k,h,s,hnn,hp0,hp1⟩
 refine al fun K4 hK4=>?_
 refine ae ?_
 refine ac h (bS (h.ev rfl) (h.ev rfl)) rfl ?_;intro f h
 refine ah ?_
 refine hK4 _ _ ?_
 refine al fun K5 hK5=>?_
 refine bK h rfl (fun hc=>?_) (fun hc=>?_)
 ·replace hc:=of_decide_eq_true hc
  refine wpIn_skip ?_
  refine hK5 _ _ ?_
  refine al fun K6 hK6=>?_
  refine wpIn_block ?_
  refine al fun K7 hK7=>?_
  refine ae ?_
  refine ac h (ag (h.ev rfl)) rfl ?_;intro f h
  refine ac h (ak (h.ev rfl)) rfl ?_;intro f h
  refine ah ?_
  refine hK7 _ _ ?_
  refine al fun K8 hK8=>?_
  refine ae ?_
  have hkl:k<l.length:=by omega
  refine ac h (ag (h.ev rfl)) rfl ?_;intro f h
  refine ac h (ag (h.ev rfl)) rfl ?_;intro f h
  refine ac h (ag (h.ev rfl)) rfl ?_;intro f h
  refine ac h (cc (hR.keep s.ext) (k) Tryz.underlying22 eA (h.ev rfl) (h.ev rfl) (by omega) (by omega)) rfl ?_;intro f h
  refine ax ((hR.keep s.ext).el (k) (by omega) (by decide) (D:=ay (l.getD k z3).1.me (l.getD k z3).1.pr (l.getD k z3).2.1 (l.getD k z3).2.2) (df l k hkl)) h aW rfl (ap _ _ _ _) rfl ?_;intro f h
  refine dM [.agg (ay (l.getD k z3).1.me (l.getD k z3).1.pr (l.getD k z3).2.1 (l.getD k z3).2.2)] (caps:=caps) h s hg rfl (hp _ s.ext _ (bu hkl)) rfl rfl ?_;intro f w1 v9 hT hE h s;obtain rfl:=hT
  refine ah ?_
  refine hK8 _ _ ?_
  refine bK h rfl (fun hc=>?_) (fun hc=>?_)
  ·refine al fun K9 hK9=>?_
   refine ae ?_
   refine ac h (ag (h.ev rfl)) rfl ?_;intro f h
   refine ac h (ak (h.ev rfl)) rfl ?_;intro f h
   refine ah ?_
   refine hK9 _ _ ?_
   refine wpIn_ret ?_
   refine bQ ?_
   refine aY ?_
   refine aY ?_
   refine bQ ?_
   refine aY ?_
   exact bo rfl h s rfl (⟨_,rfl,.inr ⟨k,hkl,rfl,hc,hp1⟩⟩)
  ·refine wpIn_skip ?_
   refine bF ?_
   refine hK6 _ _ ?_
   refine ae ?_
   refine ac h (ce (h.ev rfl) (h.ev rfl) (by omega)) rfl ?_;intro f h
   refine ac h (ag (h.ev rfl)) rfl ?_;intro f h
   refine ah ?_
   refine bT ?_
   exact ⟨_,by omega,⟨k+1,h.only ⟨rfl,rfl,rfl,rfl,aO rfl (by omega),trivial⟩,St.as s trivial,rfl,by omega,de (q:=fun j=>p (l.getD j z3)) hp1 hc⟩⟩
 ·replace hc:=of_decide_eq_false hc
  refine wpIn_exit ?_
  refine bJ ?_
  refine bJ ?_
  refine cC ?_
  refine hK2 _ _ ?_
  refine al fun K10 hK10=>?_
  refine ae ?_
  refine ac h (ak (h.ev rfl)) rfl ?_;intro f h
  refine ah ?_
  refine hK10 _ _ ?_
  refine wpIn_ret ?_
  exact bo rfl h s rfl (⟨_,rfl,.inl ⟨rfl,fun x hx=>(by obtain ⟨i,hi,rfl⟩:=mO hx;exact hp1 i (by omega))⟩⟩)
set_option maxHeartbeats 1000000 in
theorem oH (l:List N3) (hln:l.length≤1000) (vh:Value) (g9:Nat) (caps:List Value) (p:N3→Bool) (B9:List Own) (w0 w:World) (s:St w0 (.sl vh 42 68 (l).length (aG (l))::B9) w) (ho:∀ x∈l,x.2.1.oneCell'=true∧x.2.2.oneCell'=true) (hg:Fnc Tryz.prog g9) (hp:∀ (A9:List Own) (w9:World),St w0 (A9++B9) w9→∀ x∈l,Calls Tryz.prog g9 (.agg (ay x.1.me x.1.pr x.2.1 x.2.2)::caps).toArray w9 (cU w9 (is (.bool (p x))))):Calls Tryz.prog 62 [vh,.func (.func g9) #[] caps.toArray].toArray w (fun e w9=>∃ v9,e=.returned v9∧St w0 (.sl v9 42 68 ((l.filter fun x => !p x)).length (aG ((l.filter fun x => !p x)))::B9) w9):=by
 refine eb Tryz.func62 rfl Tryz.ntmps62 rfl [(0,vh),(1,.func (.func g9) #[] caps.toArray)] (by simp) fun f h=>?_
 refine al fun K1 hK1=>?_
 refine ae ?_
 refine ac h (ak (h.ev rfl)) rfl ?_;intro f h
 refine ah ?_
 refine hK1 _ _ ?_
 refine al fun K2 hK2=>?_
 refine ae ?_
 refine ac h (ag (h.ev rfl)) rfl ?_;intro f h
 refine ac h (ag (h.ev rfl)) rfl ?_;intro f h
 refine aI h s B2 (pk l vh g9 caps p _ (bX.of_own (s.getSl 0 rfl)) hln hg (fun w9 h9 x hx=>hp [_] w9 (s.more h9) x hx)) rfl rfl ?_;rintro f w1 v9 ⟨r9,rfl,hr⟩ hE h s
 refine ac h (ak (h.ev rfl)) rfl ?_;intro f h
 refine ah ?_
 refine hK2 _ _ ?_
 refine al fun K3 hK3=>?_
 refine al fun K4 hK4=>?_
 refine ae ?_
 refine ac h (ag (h.ev rfl)) rfl ?_;intro f h
 refine ac h (bU (h.ev rfl) (h.ev rfl)) rfl ?_;intro f h
 refine ah ?_
 refine hK4 _ _ ?_
 refine bK h rfl (fun hc=>?_) (fun hc=>?_)
 ·have hc:=of_decide_eq_true hc
  have hn:=(hr.resolve_right (fun ⟨k9,_,h9,_⟩=>by omega)).2
  refine al fun K5 hK5=>?_
  refine ae ?_
  refine ac h (ag (h.ev rfl)) rfl ?_;intro f h
  refine ac h (ak (h.ev rfl)) rfl ?_;intro f h
  refine ah ?_
  refine hK5 _ _ ?_
  refine wpIn_ret ?_
  refine aY ?_
  exact gv rfl h rfl (⟨_,rfl,uF (qH hn).symm s⟩)
 ·obtain ⟨k9,hk9,rfl,hpk,hpf⟩:=hr.resolve_left (fun h9=>of_decide_eq_false hc h9.1)
  have hqk:(!p (l.getD k9 z3))=false:=by rw [hpk];rfl
  obtain ⟨hst1,hst2⟩:=ql (q:=(fun x => !p x)) hk9 (fun i hi=>by rw [hpf i hi];rfl) hqk
  refine wpIn_skip ?_
  refine hK3 _ _ ?_
  refine al fun K6 hK6=>?_
  refine al fun K7 hK7=>?_
  refine ae ?_
  refine ac h (ag (h.ev rfl)) rfl ?_;intro f h
  refine ac h (ce (h.ev rfl) (h.ev rfl) (by omega)) rfl ?_;intro f h
  refine ac h (ak (h.ev rfl)) rfl ?_;intro f h
  refine ah ?_
  refine hK7 _ _ ?_
  refine wpIn_block ?_
  refine wpIn_loop_ghost (fun nn aa ww=>∃ j:Nat,Sl 42 aa [(0,vh),(1,.func (.func g9) #[] caps.toArray),(8,vh),(5,.int .i64 (((eD (fun x => !p x) l j):Nat):Int)),(6,.int .i64 (j:Int))]∧St w0 (.sl vh 42 68 (l).length (aG (gC (fun x => !p x) l j))::B9) ww∧nn=l.length - j∧k9+1≤j∧j≤l.length) (l.length - (k9+1)) ⟨k9+1,h.only ⟨rfl,rfl,rfl,aO rfl (by omega),aO rfl (by omega),trivial⟩,s.as ⟨gX rfl (by rw [hst1]),eU _⟩,rfl,by omega,by omega⟩ ?_
  rintro _ f w1 ⟨j,h,s,hnn,hp0,hp1⟩
  refine al fun K8 hK8=>?_
  refine al fun K9 hK9=>?_
  refine ae ?_
  refine ac h (ag (h.ev rfl)) rfl ?_;intro f h
  refine ac h (ag (h.ev rfl)) rfl ?_;intro f h
  refine cT 0 h s Tryz.underlying22 rfl rfl rfl ?_;intro f h
  refine ac h (bS (h.ev rfl) (h.ev rfl)) rfl ?_;intro f h
  refine ah ?_
  refine hK9 _ _ ?_
  refine bK h rfl (fun hc=>?_) (fun hc=>?_)
  ·replace hc:=of_decide_eq_true hc
   refine wpIn_skip ?_
   refine hK8 _ _ ?_
   refine al fun K10 hK10=>?_
   refine wpIn_block ?_
   refine al fun K11 hK11=>?_
   refine ae ?_
   have hjl:j<l.length:=by omega
   have hix:=oA (fun x => !p x) l j
   refine ac h (ag (h.ev rfl)) rfl ?_;intro f h
   refine ac h (ag (h.ev rfl)) rfl ?_;intro f h
   refine ac h (cc (bX.of_own (s.getSl 0 rfl)) (j) Tryz.underlying22 eA (h.ev rfl) (h.ev rfl) (rfl) (by omega)) rfl ?_;intro f h
   refine ax ((bX.of_own (s.getSl 0 rfl)).el (j) (by omega) (by decide) (D:=ay (l.getD j z3).1.me (l.getD j z3).1.pr (l.getD j z3).2.1 (l.getD j z3).2.2) ((df (gC (fun x => !p x) l j) j (by rw [pZ];omega)).trans (by rw [vy hjl]))) h aW rfl (ap _ _ _ _) rfl ?_;intro f h
   refine bf (ay aZ aZ bp bp) h s dL rfl rfl ?_;intro f w1 b7 h s
   refine az 0 h s aW rfl rfl rfl (ap _ _ _ _) (ap _ _ _ _) (a7 (ho _ (bu hjl)).1 (ho _ (bu hjl)).2) ?_;intro w1 s
   refine ah ?_
   refine hK11 _ _ ?_
   refine al fun K12 hK12=>?_
   cases hq:(p (l.getD j z3):Bool)
   ·skip
    refine ae ?_
    refine ac h (ag (h.ev rfl)) rfl ?_;intro f h
    refine au 0 h s aW rfl rfl (ap _ _ _ _) rfl ?_;intro f h
    refine dM [.agg (ay (l.getD j z3).1.me (l.getD j z3).1.pr (l.getD j z3).2.1 (l.getD j z3).2.2)] (caps:=caps) h s hg rfl (hp [_,_] _ s _ (bu hjl)) rfl rfl ?_;intro f w1 v28 hT hE h s;obtain rfl:=hT
    refine ac h (aw (.bool true) (bB (h.ev rfl)) (by rw [hq];rfl)) rfl ?_;intro f h
    refine ah ?_
    refine hK12 _ _ ?_
    refine wpIn_cond_true (h.ev rfl) ?_
    refine al fun K13 hK13=>?_
    refine ae ?_
    refine ac h (ag (h.ev rfl)) rfl ?_;intro f h
    refine ac h (ag (h.ev rfl)) rfl ?_;intro f h
    refine au 0 h s aW rfl rfl (ap _ _ _ _) rfl ?_;intro f h
    refine ac h (cc (bX.of_own (s.getSl 1 rfl)) ((eD (fun x => !p x) l j)) Tryz.underlying22 eA (h.ev rfl) (h.ev rfl) (rfl) (by omega)) rfl ?_;intro f h
    refine eX 1 ((eD (fun x => !p x) l j)) h s aW rfl rfl rfl (ap _ _ _ _) (by omega) (a7 (ho _ (bu hjl)).1 (ho _ (bu hjl)).2) ((qq (K:=(gC (fun x => !p x) l j)) (by rw [pZ];omega) (l.getD j z3)).trans (congrArg aG (pT (q:=(fun x => !p x)) hjl (by rw [hq];rfl)).1.symm)) ?_;intro w1 s
    refine ah ?_
    refine hK13 _ _ ?_
    refine ae ?_
    refine ac h (ag (h.ev rfl)) rfl ?_;intro f h
    refine ac h (ce (h.ev rfl) (h.ev rfl) (by omega)) rfl ?_;intro f h
    refine ac h (ak (h.ev rfl)) rfl ?_;intro f h
    refine ah ?_
    refine bF ?_
    refine hK10 _ _ ?_
    refine ae ?_
    refine ac h (ag (h.ev rfl)) rfl ?_;intro f h
    refine ac h (ce (h.ev rfl) (h.ev rfl) (by omega)) rfl ?_;intro f h
    refine ac h (ak (h.ev rfl)) rfl ?_;intro f h
    refine ah ?_
    refine bT ?_
    have h8:=(pT (q:=(fun x => !p x)) hjl (by rw [hq];rfl)).2
    exact ⟨_,by omega,⟨j+1,h.only ⟨rfl,rfl,rfl,aO rfl (by omega),aO rfl (by omega),trivial⟩,St.as (s.pick _ (List.sublist_append_right [_] _)) ⟨rfl,eU _⟩,rfl,by omega,by omega⟩⟩
   ·skip
    refine ae ?_
    refine ac h (ag (h.ev rfl)) rfl ?_;intro f h
    refine au 0 h s aW rfl rfl (ap _ _ _ _) rfl ?_;intro f h
    refine dM [.agg (ay (l.getD j z3).1.me (l.getD j z3).1.pr (l.getD j z3).2.1 (l.getD j z3).2.2)] (caps:=caps) h s hg rfl (hp [_,_] _ s _ (bu hjl)) rfl rfl ?_;intro f w1 v28 hT hE h s;obtain rfl:=hT
    refine ac h (aw (.bool false) (bB (h.ev rfl)) (by rw [hq];rfl)) rfl ?_;intro f h
    refine ah ?_
    refine hK12 _ _ ?_
    refine wpIn_cond_false (h.ev rfl) ?_
    refine wpIn_skip ?_
    refine bF ?_
    refine hK10 _ _ ?_
    refine ae ?_
    refine ac h (ag (h.ev rfl)) rfl ?_;intro f h
    refine ac h (ce (h.ev rfl) (h.ev rfl) (by omega)) rfl ?_;intro f h
    refine ac h (ak (h.ev rfl)) rfl ?_;intro f h
    refine ah ?_
    refine bT ?_
    obtain ⟨h7,h8⟩:=rx (q:=(fun x => !p x)) hjl (by rw [hq];rfl)
    exact ⟨_,by omega,⟨j+1,h.only ⟨rfl,rfl,rfl,aO rfl (by omega),aO rfl (by omega),trivial⟩,St.as (s.pick _ (List.sublist_append_right [_] _)) ⟨gX rfl (by rw [h7]),eU _⟩,rfl,by omega,by omega⟩⟩
  ·replace hc:=of_decide_eq_false hc
   refine wpIn_exit ?_
   refine bJ ?_
   refine bJ ?_
   refine cC ?_
   refine hK6 _ _ ?_
   refine al fun K14 hK14=>?_
   refine ae ?_
   obtain rfl:j=l.length:=by omega
   have hlt:=xY (q:=(fun x => !p x)) hk9 hqk
   have hI:=wo (fun x => !p x) l
   obtain ⟨b9,cap,cur,fz,hvh,hfz,hnc,hcm,hcs,hct,s2⟩:=s.open_sl (by omega)
   clear s
   subst hvh
   have s:=s2
   have hz68:(Value.agg (ay aZ aZ bp bp)).cells.size=68:=ap _ _ _ _
   refine ac h (ag (h.ev rfl)) rfl ?_;intro f h
   refine ac h (ag (h.ev rfl)) rfl ?_;intro f h
   refine ac h (aw (.slice (some ⟨b9,(eD (fun x => !p x) l l.length)*68,none⟩) (l.length - (eD (fun x => !p x) l l.length)) (cap - (eD (fun x => !p x) l l.length))) (gT (i:=(eD (fun x => !p x) l l.length)) Tryz.underlying22 eA (h.ev rfl) (h.ev rfl) rfl (by omega)) (by unfold CU;rw [if_neg (by omega)])) rfl ?_;intro f h
   refine kA (fz:=fz) (Z:=.agg (ay aZ aZ bp bp)) 0 h s Tryz.underlying22 dL rfl (by omega) rfl hfz (by rw [hz68];omega) (a7 rfl rfl) ?_;intro w1 s
   refine ah ?_
   refine hK14 _ _ ?_
   refine al fun K15 hK15=>?_
   refine ae ?_
   refine ac h (ag (h.ev rfl)) rfl ?_;intro f h
   refine ac h (ag (h.ev rfl)) rfl ?_;intro f h
   refine ac h (gS (i:=(eD (fun x => !p x) l l.length)) Tryz.underlying22 eA (h.ev rfl) (h.ev rfl) rfl (by omega)) rfl ?_;intro f h
   refine ac h (ak (h.ev rfl)) rfl ?_;intro f h
   refine ah ?_
   refine hK15 _ _ ?_
   refine wpIn_ret ?_
   exact gv rfl h rfl (⟨_,rfl,(by have hzl:(Builtin.zeroCells (Value.agg (ay aZ aZ bp bp)).cells (l.length - (eD (fun x => !p x) l l.length))).toList.length=(l.length - (l.filter fun x => !p x).length)*68:=(by rw [Array.length_toList,size_zeroCells,hz68,hI]);obtain ⟨hf1,hf2⟩:=tH cur.toList _ (fun x => !p x) l hct (by have e9:=Array.length_toList (xs:=cur);omega) hzl ((eD (fun x => !p x) l l.length)*68) (by rw [hI]) ((l.length - (eD (fun x => !p x) l l.length))*(Value.agg (ay aZ aZ bp bp)).cells.size) (by rw [hz68,hI]);rw [← hI];exact s.close_sl (by rw [List.size_toArray];exact hfz.imp id fun h9=>(by rw [hf1,Array.length_toList];exact h9)) (by omega) hcm (by rw [List.size_toArray];exact hf1.trans hcs) hf2 (by rw [fP,hI]))⟩)
theorem sW (x:N3) (no:Int) (bx:Nat) (w:World) (hb:w.heap[bx]? = some (.cells #[.int .i64 no] 3)):Calls Tryz.prog 63 [.agg (ay x.1.me x.1.pr x.2.1 x.2.2),.pointer (some ⟨bx,0,none⟩)].toArray w (cU w (is (.bool (decide (x.1.me.1=no))))):=by
 refine bq Tryz.func63 rfl Tryz.ntmps63 rfl [(0,.agg (ay x.1.me x.1.pr x.2.1 x.2.2)),(1,.pointer (some ⟨bx,0,none⟩))] (by simp) fun f h=>?_
 have s:=St.start w
 refine al fun K1 hK1=>?_
 refine ae ?_
 refine bV (ay x.1.me x.1.pr x.2.1 x.2.2) h s rfl rfl rfl ?_;intro f w1 b2 h s
 refine ac h (ak (h.ev rfl)) rfl ?_;intro f h
 refine ah ?_
 refine hK1 _ _ ?_
 refine al fun K2 hK2=>?_
 refine ae ?_
 refine ac h (ai aK (h.ev rfl)) rfl ?_;intro f h
 refine ac h (ai aH (h.ev rfl)) rfl ?_;intro f h
 refine aq (am (aL.of_own s 0 rfl) 0 (bZ _ _ _ _)) h bw rfl rfl ?_;intro f h
 refine aq (V:=.int .i64 no) (am (aL.of_blk (dC hb s.ext)) 0 (rfl)) h bw rfl rfl ?_;intro f h
 refine ac h (bU (h.ev rfl) (h.ev rfl)) rfl ?_;intro f h
 refine ac h (ak (h.ev rfl)) rfl ?_;intro f h
 refine ah ?_
 refine hK2 _ _ ?_
 refine wpIn_ret ?_
 exact bo rfl h s rfl (rfl)
theorem gr (L:List N3) (vo:Value) (no:Int) (w:World) (hO:eN w vo L) (hL:L.length≤40) (hb:RwB L):Calls Tryz.prog 28 [.agg #[vo],.int .i64 no].toArray w (cU w (Bm w 42 L no)):=by
 refine bq Tryz.func28 rfl Tryz.ntmps28 rfl [(0,.agg #[vo]),(1,.int .i64 no)] (by simp) fun f h=>?_
 have s:=St.start w
 refine al fun K1 hK1=>?_
 refine ae ?_
 refine bV (#[vo]) h s rfl rfl rfl ?_;intro f w1 b2 h s
 refine bV (#[.int .i64 no]) h s rfl rfl rfl ?_;intro f w1 b3 h s
 refine bf (#[bp]) h s d3 rfl rfl ?_;intro f w1 b4 h s
 refine ac h (ak (h.ev rfl)) rfl ?_;intro f h
 refine ah ?_
 refine hK1 _ _ ?_
 refine al fun K2 hK2=>?_
 cases r0:(hQ L:Bool)
 ·skip
  refine ae ?_
  refine au 2 h s bk rfl rfl (rfl) rfl ?_;intro f h
  refine bR 1 h s bw rfl rfl (rfl) rfl ?_;intro f h
  refine aI h s wb (jl L vo no _ (hO.keep s.ext) hL hb) rfl rfl ?_;intro f w1 v11 hop hE h sq
  obtain rfl:=hop.n (fY r0) (by decide)
  replace s:=sq
  refine ac h (ag (h.ev rfl)) rfl ?_;intro f h
  refine ac h (bG (h.ev rfl) rfl) rfl ?_;intro f h
  refine ac h (bG (h.ev rfl) rfl) rfl ?_;intro f h
  refine ac h (bG (h.ev rfl) rfl) rfl ?_;intro f h
  refine az 2 h s bk rfl rfl rfl (rfl) (rfl) (cq (rfl)) ?_;intro w1 s
  refine ac h (ak (h.ev rfl)) rfl ?_;intro f h
  refine ac h (ak (h.ev rfl)) rfl ?_;intro f h
  refine ah ?_
  refine hK2 _ _ ?_
  refine al fun K3 hK3=>?_
  refine al fun K4 hK4=>?_
  refine ae ?_
  refine ac h (ag (h.ev rfl)) rfl ?_;intro f h
  refine ac h (aw (.bool true) (cy (h.ev rfl) (h.ev rfl)) (by rfl)) rfl ?_;intro f h
  refine ah ?_
  refine hK4 _ _ ?_
  refine wpIn_cond_true (h.ev rfl) ?_
  refine al fun K5 hK5=>?_
  refine ae ?_
  refine ac h (co g5) rfl ?_;intro f h
  refine ac h (ag (h.ev rfl)) rfl ?_;intro f h
  refine az 0 h s bk rfl rfl rfl (rfl) (rfl) (cq (rfl)) ?_;intro w1 s
  refine ac h (ak (h.ev rfl)) rfl ?_;intro f h
  refine ah ?_
  refine hK5 _ _ ?_
  refine wpIn_ret ?_
  refine aY ?_
  exact ci 0 rfl h s bk rfl rfl (rfl) rfl (.inl ⟨1,fY r0,by decide,rfl⟩)
 ·skip
  cases l0:(cx (aR L) no:Bool)
  ·skip
   refine ae ?_
   refine au 2 h s bk rfl rfl (rfl) rfl ?_;intro f h
   refine bR 1 h s bw rfl rfl (rfl) rfl ?_;intro f h
   refine aI h s wb (jl L vo no _ (hO.keep s.ext) hL hb) rfl rfl ?_;intro f w1 v11 hop hE h sq
   obtain rfl:=hop.n (eZ r0 l0) (by decide)
   replace s:=sq
   refine ac h (ag (h.ev rfl)) rfl ?_;intro f h
   refine ac h (bG (h.ev rfl) rfl) rfl ?_;intro f h
   refine ac h (bG (h.ev rfl) rfl) rfl ?_;intro f h
   refine ac h (bG (h.ev rfl) rfl) rfl ?_;intro f h
   refine az 2 h s bk rfl rfl rfl (rfl) (rfl) (cq (rfl)) ?_;intro w1 s
   refine ac h (ak (h.ev rfl)) rfl ?_;intro f h
   refine ac h (ak (h.ev rfl)) rfl ?_;intro f h
   refine ah ?_
   refine hK2 _ _ ?_
   refine al fun K6 hK6=>?_
   refine al fun K7 hK7=>?_
   refine ae ?_
   refine ac h (ag (h.ev rfl)) rfl ?_;intro f h
   refine ac h (aw (.bool true) (cy (h.ev rfl) (h.ev rfl)) (by rfl)) rfl ?_;intro f h
   refine ah ?_
   refine hK7 _ _ ?_
   refine wpIn_cond_true (h.ev rfl) ?_
   refine al fun K8 hK8=>?_
   refine ae ?_
   refine ac h (co g5) rfl ?_;intro f h
   refine ac h (ag (h.ev rfl)) rfl ?_;intro f h
   refine az 0 h s bk rfl rfl rfl (rfl) (rfl) (cq (rfl)) ?_;intro w1 s
   refine ac h (ak (h.ev rfl)) rfl ?_;intro f h
   refine ah ?_
   refine hK8 _ _ ?_
   refine wpIn_ret ?_
   refine aY ?_
   exact ci 0 rfl h s bk rfl rfl (rfl) rfl (.inl ⟨10,eZ r0 l0,by decide,rfl⟩)
  ·skip
   refine ae ?_
   refine au 2 h s bk rfl rfl (rfl) rfl ?_;intro f h
   refine bR 1 h s bw rfl rfl (rfl) rfl ?_;intro f h
   refine aI h s wb (jl L vo no _ (hO.keep s.ext) hL hb) rfl rfl ?_;intro f w1 v11 hop hE h sq
   obtain ⟨vq,K,ks,rfl,hnk,hS⟩:=hop.y (gQ r0 l0)
   replace s:=s.add hS
   clear hS hop
   have hlk:=y5 hnk
   have hrs:=(eJ r0).rs
   have hio:dx L no<L.length:=of_decide_eq_true ((fD hrs.nos).trans l0)
   have hRSK:=hrs.nds hnk
   refine ac h (ag (h.ev rfl)) rfl ?_;intro f h
   refine ac h (bG (h.ev rfl) rfl) rfl ?_;intro f h
   refine ac h (bG (h.ev rfl) rfl) rfl ?_;intro f h
   refine ac h (bG (h.ev rfl) rfl) rfl ?_;intro f h
   refine az 4 h s bk rfl rfl rfl (rfl) (rfl) (cq (aQ (s.getSl 0 rfl))) ?_;intro w1 s
   refine ac h (ak (h.ev rfl)) rfl ?_;intro f h
   refine ac h (ak (h.ev rfl)) rfl ?_;intro f h
   refine ah ?_
   refine hK2 _ _ ?_
   refine al fun K9 hK9=>?_
   refine al fun K10 hK10=>?_
   refine ae ?_
   refine ac h (ag (h.ev rfl)) rfl ?_;intro f h
   refine ac h (aw (.bool false) (cy (h.ev rfl) (h.ev rfl)) (by rfl)) rfl ?_;intro f h
   refine ah ?_
   refine hK10 _ _ ?_
   refine wpIn_cond_false (h.ev rfl) ?_
   refine wpIn_skip ?_
   refine hK9 _ _ ?_
   refine al fun K11 hK11=>?_
   refine ae ?_
   refine ac h (ai cp (h.ev rfl)) rfl ?_;intro f h
   refine aq (V:=vq) (am (aL.of_own s 4 rfl) 0 rfl) h da rfl rfl ?_;intro f h
   refine ac h (dn [.pointer (some ⟨b3,0,none⟩)] (jE h rfl)) rfl ?_;intro f h
   replace s:St w [.sl vq 42 68 K.length (aG K),(.grp ks (c6 K)),.blk b4 (.cells (#[bp]) 24),.blk b3 (.cells (#[.int .i64 no]) 3),.blk b2 (.cells (#[vq]) 24)] _:=s
   have ho9:∀ y∈K,y.2.1.oneCell'=true∧y.2.2.oneCell'=true:=fun y hy=>(s.getG 1 rfl y hy).ones
   refine dl [vq,.func (.func 63) #[] #[.pointer (some ⟨b3,0,none⟩)]] h BV (oH K (by omega) vq 63 [.pointer (some ⟨b3,0,none⟩)] (fun x=>decide (x.1.me.1=no)) _ _ _ s ho9 C8 (fun A9 w9 s9 x hx=>sW x no b3 w9 ((s9.pick _ (List.sublist_append_right A9 _)).get 2 rfl))) rfl rfl ?_;rintro f w1 v22 s h
   replace s:=s.bring 1 rfl
   replace s:St w [(.grp ks (c6 K)),.sl v22 42 68 (K.filter fun x => !decide (x.1.me.1=no)).length (aG (K.filter fun x => !decide (x.1.me.1=no))),.blk b4 (.cells (#[bp]) 24),.blk b3 (.cells (#[.int .i64 no]) 3),.blk b2 (.cells (#[vq]) 24)] _:=s
   replace s:=s.weak (S':=c6 (K.filter fun x => !decide (x.1.me.1=no))) (fun _ h9=>tw h9)
   refine ac h (ai cp (h.ev rfl)) rfl ?_;intro f h
   refine br 4 h s da rfl rfl rfl (by show 0<1;decide) (aQ (s.getSl 1 rfl)) ?_;intro w1 s
   replace s:=s.recell (D:=#[v22]) 4 rfl rfl
   refine ah ?_
   refine hK11 _ _ ?_
   refine al fun K12 hK12=>?_
   refine ae ?_
   refine au 4 h s bk rfl rfl (rfl) rfl ?_;intro f h
   refine az 2 h s bk rfl rfl rfl (rfl) (rfl) (cq (aQ (s.getSl 1 rfl))) ?_;intro w1 s
   refine ac h (ak (h.ev rfl)) rfl ?_;intro f h
   refine ah ?_
   refine hK12 _ _ ?_
   refine wpIn_ret ?_
   exact ci 2 rfl h s bk rfl rfl (rfl) rfl (.inr ⟨gQ r0 l0,v22,_,ks,rfl,yo hnk,s.sel [1,0] rfl (by decide)⟩)
theorem sB (L:List N3) (vo:Value) (no:Int) (w:World) (hO:eN w vo L) (hL:L.length≤40) (hb:RwB L):Calls Tryz.prog 28 [.agg #[vo],.int .i64 no].toArray w (cU w (zr w (Do vo L) (AZ L no) (cE L no))):=(gr L vo no w hO hL hb).mono fun e w9 h=>by
 obtain ⟨v,h1,h2,h3⟩:=h
 exact ⟨v,h1,h2.any h3,h3⟩
end Go.Proofs.YthggibfkgofncaaGreat
