/- What Fail of package chord answers. -/
import Derived.Test.YthggibfkgofncaaGreatWc
set_option linter.unusedVariables false
set_option linter.unusedSimpArgs false
set_option linter.unusedSectionVars false
namespace Go.Proofs.YthggibfkgofncaaGreat
open Go.RowKit
theorem oR (l:List N3) (vh:Value) (g9:Nat) (caps:List Value) (p:N3→Bool) (w:World) (hR:bO w vh 68 l.length (aD l)) (hln:l.length≤1000) (hg:Fnc Tryz.prog g9) (hp:∀ w9,Ext w w9→∀ x∈l,Calls Tryz.prog g9 (.agg (au x.1.me x.1.pr x.2.1 x.2.2)::caps).toArray w9 (cO w9 (is (.bool (p x))))):Calls Tryz.prog 95 [vh,.func (.func g9) #[] caps.toArray].toArray w (cO w (fun v _=>∃ r:Int,v=.int .i64 r∧((r = -1∧∀ x∈l,p x=false)∨∃ k:Nat,k<l.length∧r=(k:Int)∧p (l.getD k z3)=true∧∀ i,i<k→p (l.getD i z3)=false))):=by
 refine bh Tryz.func95 rfl Tryz.ntmps95 rfl [(0,vh),(1,.func (.func g9) #[] caps.toArray)] (by simp) fun f h=>?_
 have s:=St.start w
 refine ak fun K1 hK1=>?_
 refine ag ?_
 refine ac h (aj (h.ev rfl)) rfl ?_;intro f h
 refine ai ?_
 refine hK1 _ _ ?_
 refine ak fun K2 hK2=>?_
 refine ak fun K3 hK3=>?_
 refine ag ?_
 refine ac h (ah (h.ev rfl)) rfl ?_;intro f h
 refine ac h (bK (hR.keep s.ext) Tryz.underlying22 (h.ev rfl)) rfl ?_;intro f h
 refine ac h (ah (h.ev rfl)) rfl ?_;intro f h
 refine ai ?_
 refine hK3 _ _ ?_
 refine wpIn_block ?_
 refine wpIn_loop_ghost (fun nn aa ww=>∃ k:Nat,Sl 19 aa [(0,vh),(1,.func (.func g9) #[] caps.toArray),(6,vh),(7,.int .i64 (l.length:Int)),(8,.int .i64 (k:Int))]∧St w [] ww∧nn=l.length - k∧k≤l.length∧∀ i,i<k→p (l.getD i z3)=false) (l.length - (0)) ⟨0,h.only ⟨rfl,rfl,rfl,rfl,aQ rfl (by omega),trivial⟩,s.as trivial,rfl,Nat.zero_le _,fun i hi=>absurd hi (Nat.not_lt_zero _)⟩ ?_
 rintro _ f w1 ⟨k,h,s,hnn,hp0,hp1⟩
 refine ak fun K4 hK4=>?_
 refine ag ?_
 refine ac h (cc (h.ev rfl) (h.ev rfl)) rfl ?_;intro f h
 refine ai ?_
 refine hK4 _ _ ?_
 refine ak fun K5 hK5=>?_
 refine bL h rfl (fun hc=>?_) (fun hc=>?_)
 ·replace hc:=of_decide_eq_true hc
  refine wpIn_skip ?_
  refine hK5 _ _ ?_
  refine ak fun K6 hK6=>?_
  refine wpIn_block ?_
  refine ak fun K7 hK7=>?_
  refine ag ?_
  refine ac h (ah (h.ev rfl)) rfl ?_;intro f h
  refine ac h (aj (h.ev rfl)) rfl ?_;intro f h
  refine ai ?_
  refine hK7 _ _ ?_
  refine ak fun K8 hK8=>?_
  refine ag ?_
  have hkl:k<l.length:=by omega
  refine ac h (ah (h.ev rfl)) rfl ?_;intro f h
  refine ac h (ah (h.ev rfl)) rfl ?_;intro f h
  refine ac h (ah (h.ev rfl)) rfl ?_;intro f h
  refine ac h (bU (hR.keep s.ext) (k) Tryz.underlying22 fa (h.ev rfl) (h.ev rfl) (by omega) (by omega)) rfl ?_;intro f h
  refine aI ((hR.keep s.ext).el (k) (by omega) (by decide) (D:=au (l.getD k z3).1.me (l.getD k z3).1.pr (l.getD k z3).2.1 (l.getD k z3).2.2) (cR l k hkl)) h bw rfl (aw _ _ _ _) rfl ?_;intro f h
  refine fk [.agg (au (l.getD k z3).1.me (l.getD k z3).1.pr (l.getD k z3).2.1 (l.getD k z3).2.2)] (caps:=caps) h s hg rfl (hp _ s.ext _ (bj hkl)) rfl rfl ?_;intro f w1 v9 hT hE h s;obtain rfl:=hT
  refine ai ?_
  refine hK8 _ _ ?_
  refine bL h rfl (fun hc=>?_) (fun hc=>?_)
  ·refine ak fun K9 hK9=>?_
   refine ag ?_
   refine ac h (ah (h.ev rfl)) rfl ?_;intro f h
   refine ac h (aj (h.ev rfl)) rfl ?_;intro f h
   refine ai ?_
   refine hK9 _ _ ?_
   refine wpIn_ret ?_
   refine bT ?_
   refine a8 ?_
   refine a8 ?_
   refine bT ?_
   refine a8 ?_
   exact bu rfl h s rfl (⟨_,rfl,.inr ⟨k,hkl,rfl,hc,hp1⟩⟩)
  ·refine wpIn_skip ?_
   refine bH ?_
   refine hK6 _ _ ?_
   refine ag ?_
   refine ac h (cp (h.ev rfl) (h.ev rfl) (by omega)) rfl ?_;intro f h
   refine ac h (ah (h.ev rfl)) rfl ?_;intro f h
   refine ai ?_
   refine ca ?_
   exact ⟨_,by omega,⟨k+1,h.only ⟨rfl,rfl,rfl,rfl,aQ rfl (by omega),trivial⟩,St.as s trivial,rfl,by omega,d1 (q:=fun j=>p (l.getD j z3)) hp1 hc⟩⟩
 ·replace hc:=of_decide_eq_false hc
  refine wpIn_exit ?_
  refine bN ?_
  refine bN ?_
  refine cG ?_
  refine hK2 _ _ ?_
  refine ak fun K10 hK10=>?_
  refine ag ?_
  refine ac h (aj (h.ev rfl)) rfl ?_;intro f h
  refine ai ?_
  refine hK10 _ _ ?_
  refine wpIn_ret ?_
  exact bu rfl h s rfl (⟨_,rfl,.inl ⟨rfl,fun x hx=>(by obtain ⟨i,hi,rfl⟩:=nc hx;exact hp1 i (by omega))⟩⟩)
set_option maxHeartbeats 1000000 in
theorem nN (l:List N3) (hln:l.length≤1000) (vh:Value) (g9:Nat) (caps:List Value) (p:N3→Bool) (B9:List Own) (w0 w:World) (s:St w0 (.sl vh 42 68 (l).length (aD (l))::B9) w) (ho:∀ x∈l,x.2.1.oneCell'=true∧x.2.2.oneCell'=true) (hg:Fnc Tryz.prog g9) (hp:∀ (A9:List Own) (w9:World),St w0 (A9++B9) w9→∀ x∈l,Calls Tryz.prog g9 (.agg (au x.1.me x.1.pr x.2.1 x.2.2)::caps).toArray w9 (cO w9 (is (.bool (p x))))):Calls Tryz.prog 62 [vh,.func (.func g9) #[] caps.toArray].toArray w (fun e w9=>∃ v9,e=.returned v9∧St w0 (.sl v9 42 68 ((l.filter fun x => !p x)).length (aD ((l.filter fun x => !p x)))::B9) w9):=by
 refine dT Tryz.func62 rfl Tryz.ntmps62 rfl [(0,vh),(1,.func (.func g9) #[] caps.toArray)] (by simp) fun f h=>?_
 refine ak fun K1 hK1=>?_
 refine ag ?_
 refine ac h (aj (h.ev rfl)) rfl ?_;intro f h
 refine ai ?_
 refine hK1 _ _ ?_
 refine ak fun K2 hK2=>?_
 refine ag ?_
 refine ac h (ah (h.ev rfl)) rfl ?_;intro f h
 refine ac h (ah (h.ev rfl)) rfl ?_;intro f h
 refine aK h s CP (oR l vh g9 caps p _ (bO.of_own (s.getSl 0 rfl)) hln hg (fun w9 h9 x hx=>hp [_] w9 (s.more h9) x hx)) rfl rfl ?_;rintro f w1 v9 ⟨r9,rfl,hr⟩ hE h s
 refine ac h (aj (h.ev rfl)) rfl ?_;intro f h
 refine ai ?_
 refine hK2 _ _ ?_
 refine ak fun K3 hK3=>?_
 refine ak fun K4 hK4=>?_
 refine ag ?_
 refine ac h (ah (h.ev rfl)) rfl ?_;intro f h
 refine ac h (cb (h.ev rfl) (h.ev rfl)) rfl ?_;intro f h
 refine ai ?_
 refine hK4 _ _ ?_
 refine bL h rfl (fun hc=>?_) (fun hc=>?_)
 ·have hc:=of_decide_eq_true hc
  have hn:=(hr.resolve_right (fun ⟨k9,_,h9,_⟩=>by omega)).2
  refine ak fun K5 hK5=>?_
  refine ag ?_
  refine ac h (ah (h.ev rfl)) rfl ?_;intro f h
  refine ac h (aj (h.ev rfl)) rfl ?_;intro f h
  refine ai ?_
  refine hK5 _ _ ?_
  refine wpIn_ret ?_
  refine a8 ?_
  exact gb rfl h rfl (⟨_,rfl,t1 (p6 hn).symm s⟩)
 ·obtain ⟨k9,hk9,rfl,hpk,hpf⟩:=hr.resolve_left (fun h9=>of_decide_eq_false hc h9.1)
  have hqk:(!p (l.getD k9 z3))=false:=by rw [hpk];rfl
  obtain ⟨hst1,hst2⟩:=qA (q:=(fun x => !p x)) hk9 (fun i hi=>by rw [hpf i hi];rfl) hqk
  refine wpIn_skip ?_
  refine hK3 _ _ ?_
  refine ak fun K6 hK6=>?_
  refine ak fun K7 hK7=>?_
  refine ag ?_
  refine ac h (ah (h.ev rfl)) rfl ?_;intro f h
  refine ac h (cp (h.ev rfl) (h.ev rfl) (by omega)) rfl ?_;intro f h
  refine ac h (aj (h.ev rfl)) rfl ?_;intro f h
  refine ai ?_
  refine hK7 _ _ ?_
  refine wpIn_block ?_
  refine wpIn_loop_ghost (fun nn aa ww=>∃ j:Nat,Sl 42 aa [(0,vh),(1,.func (.func g9) #[] caps.toArray),(8,vh),(5,.int .i64 (((ew (fun x => !p x) l j):Nat):Int)),(6,.int .i64 (j:Int))]∧St w0 (.sl vh 42 68 (l).length (aD (gc (fun x => !p x) l j))::B9) ww∧nn=l.length - j∧k9+1≤j∧j≤l.length) (l.length - (k9+1)) ⟨k9+1,h.only ⟨rfl,rfl,rfl,aQ rfl (by omega),aQ rfl (by omega),trivial⟩,s.as ⟨j9 rfl (by rw [hst1]),eH _⟩,rfl,by omega,by omega⟩ ?_
  rintro _ f w1 ⟨j,h,s,hnn,hp0,hp1⟩
  refine ak fun K8 hK8=>?_
  refine ak fun K9 hK9=>?_
  refine ag ?_
  refine ac h (ah (h.ev rfl)) rfl ?_;intro f h
  refine ac h (ah (h.ev rfl)) rfl ?_;intro f h
  refine da 0 h s Tryz.underlying22 rfl rfl rfl ?_;intro f h
  refine ac h (cc (h.ev rfl) (h.ev rfl)) rfl ?_;intro f h
  refine ai ?_
  refine hK9 _ _ ?_
  refine bL h rfl (fun hc=>?_) (fun hc=>?_)
  ·replace hc:=of_decide_eq_true hc
   refine wpIn_skip ?_
   refine hK8 _ _ ?_
   refine ak fun K10 hK10=>?_
   refine wpIn_block ?_
   refine ak fun K11 hK11=>?_
   refine ag ?_
   have hjl:j<l.length:=by omega
   have hix:=oe (fun x => !p x) l j
   refine ac h (ah (h.ev rfl)) rfl ?_;intro f h
   refine ac h (ah (h.ev rfl)) rfl ?_;intro f h
   refine ac h (bU (bO.of_own (s.getSl 0 rfl)) (j) Tryz.underlying22 fa (h.ev rfl) (h.ev rfl) (rfl) (by omega)) rfl ?_;intro f h
   refine aI ((bO.of_own (s.getSl 0 rfl)).el (j) (by omega) (by decide) (D:=au (l.getD j z3).1.me (l.getD j z3).1.pr (l.getD j z3).2.1 (l.getD j z3).2.2) ((cR (gc (fun x => !p x) l j) j (by rw [pc];omega)).trans (by rw [um hjl]))) h bw rfl (aw _ _ _ _) rfl ?_;intro f h
   refine bi (au ap ap aU aU) h s ei rfl rfl ?_;intro f w1 b7 h s
   refine aA 0 h s bw rfl rfl rfl (aw _ _ _ _) (aw _ _ _ _) (br (ho _ (bj hjl)).1 (ho _ (bj hjl)).2) ?_;intro w1 s
   refine ai ?_
   refine hK11 _ _ ?_
   refine ak fun K12 hK12=>?_
   cases hq:(p (l.getD j z3):Bool)
   ·skip
    refine ag ?_
    refine ac h (ah (h.ev rfl)) rfl ?_;intro f h
    refine ay 0 h s bw rfl rfl (aw _ _ _ _) rfl ?_;intro f h
    refine fk [.agg (au (l.getD j z3).1.me (l.getD j z3).1.pr (l.getD j z3).2.1 (l.getD j z3).2.2)] (caps:=caps) h s hg rfl (hp [_,_] _ s _ (bj hjl)) rfl rfl ?_;intro f w1 v28 hT hE h s;obtain rfl:=hT
    refine ac h (aE (.bool true) (bI (h.ev rfl)) (by rw [hq];rfl)) rfl ?_;intro f h
    refine ai ?_
    refine hK12 _ _ ?_
    refine wpIn_cond_true (h.ev rfl) ?_
    refine ak fun K13 hK13=>?_
    refine ag ?_
    refine ac h (ah (h.ev rfl)) rfl ?_;intro f h
    refine ac h (ah (h.ev rfl)) rfl ?_;intro f h
    refine ay 0 h s bw rfl rfl (aw _ _ _ _) rfl ?_;intro f h
    refine ac h (bU (bO.of_own (s.getSl 1 rfl)) ((ew (fun x => !p x) l j)) Tryz.underlying22 fa (h.ev rfl) (h.ev rfl) (rfl) (by omega)) rfl ?_;intro f h
    refine dH 1 ((ew (fun x => !p x) l j)) h s bw rfl rfl rfl (aw _ _ _ _) (by omega) (br (ho _ (bj hjl)).1 (ho _ (bj hjl)).2) ((jW (K:=(gc (fun x => !p x) l j)) (by rw [pc];omega) (l.getD j z3)).trans (congrArg aD (pg (q:=(fun x => !p x)) hjl (by rw [hq];rfl)).1.symm)) ?_;intro w1 s
    refine ai ?_
    refine hK13 _ _ ?_
    refine ag ?_
    refine ac h (ah (h.ev rfl)) rfl ?_;intro f h
    refine ac h (cp (h.ev rfl) (h.ev rfl) (by omega)) rfl ?_;intro f h
    refine ac h (aj (h.ev rfl)) rfl ?_;intro f h
    refine ai ?_
    refine bH ?_
    refine hK10 _ _ ?_
    refine ag ?_
    refine ac h (ah (h.ev rfl)) rfl ?_;intro f h
    refine ac h (cp (h.ev rfl) (h.ev rfl) (by omega)) rfl ?_;intro f h
    refine ac h (aj (h.ev rfl)) rfl ?_;intro f h
    refine ai ?_
    refine ca ?_
    have h8:=(pg (q:=(fun x => !p x)) hjl (by rw [hq];rfl)).2
    exact ⟨_,by omega,⟨j+1,h.only ⟨rfl,rfl,rfl,aQ rfl (by omega),aQ rfl (by omega),trivial⟩,St.as (s.pick _ (List.sublist_append_right [_] _)) ⟨rfl,eH _⟩,rfl,by omega,by omega⟩⟩
   ·skip
    refine ag ?_
    refine ac h (ah (h.ev rfl)) rfl ?_;intro f h
    refine ay 0 h s bw rfl rfl (aw _ _ _ _) rfl ?_;intro f h
    refine fk [.agg (au (l.getD j z3).1.me (l.getD j z3).1.pr (l.getD j z3).2.1 (l.getD j z3).2.2)] (caps:=caps) h s hg rfl (hp [_,_] _ s _ (bj hjl)) rfl rfl ?_;intro f w1 v28 hT hE h s;obtain rfl:=hT
    refine ac h (aE (.bool false) (bI (h.ev rfl)) (by rw [hq];rfl)) rfl ?_;intro f h
    refine ai ?_
    refine hK12 _ _ ?_
    refine wpIn_cond_false (h.ev rfl) ?_
    refine wpIn_skip ?_
    refine bH ?_
    refine hK10 _ _ ?_
    refine ag ?_
    refine ac h (ah (h.ev rfl)) rfl ?_;intro f h
    refine ac h (cp (h.ev rfl) (h.ev rfl) (by omega)) rfl ?_;intro f h
    refine ac h (aj (h.ev rfl)) rfl ?_;intro f h
    refine ai ?_
    refine ca ?_
    obtain ⟨h7,h8⟩:=rm (q:=(fun x => !p x)) hjl (by rw [hq];rfl)
    exact ⟨_,by omega,⟨j+1,h.only ⟨rfl,rfl,rfl,aQ rfl (by omega),aQ rfl (by omega),trivial⟩,St.as (s.pick _ (List.sublist_append_right [_] _)) ⟨j9 rfl (by rw [h7]),eH _⟩,rfl,by omega,by omega⟩⟩
  ·replace hc:=of_decide_eq_false hc
   refine wpIn_exit ?_
   refine bN ?_
   refine bN ?_
   refine cG ?_
   refine hK6 _ _ ?_
   refine ak fun K14 hK14=>?_
   refine ag ?_
   obtain rfl:j=l.length:=by omega
   have hlt:=x5 (q:=(fun x => !p x)) hk9 hqk
   have hI:=vQ (fun x => !p x) l
   obtain ⟨b9,cap,cur,fz,hvh,hfz,hnc,hcm,hcs,hct,s2⟩:=s.open_sl (by omega)
   clear s
   subst hvh
   have s:=s2
   have hz68:(Value.agg (au ap ap aU aU)).cells.size=68:=aw _ _ _ _
   refine ac h (ah (h.ev rfl)) rfl ?_;intro f h
   refine ac h (ah (h.ev rfl)) rfl ?_;intro f h
   refine ac h (aE (.slice (some ⟨b9,(ew (fun x => !p x) l l.length)*68,none⟩) (l.length - (ew (fun x => !p x) l l.length)) (cap - (ew (fun x => !p x) l l.length))) (gF (i:=(ew (fun x => !p x) l l.length)) Tryz.underlying22 fa (h.ev rfl) (h.ev rfl) rfl (by omega)) (by unfold Cm;rw [if_neg (by omega)])) rfl ?_;intro f h
   refine kb (fz:=fz) (Z:=.agg (au ap ap aU aU)) 0 h s Tryz.underlying22 ei rfl (by omega) rfl hfz (by rw [hz68];omega) (br rfl rfl) ?_;intro w1 s
   refine ai ?_
   refine hK14 _ _ ?_
   refine ak fun K15 hK15=>?_
   refine ag ?_
   refine ac h (ah (h.ev rfl)) rfl ?_;intro f h
   refine ac h (ah (h.ev rfl)) rfl ?_;intro f h
   refine ac h (gz (i:=(ew (fun x => !p x) l l.length)) Tryz.underlying22 fa (h.ev rfl) (h.ev rfl) rfl (by omega)) rfl ?_;intro f h
   refine ac h (aj (h.ev rfl)) rfl ?_;intro f h
   refine ai ?_
   refine hK15 _ _ ?_
   refine wpIn_ret ?_
   exact gb rfl h rfl (⟨_,rfl,(by have hzl:(Builtin.zeroCells (Value.agg (au ap ap aU aU)).cells (l.length - (ew (fun x => !p x) l l.length))).toList.length=(l.length - (l.filter fun x => !p x).length)*68:=(by rw [Array.length_toList,size_zeroCells,hz68,hI]);obtain ⟨hf1,hf2⟩:=sm cur.toList _ (fun x => !p x) l hct (by have e9:=Array.length_toList (xs:=cur);omega) hzl ((ew (fun x => !p x) l l.length)*68) (by rw [hI]) ((l.length - (ew (fun x => !p x) l l.length))*(Value.agg (au ap ap aU aU)).cells.size) (by rw [hz68,hI]);rw [← hI];exact s.close_sl (by rw [List.size_toArray];exact hfz.imp id fun h9=>(by rw [hf1,Array.length_toList];exact h9)) (by omega) hcm (by rw [List.size_toArray];exact hf1.trans hcs) hf2 (by rw [fy,hI]))⟩)
theorem su (x:N3) (no:Int) (bx:Nat) (w:World) (hb:w.heap[bx]? = some (.cells #[.int .i64 no] 3)):Calls Tryz.prog 63 [.agg (au x.1.me x.1.pr x.2.1 x.2.2),.pointer (some ⟨bx,0,none⟩)].toArray w (cO w (is (.bool (decide (x.1.me.1=no))))):=by
 refine bh Tryz.func63 rfl Tryz.ntmps63 rfl [(0,.agg (au x.1.me x.1.pr x.2.1 x.2.2)),(1,.pointer (some ⟨bx,0,none⟩))] (by simp) fun f h=>?_
 have s:=St.start w
 refine ak fun K1 hK1=>?_
 refine ag ?_
 refine bR (au x.1.me x.1.pr x.2.1 x.2.2) h s rfl rfl rfl ?_;intro f w1 b2 h s
 refine ac h (aj (h.ev rfl)) rfl ?_;intro f h
 refine ai ?_
 refine hK1 _ _ ?_
 refine ak fun K2 hK2=>?_
 refine ag ?_
 refine ac h (aq bA (h.ev rfl)) rfl ?_;intro f h
 refine ac h (aq aP (h.ev rfl)) rfl ?_;intro f h
 refine aC (ax (bq.of_own s 0 rfl) 0 (dz _ _ _ _)) h bV rfl rfl ?_;intro f h
 refine aC (V:=.int .i64 no) (ax (bq.of_blk (nf hb s.ext)) 0 (rfl)) h bV rfl rfl ?_;intro f h
 refine ac h (cb (h.ev rfl) (h.ev rfl)) rfl ?_;intro f h
 refine ac h (aj (h.ev rfl)) rfl ?_;intro f h
 refine ai ?_
 refine hK2 _ _ ?_
 refine wpIn_ret ?_
 exact bu rfl h s rfl (rfl)
theorem qk (L:List N3) (vo:Value) (no:Int) (w:World) (hO:cI w vo L) (hL:L.length≤40) (hb:RwB L):Calls Tryz.prog 28 [.agg #[vo],.int .i64 no].toArray w (cO w (Ai w 42 L no)):=by
 refine bh Tryz.func28 rfl Tryz.ntmps28 rfl [(0,.agg #[vo]),(1,.int .i64 no)] (by simp) fun f h=>?_
 have s:=St.start w
 refine ak fun K1 hK1=>?_
 refine ag ?_
 refine bR (#[vo]) h s rfl rfl rfl ?_;intro f w1 b2 h s
 refine bR (#[.int .i64 no]) h s rfl rfl rfl ?_;intro f w1 b3 h s
 refine bi (#[aU]) h s d6 rfl rfl ?_;intro f w1 b4 h s
 refine ac h (aj (h.ev rfl)) rfl ?_;intro f h
 refine ai ?_
 refine hK1 _ _ ?_
 refine ak fun K2 hK2=>?_
 cases r0:(fH L:Bool)
 ·skip
  refine ag ?_
  refine ay 2 h s a7 rfl rfl (rfl) rfl ?_;intro f h
  refine bX 1 h s bV rfl rfl (rfl) rfl ?_;intro f h
  refine aK h s mF (eJ L vo no _ (hO.keep s.ext) hL hb) rfl rfl ?_;intro f w1 v11 hop hE h sq
  obtain rfl:=hop.n (j1 r0) (by decide)
  replace s:=sq
  refine ac h (ah (h.ev rfl)) rfl ?_;intro f h
  refine ac h (aW (h.ev rfl) rfl) rfl ?_;intro f h
  refine ac h (aW (h.ev rfl) rfl) rfl ?_;intro f h
  refine ac h (aW (h.ev rfl) rfl) rfl ?_;intro f h
  refine aA 2 h s a7 rfl rfl rfl (rfl) (rfl) (bY (rfl)) ?_;intro w1 s
  refine ac h (aj (h.ev rfl)) rfl ?_;intro f h
  refine ac h (aj (h.ev rfl)) rfl ?_;intro f h
  refine ai ?_
  refine hK2 _ _ ?_
  refine ak fun K3 hK3=>?_
  refine ak fun K4 hK4=>?_
  refine ag ?_
  refine ac h (ah (h.ev rfl)) rfl ?_;intro f h
  refine ac h (aE (.bool true) (cJ (h.ev rfl) (h.ev rfl)) (by rfl)) rfl ?_;intro f h
  refine ai ?_
  refine hK4 _ _ ?_
  refine wpIn_cond_true (h.ev rfl) ?_
  refine ak fun K5 hK5=>?_
  refine ag ?_
  refine ac h (cw jB) rfl ?_;intro f h
  refine ac h (ah (h.ev rfl)) rfl ?_;intro f h
  refine aA 0 h s a7 rfl rfl rfl (rfl) (rfl) (bY (rfl)) ?_;intro w1 s
  refine ac h (aj (h.ev rfl)) rfl ?_;intro f h
  refine ai ?_
  refine hK5 _ _ ?_
  refine wpIn_ret ?_
  refine a8 ?_
  exact bS 0 rfl h s a7 rfl rfl (rfl) rfl (.inl ⟨1,j1 r0,by decide,rfl⟩)
 ·skip
  cases l0:(bP (ae L) no:Bool)
  ·skip
   refine ag ?_
   refine ay 2 h s a7 rfl rfl (rfl) rfl ?_;intro f h
   refine bX 1 h s bV rfl rfl (rfl) rfl ?_;intro f h
   refine aK h s mF (eJ L vo no _ (hO.keep s.ext) hL hb) rfl rfl ?_;intro f w1 v11 hop hE h sq
   obtain rfl:=hop.n (ic r0 l0) (by decide)
   replace s:=sq
   refine ac h (ah (h.ev rfl)) rfl ?_;intro f h
   refine ac h (aW (h.ev rfl) rfl) rfl ?_;intro f h
   refine ac h (aW (h.ev rfl) rfl) rfl ?_;intro f h
   refine ac h (aW (h.ev rfl) rfl) rfl ?_;intro f h
   refine aA 2 h s a7 rfl rfl rfl (rfl) (rfl) (bY (rfl)) ?_;intro w1 s
   refine ac h (aj (h.ev rfl)) rfl ?_;intro f h
   refine ac h (aj (h.ev rfl)) rfl ?_;intro f h
   refine ai ?_
   refine hK2 _ _ ?_
   refine ak fun K6 hK6=>?_
   refine ak fun K7 hK7=>?_
   refine ag ?_
   refine ac h (ah (h.ev rfl)) rfl ?_;intro f h
   refine ac h (aE (.bool true) (cJ (h.ev rfl) (h.ev rfl)) (by rfl)) rfl ?_;intro f h
   refine ai ?_
   refine hK7 _ _ ?_
   refine wpIn_cond_true (h.ev rfl) ?_
   refine ak fun K8 hK8=>?_
   refine ag ?_
   refine ac h (cw jB) rfl ?_;intro f h
   refine ac h (ah (h.ev rfl)) rfl ?_;intro f h
   refine aA 0 h s a7 rfl rfl rfl (rfl) (rfl) (bY (rfl)) ?_;intro w1 s
   refine ac h (aj (h.ev rfl)) rfl ?_;intro f h
   refine ai ?_
   refine hK8 _ _ ?_
   refine wpIn_ret ?_
   refine a8 ?_
   exact bS 0 rfl h s a7 rfl rfl (rfl) rfl (.inl ⟨10,ic r0 l0,by decide,rfl⟩)
  ·skip
   refine ag ?_
   refine ay 2 h s a7 rfl rfl (rfl) rfl ?_;intro f h
   refine bX 1 h s bV rfl rfl (rfl) rfl ?_;intro f h
   refine aK h s mF (eJ L vo no _ (hO.keep s.ext) hL hb) rfl rfl ?_;intro f w1 v11 hop hE h sq
   obtain ⟨vq,K,ks,rfl,hnk,hS⟩:=hop.y (kA r0 l0)
   replace s:=s.add hS
   clear hS hop
   have hlk:=nS hnk
   have hrs:=(ef r0).rs
   have hio:az L no<L.length:=of_decide_eq_true ((eb hrs.nos).trans l0)
   have hRSK:=hrs.nds hnk
   refine ac h (ah (h.ev rfl)) rfl ?_;intro f h
   refine ac h (aW (h.ev rfl) rfl) rfl ?_;intro f h
   refine ac h (aW (h.ev rfl) rfl) rfl ?_;intro f h
   refine ac h (aW (h.ev rfl) rfl) rfl ?_;intro f h
   refine aA 4 h s a7 rfl rfl rfl (rfl) (rfl) (bY (bo (s.getSl 0 rfl))) ?_;intro w1 s
   refine ac h (aj (h.ev rfl)) rfl ?_;intro f h
   refine ac h (aj (h.ev rfl)) rfl ?_;intro f h
   refine ai ?_
   refine hK2 _ _ ?_
   refine ak fun K9 hK9=>?_
   refine ak fun K10 hK10=>?_
   refine ag ?_
   refine ac h (ah (h.ev rfl)) rfl ?_;intro f h
   refine ac h (aE (.bool false) (cJ (h.ev rfl) (h.ev rfl)) (by rfl)) rfl ?_;intro f h
   refine ai ?_
   refine hK10 _ _ ?_
   refine wpIn_cond_false (h.ev rfl) ?_
   refine wpIn_skip ?_
   refine hK9 _ _ ?_
   refine ak fun K11 hK11=>?_
   refine ag ?_
   refine ac h (aq ck (h.ev rfl)) rfl ?_;intro f h
   refine aC (V:=vq) (ax (bq.of_own s 4 rfl) 0 rfl) h c3 rfl rfl ?_;intro f h
   refine ac h (dg [.pointer (some ⟨b3,0,none⟩)] (jX h rfl)) rfl ?_;intro f h
   replace s:St w [.sl vq 42 68 K.length (aD K),(.grp ks (cD K)),.blk b4 (.cells (#[aU]) 24),.blk b3 (.cells (#[.int .i64 no]) 3),.blk b2 (.cells (#[vq]) 24)] _:=s
   have ho9:∀ y∈K,y.2.1.oneCell'=true∧y.2.2.oneCell'=true:=fun y hy=>(s.getG 1 rfl y hy).ones
   refine cV [vq,.func (.func 63) #[] #[.pointer (some ⟨b3,0,none⟩)]] h Cy (nN K (by omega) vq 63 [.pointer (some ⟨b3,0,none⟩)] (fun x=>decide (x.1.me.1=no)) _ _ _ s ho9 BM (fun A9 w9 s9 x hx=>su x no b3 w9 ((s9.pick _ (List.sublist_append_right A9 _)).get 2 rfl))) rfl rfl ?_;rintro f w1 v22 s h
   replace s:=s.bring 1 rfl
   replace s:St w [(.grp ks (cD K)),.sl v22 42 68 (K.filter fun x => !decide (x.1.me.1=no)).length (aD (K.filter fun x => !decide (x.1.me.1=no))),.blk b4 (.cells (#[aU]) 24),.blk b3 (.cells (#[.int .i64 no]) 3),.blk b2 (.cells (#[vq]) 24)] _:=s
   replace s:=s.weak (S':=cD (K.filter fun x => !decide (x.1.me.1=no))) (fun _ h9=>sG h9)
   refine ac h (aq ck (h.ev rfl)) rfl ?_;intro f h
   refine bk 4 h s c3 rfl rfl rfl (by show 0<1;decide) (bo (s.getSl 1 rfl)) ?_;intro w1 s
   replace s:=s.recell (D:=#[v22]) 4 rfl rfl
   refine ai ?_
   refine hK11 _ _ ?_
   refine ak fun K12 hK12=>?_
   refine ag ?_
   refine ay 4 h s a7 rfl rfl (rfl) rfl ?_;intro f h
   refine aA 2 h s a7 rfl rfl rfl (rfl) (rfl) (bY (bo (s.getSl 1 rfl))) ?_;intro w1 s
   refine ac h (aj (h.ev rfl)) rfl ?_;intro f h
   refine ai ?_
   refine hK12 _ _ ?_
   refine wpIn_ret ?_
   exact bS 2 rfl h s a7 rfl rfl (rfl) rfl (.inr ⟨kA r0 l0,v22,_,ks,rfl,x7 hnk,s.sel [1,0] rfl (by decide)⟩)
theorem sI (L:List N3) (vo:Value) (no:Int) (w:World) (hO:cI w vo L) (hL:L.length≤40) (hb:RwB L):Calls Tryz.prog 28 [.agg #[vo],.int .i64 no].toArray w (cO w (xH w (fU vo L) (zR L no) (cE L no))):=(qk L vo no w hO hL hb).mono fun e w9 h=>by
 obtain ⟨v,h1,h2,h3⟩:=h
 exact ⟨v,h1,h2.any h3,h3⟩
end Go.Proofs.YthggibfkgofncaaGreat
