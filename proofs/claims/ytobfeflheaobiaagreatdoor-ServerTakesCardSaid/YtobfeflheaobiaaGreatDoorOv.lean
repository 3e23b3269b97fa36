/- Overlays: rows of nodes, each with its rows: which may be, which are stable, what tending, coming, leaving and failing make of them, that what may be stays such; overlays that come in; no Go in it. -/
import Derived.Test.YtobfeflheaobiaaGreatDoorNd
set_option linter.unusedVariables false
set_option linter.unusedSimpArgs false
set_option linter.unusedSectionVars false
namespace Go.Proofs.YtobfeflheaobiaaGreatDoor
open Go.RowKit
theorem Js {a b:Nd} (h1:a.me=b.me) (h2:a.pr=b.pr) (h3:a.sc=b.sc) (h4:a.fg=b.fg):a=b:=by cases a;cases b;simp_all
instance:DecidableEq Nd:=fun a b=>
 if h:a.me=b.me∧a.pr=b.pr∧a.sc=b.sc∧a.fg=b.fg then .isTrue (Js h.1 h.2.1 h.2.2.1 h.2.2.2) else .isFalse fun e=>h (by subst e;exact ⟨rfl,rfl,rfl,rfl⟩)
def Cv (w:World) (v:Value) (L:List N3):Prop:=bI w v 68 L.length (gC L)∧∀ x∈L,HX w x
theorem HX.keep {w w':World} {x:N3} (h:HX w x) (e:Ext w w'):HX w' x:=⟨h.1.keep e,h.2.keep e⟩
theorem Cv.keep {w w':World} {v:Value} {L:List N3} (h:Cv w v L) (e:Ext w w'):Cv w' v L:=⟨h.1.keep e,fun x hx=>(h.2 x hx).keep e⟩
abbrev nds (L:List N3):List Nd:=L.map (·.1)
theorem HX.ones {w:World} {x:N3} (h:HX w x):x.2.1.oneCell'=true∧x.2.2.oneCell'=true:=⟨bs h.1,bs h.2⟩
theorem JF {w:World} {v:Value} {L:List N3} (h:bI w v 68 L.length (gC L)) (k:Nat) (hk:k≤L.length):bI w (dQ v k) 68 (L.take k).length (gC (L.take k)):=by
 have:=h.cut k hk
 unfold gC at this
 rw [kA _ 68 FX] at this
 rw [List.length_take,Nat.min_eq_left hk]
 exact this
theorem Cv.take {w:World} {v:Value} {L:List N3} (h:Cv w v L) (k:Nat) (hk:k≤L.length):Cv w (dQ v k) (L.take k):=⟨JF h.1 k hk,fun x hx=>h.2 x (List.mem_of_mem_take hx)⟩
theorem Ho (w:World):Cv w aI []:=⟨⟨rfl,.inl ⟨rfl,rfl⟩⟩,fun _ h=>by cases h⟩
theorem St.weak {w0 w:World} {ks:List Nat} {S S':World→Prop} {B:List Own} (s:St w0 (.grp ks S::B) w) (h:∀ w',S w'→S' w'):St w0 (.grp ks S'::B) w:=by
 refine ⟨s.ext,fun p hp=>?_,fun p hp k hk=>?_,?_⟩
 ·rcases List.mem_cons.1 hp with rfl|hp
  ·have h0:=s.has _ List.mem_cons_self
   exact ⟨h0.1,fun w' hw=>h w' (h0.2 w' hw)⟩
  ·exact s.has p (List.mem_cons_of_mem _ hp)
 ·rcases List.mem_cons.1 hp with rfl|hp
  ·exact s.own _ List.mem_cons_self k hk
  ·exact s.own p (List.mem_cons_of_mem _ hp) k hk
 ·have hpw:=List.pairwise_cons.1 s.nd
  exact List.pairwise_cons.2 ⟨fun q hq k hk=>hpw.1 q hq k hk,hpw.2⟩
theorem St.getG {w0 w:World} {ks:List Nat} {S:World→Prop} {B:List Own} (s:St w0 B w) (i:Nat) (hi:B[i]? = some (.grp ks S)):S w:=(s.has _ (List.mem_of_getElem? hi)).2 w fun _ _=>rfl
def I3 (w:World) (R:World→Prop) (E:List Nd):cW:=fun v w'=>∃ vo L ks,v=.agg #[vo]∧nds L=E∧St w [.grp ks fun w9=>R w9→Cv w9 vo L] w'
abbrev Ld (L:List N3):World→Prop:=fun w9=>∀ x∈L,HX w9 x
theorem Ge {w w':World} {B:List Own} {R:World→Prop} (s:St w B w'):I3 w R [] (.agg #[aI]) w':=by
 refine ⟨aI,[],_,rfl,rfl,(St.group (A:=[]) (B:=[]) (s.pick [] (List.nil_sublist _))).weak fun w9 _ _=>Ho w9⟩
abbrev lq (L:List N3):List Mb:=L.map (·.1.me)
def pU (n:Nd):List Mb:=n.pr::(n.sc++n.fg)
def qD (l:List Mb) (no:Int):Bool:=decide ((Gy l no).1=no) && decide (0≤no)
theorem Be {l:List Mb} {no:Int} (hn:∀ m∈l,0≤m.1):qD l no=true↔∃ m∈l,m.1=no:=by
 unfold qD Gy
 rw [Bool.and_eq_true,decide_eq_true_eq,decide_eq_true_eq]
 rcases G7 (l:=l) (no:=no) with h|⟨m,h,hm,hno⟩
 ·rw [h]
  constructor
  ·rintro ⟨h1,h2⟩
   have h1:(-1:Int)=no:=h1
   omega
  ·rintro ⟨m,hm,hno⟩
   exact absurd (decide_eq_true hno) (List.find?_eq_none.1 h m hm)
 ·rw [h]
  exact ⟨fun _=>⟨m,hm,hno⟩,fun _=>⟨hno,by have:=hn m hm;omega⟩⟩
def Pz:Nd:=⟨Jo,yy,[],[]⟩
def PH:N3:=(Pz,aI,aI)
def He (L:List N3) (no:Int):N3:=(L.find? fun x=>decide (x.1.me.1=no)).getD PH
def Hi (E:List Nd) (no:Int):List Nd:=E.filter fun x=>decide (x.me.1≠no)
def oA (x:N3) (p:List N3 × Bool) (y:N3):List N3 × Bool:=
 let q:=bif !p.2 && decide (x.1.me.1≤y.1.me.1) then (p.1++[x],true) else p
 bif decide (y.1.me.1≠x.1.me.1) then (q.1++[y],q.2) else q
def uY (x:N3) (L:List N3):List N3 × Bool:=L.foldl (oA x) ([],false)
def uS (L:List N3) (x:N3):List N3:=bif (uY x L).2 then (uY x L).1 else (uY x L).1++[x]
theorem FS {x:N3} {p:List N3 × Bool} {y z:N3} (h:z∈(oA x p y).1):z∈p.1∨z=x∨z=y:=by
 unfold oA at h
 have key:∀ q:List N3 × Bool,(z∈q.1→z∈p.1∨z=x∨z=y)→z∈(bif decide (y.1.me.1≠x.1.me.1) then (q.1++[y],q.2) else q).1→z∈p.1∨z=x∨z=y:=fun q hq h=>by
  cases h2:decide (y.1.me.1≠x.1.me.1) with
  |true=>
   rw [h2] at h
   rcases List.mem_append.1 h with h|h
   ·exact hq h
   ·exact .inr (.inr (List.mem_singleton.1 h))
  |false=>rw [h2] at h;exact hq h
 refine key _ (fun h=>?_) h
 cases h1 : !p.2 && decide (x.1.me.1≤y.1.me.1) with
 |true=>
  rw [h1] at h
  rcases List.mem_append.1 h with h|h
  ·exact .inl h
  ·exact .inr (.inl (List.mem_singleton.1 h))
 |false=>rw [h1] at h;exact .inl h
theorem zm {x z:N3}:∀ {L:List N3},z∈(uY x L).1→z=x∨z∈L:=fun {L}=>by
 unfold uY
 suffices h:∀ (L:List N3) (p:List N3 × Bool),z∈(L.foldl (oA x) p).1→z∈p.1∨z=x∨z∈L by
  intro h9;rcases h L ([],false) h9 with h|h
  ·cases h
  ·exact h
 intro L
 induction L with
 |nil=>intro p h;exact .inl h
 |cons y L ih=>
  intro p h
  rcases ih _ h with h|h|h
  ·rcases FS h with h|h|h
   ·exact .inl h
   ·exact .inr (.inl h)
   ·exact .inr (.inr (by rw [h];exact List.mem_cons_self))
  ·exact .inr (.inl h)
  ·exact .inr (.inr (List.mem_cons_of_mem _ h))
theorem Kv {x z:N3} {L:List N3} (h:z∈uS L x):z=x∨z∈L:=by
 unfold uS at h
 cases hb:(uY x L).2 with
 |true=>rw [hb] at h;exact zm h
 |false=>
  rw [hb] at h
  rcases List.mem_append.1 h with h|h
  ·exact zm h
  ·exact .inl (List.mem_singleton.1 h)
theorem LD {x:N3} {p:List N3 × Bool} {y:N3} (hb:p.2=false) (h1:decide (x.1.me.1≤y.1.me.1)=true) (h2:decide (y.1.me.1≠x.1.me.1)=false):oA x p y=(p.1++[x],true):=by unfold oA;rw [hb,h1,h2];rfl
theorem HU {x:N3} {p:List N3 × Bool} {y:N3} (h:p.2=true∨decide (x.1.me.1≤y.1.me.1)=false) (h2:decide (y.1.me.1≠x.1.me.1)=true):oA x p y=(p.1++[y],p.2):=by
 have h1:(!p.2 && decide (x.1.me.1≤y.1.me.1))=false:=by rcases h with h|h<;>simp [h]
 unfold oA;rw [h1,h2];rfl
structure FewO (L:List N3):Prop where
 len:L.length≤18
 each:∀ x∈L,x.1.sc.length≤6∧x.1.fg.length≤18
section
variable {P:Program} {ρ:Operand→Value} {d:Option Tmp} {ty:TypeId} {pos:String} {af:Array Edge} {g:Option (Nat × Bool)} {x:Operand} {t:TypeId}
end
def Pg (w:World) (N:TypeId) (K:List N3):cW:=fun v w'=>∃ vo,v=.agg #[vo]∧cB w' w.heap.size N 68 vo K.length (gC K)
structure RwB (L:List N3):Prop where
 each:∀ x∈L,x.1.sc.length≤300∧x.1.fg.length≤300
def OY (l:List Mb) (m:Mb):Bool:=decide (0≤(Gy l m.1).1) && !decide (Gy l m.1=m)
def Oy (L:List N3) (k:Nat):Bool := !Dr (L.getD k z3).1 || ((decide (0<k) && decide ((L.getD k z3).1.me.1≤(L.getD (k - 1) z3).1.me.1)) || (pU (L.getD k z3).1).any (OY (lq L)))
def Ps (L:List N3):Bool:=((List.range L.length).all fun k => !Oy L k) && KA (lq L)
structure RO (E:List Nd):Prop where
 rn:∀ n∈E,RN n
 inc:E.Pairwise fun a b=>a.me.1<b.me.1
 kn:∀ n∈E,∀ m∈pU n,∀ s∈E,s.me.1=m.1→s.me=m
 ring:Rg (E.map (·.me))
theorem GB {w w':World} {R:World→Prop} {E:List Nd} {vo:Value} {L:List N3} {A:List Own} (hE:nds L=E) (h:∀ w9,(∀ p∈A,p.holds w w9)→R w9→Cv w9 vo L) (s:St w A w'):I3 w R E (.agg #[vo]) w':=by
 refine ⟨vo,L,_,rfl,hE,(St.group (A:=A) (B:=[]) (by rw [List.append_nil];exact s)).weak fun w9 h9 hR=>h w9 h9 hR⟩
theorem Hm {x:N3} {acc:List N3} {y:N3} (h:y.1.me.1<x.1.me.1):oA x (acc,false) y=(acc++[y],false):=
 HU (.inr (decide_eq_false (by omega))) (decide_eq_true (by omega))
theorem Ft {x:N3} {acc:List N3} {y:N3} (h:y.1.me.1=x.1.me.1):oA x (acc,false) y=(acc++[x],true):=
 LD rfl (decide_eq_true (by omega)) (decide_eq_false (by omega))
theorem EW {x:N3} {acc:List N3} {y:N3} (h:x.1.me.1<y.1.me.1):oA x (acc,true) y=(acc++[y],true):=
 HU (.inl rfl) (decide_eq_true (by omega))
theorem yx {x:N3}:∀ (A acc:List N3),(∀ y∈A,y.1.me.1<x.1.me.1)→A.foldl (oA x) (acc,false)=(acc++A,false)
 |[],acc,_=>by rw [List.append_nil];rfl
 |y::A,acc,h=>by
  rw [List.foldl_cons,Hm (h y List.mem_cons_self),yx A _ fun z hz=>h z (List.mem_cons_of_mem _ hz),List.append_assoc];rfl
theorem zf {x:N3}:∀ (A acc:List N3),(∀ y∈A,x.1.me.1<y.1.me.1)→A.foldl (oA x) (acc,true)=(acc++A,true)
 |[],acc,_=>by rw [List.append_nil];rfl
 |y::A,acc,h=>by
  rw [List.foldl_cons,EW (h y List.mem_cons_self),zf A _ fun z hz=>h z (List.mem_cons_of_mem _ hz),List.append_assoc];rfl
theorem FU {A B:List N3} {x y:N3} (hA:∀ z∈A,z.1.me.1<x.1.me.1) (hy:y.1.me.1=x.1.me.1) (hB:∀ z∈B,x.1.me.1<z.1.me.1):uS (A++y::B) x=A++x::B:=by
 have:uY x (A++y::B)=(A++x::B,true):=by
  unfold uY
  rw [List.foldl_append,yx A [] hA,List.nil_append,List.foldl_cons,Ft hy,zf B _ hB,List.append_assoc];rfl
 unfold uS;rw [this];rfl
structure RS (L:List N3):Prop where
 rn:∀ x∈L,RN x.1
 inc:L.Pairwise fun a b=>a.1.me.1<b.1.me.1
 ring:Rg (lq L)
theorem RO.rs {L:List N3} (h:RO (nds L)):RS L:=by
 refine ⟨fun x hx=>h.rn _ (List.mem_map.2 ⟨x,hx,rfl⟩),?_,?_⟩
 ·have:=h.inc
  unfold nds at this
  rwa [List.pairwise_map] at this
 ·have:=h.ring
  unfold nds at this
  rw [List.map_map] at this;exact this
theorem RS.put {L:List N3} (h:RS L) {x y:N3} (hy:y∈L) (he:y.1.me=x.1.me) (hx:RN x.1):RS (uS L x)∧lq (uS L x)=lq L∧x∈uS L x:=by
 obtain ⟨A,B,rfl⟩:=List.append_of_mem hy
 have hp:=List.pairwise_append.1 h.inc
 have hp2:=List.pairwise_cons.1 hp.2.1
 have hno:y.1.me.1=x.1.me.1:=by rw [he]
 have e:=FU (x:=x) (fun z hz=>by rw [← hno];exact hp.2.2 z hz y List.mem_cons_self) hno (fun z hz=>by rw [← hno];exact hp2.1 z hz)
 have em:lq (A++x::B)=lq (A++y::B):=by simp [lq,he]
 rw [e]
 refine ⟨⟨fun z hz=>?_,?_,?_⟩,em,by simp⟩
 ·rcases List.mem_append.1 hz with hz|hz
  ·exact h.rn z (List.mem_append_left _ hz)
  ·rcases List.mem_cons.1 hz with rfl|hz
   ·exact hx
   ·exact h.rn z (List.mem_append_right _ (List.mem_cons_of_mem _ hz))
 ·rw [List.pairwise_append,List.pairwise_cons]
  refine ⟨hp.1,⟨fun z hz=>by rw [← hno];exact hp2.1 z hz,hp2.2⟩,fun a ha b hb=>?_⟩
  rcases List.mem_cons.1 hb with rfl|hb
  ·rw [← hno];exact hp.2.2 a ha y List.mem_cons_self
  ·exact hp.2.2 a ha b (List.mem_cons_of_mem _ hb)
 ·rw [em];exact h.ring
theorem RS.nos {L:List N3} (h:RS L):∀ m∈lq L,0≤m.1:=fun m hm=>(h.ring.nos m hm).1
theorem RS.len {L:List N3} (h:RS L):L.length≤16:=by
 have:=h.ring.len
 simpa [lq] using this
theorem RS.get {L:List N3} (h:RS L) {no:Int} (hl:qD (lq L) no=true):He L no∈L∧(He L no).1.me.1=no:=by
 obtain ⟨m,hm,hno⟩:=(Be h.nos).1 hl
 obtain ⟨x,hx,rfl⟩:=List.mem_map.1 hm
 unfold He
 cases hf:L.find? fun x=>decide (x.1.me.1=no) with
 |none=>exact absurd (decide_eq_true hno) (List.find?_eq_none.1 hf x hx)
 |some z=>exact ⟨List.mem_of_find?_eq_some hf,by have:=List.find?_some hf;exact of_decide_eq_true this⟩
def Ox (l:List Mb) (n:Nd):List Int:=((pU n).filter fun m => !qD l m.1).map (·.1)
def NV (l:List Mb) (n:Nd):Nd:=⟨n.me,PS n (Ox l n),PG (Cm n.sc (Ox l n) n.me.1) n.me,Cm n.fg (Ox l n) n.me.1⟩
def Lu (E:List Nd):List Mb:=E.map (·.me)
theorem yu (L:List N3):Lu (nds L)=lq L:=by unfold Lu nds;rw [List.map_map];rfl
theorem St.grp0 {w0 w:World} {B:List Own} {S:World→Prop} (s:St w0 B w) (h:∀ w9,S w9):St w0 (.grp [] S::B) w:=
 (St.group (A:=[]) (B:=B) s).weak fun w9 _=>h w9
theorem St.merge {w0 w:World} {k1 k2:List Nat} {S1 S2 S:World→Prop} {B:List Own} (s:St w0 (.grp k1 S1::.grp k2 S2::B) w) (h:∀ w9,S1 w9→S2 w9→S w9):St w0 (.grp (k1++k2) S::B) w:=by
 have g:=St.group (A:=[.grp k1 S1,.grp k2 S2]) (B:=B) s
 have e:[Own.grp k1 S1,.grp k2 S2].flatMap Own.ks=k1++k2:=by simp [Own.ks]
 unfold Own.all at g
 rw [e] at g
 exact g.weak fun w9 h9=>h w9 ((h9 (.grp k1 S1) (by simp)).2 w9 fun _ _=>rfl) ((h9 (.grp k2 S2) (by simp)).2 w9 fun _ _=>rfl)
theorem Nn {w w':World} {N:TypeId} {R:World→Prop} {E:List Nd} {vo:Value} {L:List N3} {ks:List Nat} (hE:nds L=E) (s:St w [.sl vo N 68 L.length (gC L),.grp ks (Ld L)] w'):I3 w R E (.agg #[vo]) w':=
 GB hE (fun w9 h9 _=>⟨bI.of_own (h9 (.sl vo N 68 L.length (gC L)) (by simp)),(h9 (.grp ks (Ld L)) (by simp)).2 w9 fun _ _=>rfl⟩) s
theorem St.grpR {w0 w:World} {a b:Value} {M N:TypeId} {sa sb n m:Nat} {xs ys:List Value} {ks:List Nat} {S S':World→Prop} {B:List Own} (s:St w0 (.sl a M sa n xs::.sl b N sb m ys::.grp ks S::B) w) (h:∀ w9,bI w9 a sa n xs→bI w9 b sb m ys→S w9→S' w9):∃ kn,St w0 (.grp kn S'::B) w:=
 ⟨_,(St.group (A:=[.sl a M sa n xs,.sl b N sb m ys,.grp ks S]) (B:=B) s).weak fun w9 h9=>h w9 (bI.of_own (h9 (.sl a M sa n xs) (by simp))) (bI.of_own (h9 (.sl b N sb m ys) (by simp))) ((h9 (.grp ks S) (by simp)).2 w9 fun _ _=>rfl)⟩
def MO (w:World) (R:World→Prop) (E:List Nd) (k:Int):cW:=fun v w'=>∃ o,v=.tuple #[o,.int .i64 k]∧I3 w R E o w'
theorem JW {w w':World} {B:List Own} {R:World→Prop} {E:List Nd} {k q:Int} (s:St w B w') (hE:E=[]) (hk:k=q):MO w R E k (.tuple #[.agg #[aI],.int .i64 q]) w':=by
 subst hE;subst hk;exact ⟨_,rfl,Ge s⟩
theorem IH {w w':World} {R:World→Prop} {E:List Nd} {k q:Int} {o:Value} (hk:k=q) (h:I3 w R E o w'):MO w R E k (.tuple #[o,.int .i64 q]) w':=by
 subst hk;exact ⟨_,rfl,h⟩
def cE (L:List N3) (no:Int):Int:=bif Ps L then bif qD (lq L) no then 0 else 10 else 1
def Mw (L:List N3) (no:Int):List Nd:=bif decide (cE L no=0) then Hi (nds L) no else []
abbrev PB (vo:Value) (L:List N3):World→Prop:=fun w9=>Cv w9 vo L
structure BdE (E:List Nd):Prop where
 len:E.length≤40
 each:∀ n∈E,n.sc.length≤300∧n.fg.length≤300
theorem BdE.l {L:List N3} {E:List Nd} (h:BdE E) (e:nds L=E):L.length≤40:=by subst e;have:=h.len;simpa [nds] using this
theorem BdE.r {L:List N3} {E:List Nd} (h:BdE E) (e:nds L=E):RwB L:=by subst e;exact ⟨fun x hx=>h.each _ (List.mem_map.2 ⟨x,hx,rfl⟩)⟩
theorem No {L:List N3} {no k:Int} (h:cE L no=k) (h0:k≠0):Mw L no=[]:=by unfold Mw;rw [decide_eq_false (by rw [h];exact h0)];rfl
theorem LZ {L:List N3} {no:Int} (h:cE L no=0):Mw L no=Hi (nds L) no:=by unfold Mw;rw [decide_eq_true h];rfl
def K7 (E:List Nd):cW:=fun v w=>∃ vo L,v=.agg #[vo]∧nds L=E∧Cv w vo L
theorem K7.mono (E:List Nd):my (K7 E):=fun _ _ _ ⟨vo,L,h1,h2,h3⟩ hE=>⟨vo,L,h1,h2,h3.keep hE⟩
theorem I3.d {w w':World} {R:World→Prop} {E:List Nd} {v:Value} (h:I3 w R E v w') (hR:R w'):K7 E v w':=by
 obtain ⟨vo,L,ks,h1,h2,h3⟩:=h
 exact ⟨vo,L,h1,h2,h3.getG 0 rfl hR⟩
theorem Pg.d {w w':World} {N:TypeId} {K:List N3} {E:List Nd} {v:Value} (h:Pg w N K v w') (e:nds K=E) (hr:∀ y∈K,HX w' y):K7 E v w':=by
 obtain ⟨vo,h1,h2⟩:=h
 exact ⟨vo,K,h1,e,bI.of_own h2,hr⟩
def Jb (E:List Nd) (k:Int):cW:=fun v w=>∃ o,v=.tuple #[o,.int .i64 k]∧K7 E o w
theorem Jb.mono (E:List Nd) (k:Int):my (Jb E k):=fun _ _ _ ⟨o,h1,h2⟩ hE=>⟨o,h1,K7.mono E _ _ _ h2 hE⟩
theorem MO.d {w w':World} {R:World→Prop} {E:List Nd} {k:Int} {v:Value} (h:MO w R E k v w') (hR:R w'):Jb E k v w':=by
 obtain ⟨o,h1,h2⟩:=h
 exact ⟨o,h1,h2.d hR⟩
def O5 (l:List Mb) (m:Mb):Prop:=∀ s∈l,s.1=m.1→s=m
structure RK (L:List N3):Prop where
 rs:RS L
 kn:∀ x∈L,∀ m∈pU x.1,O5 (lq L) m
theorem RK.put {L:List N3} (h:RK L) {x y:N3} (hy:y∈L) (he:y.1.me=x.1.me) (hx:RN x.1) (hk:∀ m∈pU x.1,O5 (lq L) m):RK (uS L x):=by
 obtain ⟨h1,h2,_⟩:=h.rs.put hy he hx
 refine ⟨h1,fun z hz m hm=>?_⟩
 rw [h2]
 rcases Kv hz with rfl|hz
 ·exact hk m hm
 ·exact h.kn z hz m hm
end Go.Proofs.YtobfeflheaobiaaGreatDoor
namespace Go.Proofs.YtobfeflheaobiaaGreatDoor
open Go.RowKit Go.ChangeShapes Go.WideShapes Go.ChangeAt
end Go.Proofs.YtobfeflheaobiaaGreatDoor
