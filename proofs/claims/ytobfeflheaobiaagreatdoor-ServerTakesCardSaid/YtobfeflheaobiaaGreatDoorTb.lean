/- Triggers and tables: which may be, which is below which, what is put, dropped, over, matched and cut; what may be stays such, parts put together, and in whatever order; triggers that come in; no Go in it. -/
import Derived.Test.YtobfeflheaobiaaGreatDoorLk
set_option linter.unusedVariables false
set_option linter.unusedSimpArgs false
set_option linter.unusedSectionVars false
namespace Go.Proofs.YtobfeflheaobiaaGreatDoor
open Go.RowKit
abbrev Tg:=Id × cU × Int
def lH (t:Tg):List Value:=(aA t.1).toList++((bg t.2.1).toList++[.int .i64 t.2.2])
def aB (t:Tg):Array Value:=(lH t).toArray
def aW:Tg:=(0#256,(0,0#256,0),0)
theorem fQ (t:Tg):(lH t).length=67:=by simp [lH,aC]
theorem ao (t:Tg):(aB t).size=67:=by simp [aB,fQ]
theorem nB (t:Tg):∀ v∈lH t,v.oneCell'=true:=fun v hv=>by
 unfold lH at hv
 rcases List.mem_append.1 hv with hv|hv
 ·rw [d4] at hv;exact bc _ _ v hv
 ·rcases List.mem_append.1 hv with hv|hv
  ·exact fD _ v hv
  ·rw [List.mem_singleton] at hv;subst hv;rfl
theorem bm (t:Tg):∀ v∈(aB t).toList,v.oneCell'=true:=nB t
theorem fy (x:Id):(aA x).toList.length=32:=by simp
theorem mY (e:cU):(bg e).toList.length=34:=by rw [Array.length_toList,aC]
theorem vA (t:Tg):((aB t).toList.drop 0).take 32=(aA t.1).toList:=by
 show ((lH t).drop 0).take 32=_
 unfold lH
 rw [List.drop_zero,List.take_left' (fy _)]
theorem wh (t:Tg):((aB t).toList.drop 32).take 34=(bg t.2.1).toList:=by
 show ((lH t).drop 32).take 34=_
 unfold lH
 rw [List.drop_left' (fy _),List.take_left' (mY _)]
theorem zy (t:Tg):((aB t).toList.drop 66).take 1=[Value.int .i64 t.2.2]:=by
 show ((lH t).drop 66).take 1=_
 unfold lH
 rw [← List.append_assoc,List.drop_left' (by rw [List.length_append,fy,mY])];rfl
theorem je (L:List Value) (C:Array Value) (a n:Nat) (h:(L.drop a).take n=C.toList):L.toArray.extract a (a+n)=C:=by
 apply Array.ext'
 rw [Array.toList_extract,List.extract_eq_take_drop,Nat.add_sub_cancel_left]
 exact h
theorem dV (t:Tg):(aB t).extract 0 (0+32)=aA t.1:=je _ _ _ _ (vA t)
theorem iT (t:Tg):(aB t).extract 32 (32+34)=bg t.2.1:=je _ _ _ _ (wh t)
theorem md (t:Tg):(aB t).extract 33 (33+32)=aA t.2.1.2.1:=je _ _ _ _ (by
 show ((lH t).drop 33).take 32=_
 unfold lH
 rw [show 33=32+1 from rfl,← List.drop_drop,List.drop_left' (fy _),eS,List.cons_append,List.drop_succ_cons,List.drop_zero,List.append_assoc,List.take_left' (fy _)])
theorem gI (t:Tg):(aB t)[32]? = some (.int .i64 t.2.1.1):=by
 unfold aB lH
 rw [List.getElem?_toArray,List.getElem?_append_right (by rw [fy];exact Nat.le_refl _),fy,eS];rfl
theorem j8 (t:Tg):(aB t)[65]? = some (.int .i64 t.2.1.2.2):=by
 unfold aB lH
 rw [List.getElem?_toArray,List.getElem?_append_right (by rw [fy];omega),fy,List.getElem?_append_left (by rw [mY];omega)]
 have:=dO t.2.1
 rw [← Array.getElem?_toList] at this
 exact this
theorem dD (t:Tg):(aB t)[66]? = some (.int .i64 t.2.2):=by
 unfold aB lH
 rw [List.getElem?_toArray,← List.append_assoc,List.getElem?_append_right (by rw [List.length_append,fy,mY];exact Nat.le_refl _),List.length_append,fy,mY];rfl
theorem Af {x y:Tg} (h:(aB x).toList=(aB y).toList):x=y:=by
 have h0:=vA x;rw [h,vA] at h0
 have h1:=wh x;rw [h,wh] at h1
 have h2:=zy x;rw [h,zy] at h2
 refine Prod.ext (rW (Array.toList_inj.1 h0)).symm (Prod.ext (we h1).symm ?_)
 simpa using h2.symm
theorem Gw (x y:Tg):decide (x=y)=true↔(aB x).toList=(aB y).toList:=by
 rw [decide_eq_true_eq];exact ⟨fun h=>by rw [h],Af⟩
def Bk:List (List Value):=[List.replicate 32 (.int .u8 0),.int .i64 0::(List.replicate 32 (.int .u8 0)++[.int .i64 0]),[.int .i64 0]]
theorem tZ:aB aW=Bk.flatten.toArray:=by
 unfold aB lH aW;rw [gR,gT];rfl
def aJ (l:List Tg):List Value:=l.flatMap lH
theorem vS (l:List Tg):(aJ l).length=l.length*67:=jC _ 67 fQ l
theorem gl (l r:List Tg):aJ (l++r)=aJ l++aJ r:=List.flatMap_append
theorem jg (t:Tg):aJ [t]=(aB t).toList:=by simp [aJ,aB]
theorem nj (l:List Tg):∀ u∈aJ l,u.oneCell'=true:=fun u hu=>by
 obtain ⟨x,_,hx⟩:=List.mem_flatMap.1 hu
 exact nB x u hx
theorem lN (m:Tg):∀ v∈([.agg (aB m)]:List Value),v.cells.size=67:=fun v hv=>by
 rw [List.mem_singleton] at hv;subst hv;exact ao m
theorem eC (m:Tg):([Value.agg (aB m)].flatMap fun v=>v.cells.toList)=(aB m).toList:=by simp [Value.cells]
theorem hQ (l:List Tg) (x:Tg):aJ l++(aB x).toList=aJ (l++[x]):=by rw [gl,jg]
theorem uy {l:List Tg} {j:Nat} (hj:j<l.length):l[j]=l.getD j aW:=by
 rw [List.getD_eq_getElem?_getD,List.getElem?_eq_getElem hj];rfl
theorem dX (l:List Tg) (j:Nat) (hj:j<l.length):(((aJ l).drop (j*67)).take 67).toArray=aB (l.getD j aW):=by
 unfold aJ
 rw [lS _ 67 fQ l j hj,uy hj];rfl
theorem jy {l:List Tg} {j:Nat} (hj:j<l.length):l.getD j aW∈l:=by rw [← uy hj];exact List.getElem_mem hj
theorem zL {l:List Tg} {x:Tg} (h:x∈l):∃ j,j<l.length∧l.getD j aW=x:=by
 obtain ⟨j,hj,rfl⟩:=List.mem_iff_getElem.1 h
 exact ⟨j,hj,(uy hj).symm⟩
theorem kw {w:World} {v:Value} {l:List Tg} (h:bI w v 67 l.length (aJ l)) (k:Nat) (hk:k≤l.length):bI w (dQ v k) 67 (l.take k).length (aJ (l.take k)):=by
 have:=h.cut k hk
 unfold aJ at this
 rw [kA _ 67 fQ] at this
 rw [List.length_take,Nat.min_eq_left hk]
 exact this
theorem gB {l:List Tg} {d:Nat} (hd:d<l.length):l.take (d+1)=l.take d++[l.getD d aW]:=by rw [List.take_succ_eq_append_getElem hd,uy hd]
def ge (t:Tg):Bool:=fK t.2.1 && (decide (0≤t.2.2) && decide (t.2.2≤1099511627776))
def jA (a b:Tg):Prop:=a.1.toNat<b.1.toNat∨(a.1=b.1∧(a.2.1.1<b.2.1.1∨(a.2.1.1=b.2.1.1∧(a.2.1.2.1.toNat<b.2.1.2.1.toNat∨(a.2.1.2.1=b.2.1.2.1∧a.2.1.2.2<b.2.1.2.2)))))
instance (a b:Tg):Decidable (jA a b):=by unfold jA;infer_instance
def fV (a b:Tg):Bool:=decide (jA a b)
def ln (a b:Tg):Prop:=a.1=b.1∧a.2.1=b.2.1
instance (a b:Tg):Decidable (ln a b):=by unfold ln;infer_instance
theorem nw {a b:Id}:a=b↔a.toNat=b.toNat:=BitVec.toNat_inj.symm
theorem xp {a b:cU}:a=b↔a.1=b.1∧a.2.1=b.2.1∧a.2.2=b.2.2:=⟨fun h=>by rw [h];exact ⟨rfl,rfl,rfl⟩,fun ⟨h1,h2,h3⟩=>Prod.ext h1 (Prod.ext h2 h3)⟩
theorem wU (a:Tg):¬ jA a a:=by unfold jA;omega
theorem ik {a b c:Tg} (h:jA a b) (g:jA b c):jA a c:=by
 unfold jA at *
 simp only [nw] at *
 omega
theorem BS (a b:Tg):jA a b∨ln a b∨jA b a:=by
 unfold jA ln
 simp only [xp,nw]
 omega
theorem q9 {a b:Tg} (h:jA a b):¬ ln a b:=by
 unfold jA at h;unfold ln
 simp only [xp,nw] at *
 omega
theorem qG {a b:Tg} (h:jA a b):¬ ln b a:=fun g=>q9 h ⟨g.1.symm,g.2.symm⟩
theorem Cz {a b c:Tg} (h:ln a b):(jA a c↔jA b c)∧(jA c a↔jA c b):=by
 unfold jA
 rw [h.1,h.2];exact ⟨Iff.rfl,Iff.rfl⟩
theorem ln.symm {a b:Tg} (h:ln a b):ln b a:=⟨h.1.symm,h.2.symm⟩
theorem ln.trans {a b c:Tg} (h:ln a b) (g:ln b c):ln a c:=⟨h.1.trans g.1,h.2.trans g.2⟩
def sf (l:List Tg):Prop:=l.Pairwise jA
theorem Ja {l:List Tg} (h:sf l) {a b:Tg} (ha:a∈l) (hb:b∈l) (e:ln a b):a=b:=by
 obtain ⟨i,hi,rfl⟩:=List.mem_iff_getElem.1 ha
 obtain ⟨j,hj,rfl⟩:=List.mem_iff_getElem.1 hb
 rcases Nat.lt_trichotomy i j with g|g|g
 ·exact absurd e (q9 (List.pairwise_iff_getElem.1 h i j hi hj g))
 ·subst g;rfl
 ·exact absurd e (qG (List.pairwise_iff_getElem.1 h j i hj hi g))
theorem sf.filter {l:List Tg} (h:sf l) (p:Tg→Bool):sf (l.filter p):=List.Pairwise.filter p h
def MS (l:List Tg) (k:Nat):Bool:=decide (k=0) || fV (l.getD (k - 1) aW) (l.getD k aW)
def xA (l:List Tg) (k:Nat):Bool:=ge (l.getD k aW) && MS l k
def ce (l:List Tg):Bool:=(List.range l.length).all (xA l) && decide (l.length≤32)
structure RT (l:List Tg):Prop where
 may:∀ y∈l,ge y=true
 srt:sf l
 len:l.length≤32
theorem fa {l:List Tg}:ce l=true↔RT l:=by
 unfold ce
 rw [Bool.and_eq_true,List.all_eq_true,decide_eq_true_eq]
 constructor
 ·rintro ⟨h1,h2⟩
  have hok:∀ k,k<l.length→xA l k=true:=fun k hk=>h1 k (List.mem_range.2 hk)
  refine ⟨fun y hy=>?_,?_,h2⟩
  ·obtain ⟨j,hj,rfl⟩:=zL hy
   have:=hok j hj
   unfold xA at this
   exact(Bool.and_eq_true _ _▸this:_∧_).1
  ·have hs:∀ k,k+1<l.length→jA (l.getD k aW) (l.getD (k+1) aW):=fun k hk=>by
    have:=hok (k+1) hk
    unfold xA MS at this
    rw [Bool.and_eq_true,decide_eq_false (by omega),Bool.false_or] at this
    exact of_decide_eq_true this.2
   have key:∀ d i,i+d+1<l.length→jA (l.getD i aW) (l.getD (i+d+1) aW):=fun d=>by
    induction d with
    |zero=>intro i hi;exact hs i hi
    |succ d ih=>intro i hi;exact ik (ih i (by omega)) (hs (i+d+1) hi)
   unfold sf
   rw [List.pairwise_iff_getElem]
   intro i j hi hj hij
   have:=key (j - i - 1) i (by omega)
   rw [show i+(j - i - 1)+1=j by omega] at this
   rw [uy hi,uy hj];exact this
 ·rintro ⟨h1,h2,h3⟩
  refine ⟨fun k hk=>?_,h3⟩
  have hk:=List.mem_range.1 hk
  unfold xA MS
  rw [h1 _ (jy hk),Bool.true_and]
  by_cases h0:k=0
  ·rw [decide_eq_true h0];rfl
  ·rw [decide_eq_false h0,Bool.false_or]
   have:=List.pairwise_iff_getElem.1 h2 (k - 1) k (by omega) hk (by omega)
   rw [uy (by omega),uy hk] at this
   exact decide_eq_true this
theorem kc {l:List Tg} {k:Nat} (hk:k<l.length) (h:xA l k=false):ce l=false:=by
 unfold ce
 rw [Bool.and_eq_false_iff]
 exact .inl (List.all_eq_false.2 ⟨k,List.mem_range.2 hk,by rw [h];decide⟩)
theorem oG {l:List Tg} (h:∀ k,k<l.length→xA l k=true):ce l=decide (l.length≤32):=by
 unfold ce
 rw [List.all_eq_true.2 fun k hk=>h k (List.mem_range.1 hk),Bool.true_and]
def jn (i:Id) (e:cU) (y:Tg):Bool:=decide (y.1=i) && decide (y.2.1=e)
theorem fT {x y:Tg}:jn x.1 x.2.1 y=true↔ln y x:=by
 unfold jn;rw [Bool.and_eq_true,decide_eq_true_eq,decide_eq_true_eq];exact Iff.rfl
def OW:Tg:=(0#256,(0,0#256,0),-1)
def ey (l:List Tg) (i:Id) (e:cU):Tg:=(l.find? (jn i e)).getD OW
def jo (l:List Tg) (i:Id) (e:cU):List Tg:=l.filter fun y => !jn i e y
theorem vM {l:List Tg} (h:sf l) {x y:Tg} (hy:y∈l) (hs:ln y x):ey l x.1 x.2.1=y:=by
 unfold ey
 cases hf:l.find? (jn x.1 x.2.1) with
 |none=>
  have:=List.find?_eq_none.1 hf y hy
  rw [fT.2 hs] at this;exact absurd rfl this
 |some z=>
  have h1:=List.mem_of_find?_eq_some hf
  have h2:jn x.1 x.2.1 z=true:=List.find?_some hf
  exact Ja h h1 hy ((fT.1 h2).trans hs.symm)
theorem vL {l:List Tg} {x:Tg} (h:∀ y∈l,¬ ln y x):ey l x.1 x.2.1=OW:=by
 unfold ey
 rw [List.find?_eq_none.2 fun y hy=>by rw [fT];exact h y hy];rfl
theorem wJ {l:List Tg} (h:sf l) (x:Tg):(∃ y∈l,ln y x∧ey l x.1 x.2.1=y)∨((∀ y∈l,¬ ln y x)∧ey l x.1 x.2.1=OW):=by
 by_cases h9:∃ y∈l,ln y x
 ·obtain ⟨y,hy,hs⟩:=h9
  exact .inl ⟨y,hy,hs,vM h hy hs⟩
 ·have:∀ y∈l,¬ ln y x:=fun y hy hs=>h9 ⟨y,hy,hs⟩
  exact .inr ⟨this,vL this⟩
def dx (l:List Tg) (x:Tg):Tg:=bif decide (x.2.2<(ey l x.1 x.2.1).2.2) then (x.1,x.2.1,(ey l x.1 x.2.1).2.2) else x
def fE (l:List Tg) (x:Tg):List Tg:=l.takeWhile (fun y => !fV x y)++x::l.dropWhile (fun y => !fV x y)
def dL (l:List Tg) (x:Tg):List Tg:=fE (jo l x.1 x.2.1) (dx l x)
def i4 (l:List Tg) (x:Tg):Int:=bif ce l && ge x then (bif decide ((dL l x).length≤32) then 0 else 8) else 1
def lV (l:List Tg) (x:Tg):List Tg:=bif decide (i4 l x=0) then dL l x else []
theorem mL (l:List Tg) (x:Tg):ln (dx l x) x:=by unfold dx;cases decide (x.2.2<(ey l x.1 x.2.1).2.2)<;>exact ⟨rfl,rfl⟩
theorem Ck (l:List Tg) (x:Tg):(dx l x).2.2=max (ey l x.1 x.2.1).2.2 x.2.2:=by
 unfold dx
 by_cases h:x.2.2<(ey l x.1 x.2.1).2.2
 ·rw [decide_eq_true h];show (ey l x.1 x.2.1).2.2=_;omega
 ·rw [decide_eq_false h];show x.2.2=_;omega
theorem yw {l:List Tg} {x y:Tg}:y∈fE l x↔y∈l∨y=x:=by
 unfold fE
 have e:l.takeWhile (fun y => !fV x y)++l.dropWhile (fun y => !fV x y)=l:=List.takeWhile_append_dropWhile
 rw [List.mem_append,List.mem_cons]
 constructor
 ·rintro (h|h|h)
  ·exact .inl (by rw [← e];exact List.mem_append_left _ h)
  ·exact .inr h
  ·exact .inl (by rw [← e];exact List.mem_append_right _ h)
 ·rintro (h|h)
  ·rw [← e] at h
   rcases List.mem_append.1 h with h|h
   ·exact .inl h
   ·exact .inr (.inr h)
  ·exact .inr (.inl h)
theorem Fd (l:List Tg) (x:Tg):(fE l x).length=l.length+1:=by
 unfold fE
 have e:l.takeWhile (fun y => !fV x y)++l.dropWhile (fun y => !fV x y)=l:=List.takeWhile_append_dropWhile
 have:=congrArg List.length e
 rw [List.length_append] at this
 rw [List.length_append,List.length_cons];omega
theorem yB:∀ {l:List Tg} {x:Tg},sf l→(∀ y∈l,¬ ln y x)→sf (fE l x)
 |[],x,_,_=>by unfold fE;exact List.pairwise_singleton _ _
 |a::l,x,hl,hn=>by
  have h1:=List.pairwise_cons.1 hl
  by_cases h:jA x a
  ·have hb:fV x a=true:=decide_eq_true h
   have e:fE (a::l) x=x::a::l:=by unfold fE;rw [List.takeWhile_cons,List.dropWhile_cons,hb];rfl
   rw [e]
   refine List.pairwise_cons.2 ⟨fun y hy=>?_,hl⟩
   rcases List.mem_cons.1 hy with rfl|hy
   ·exact h
   ·exact ik h (h1.1 y hy)
  ·have hb:fV x a=false:=decide_eq_false h
   have e:fE (a::l) x=a::fE l x:=by unfold fE;rw [List.takeWhile_cons,List.dropWhile_cons,hb];rfl
   rw [e]
   refine List.pairwise_cons.2 ⟨fun y hy=>?_,yB h1.2 fun y hy=>hn y (List.mem_cons_of_mem _ hy)⟩
   rcases yw.1 hy with hy|rfl
   ·exact h1.1 y hy
   ·rcases BS a y with g|g|g
    ·exact g
    ·exact absurd g (hn a (List.mem_cons_self ..))
    ·exact absurd g h
theorem yU {l:List Tg} {x y:Tg}:y∈jo l x.1 x.2.1↔y∈l∧¬ ln y x:=by
 unfold jo
 rw [List.mem_filter,Bool.not_eq_true',← Bool.not_eq_true,fT]
theorem DB {l:List Tg} {x y:Tg}:y∈dL l x↔(y∈l∧¬ ln y x)∨y=dx l x:=by
 unfold dL
 rw [yw,yU]
theorem Db {l:List Tg} (h:sf l) (x:Tg):sf (dL l x):=yB (h.filter _) fun y hy hs=>(yU.1 hy).2 (hs.trans (mL l x))
theorem ie {t:Tg}:ge t=true↔fK t.2.1=true∧0≤t.2.2∧t.2.2≤1099511627776:=by
 unfold ge;rw [Bool.and_eq_true,Bool.and_eq_true,decide_eq_true_eq,decide_eq_true_eq]
theorem Ga {l:List Tg} (h:RT l) {x:Tg} (hx:ge x=true):ge (dx l x)=true:=by
 have hx9:=ie.1 hx
 rw [ie,(mL l x).2,Ck]
 refine ⟨hx9.1,by omega,?_⟩
 rcases wJ h.srt x with ⟨y,hy,_,e⟩|⟨_,e⟩
 ·have:=(ie.1 (h.may y hy)).2.2
  rw [e];omega
 ·rw [e];show max (-1:Int) _≤_;omega
theorem xQ {l:List Tg} (h:RT l) {x:Tg} (hx:ge x=true) (hl:(dL l x).length≤32):RT (dL l x):=by
 refine ⟨fun y hy=>?_,Db h.srt x,hl⟩
 rcases DB.1 hy with ⟨h1,_⟩|rfl
 ·exact h.may y h1
 ·exact Ga h hx
def kF (l:List Tg) (i:Id) (e:cU):Int:=bif ce l then (bif l.any (jn i e) then 0 else 6) else 1
def oL (l:List Tg) (i:Id) (e:cU):List Tg:=bif decide (kF l i e=0) then jo l i e else []
def CN (l:List Tg):Int:=bif ce l then 0 else 1
def sL (l:List Tg) (now:Int):List Tg:=l.filter fun y=>decide (now<y.2.2)
def xS (l:List Tg) (now:Int):List Tg:=bif ce l then sL l now else []
noncomputable def fb (l:List Tg) (x:Id) (n:Nat):List Tg:=match l.find? fun y=>decide (iH y.1 x=n) with|none=>[]|some z=>l.filter fun y=>decide (iH y.1 x=n) && decide (y.1=z.1)
noncomputable def EU (l:List Tg) (x:Id):Nat→List Tg|0=>[]|j+1=>bif decide (fb l x (128+j)=[]) then EU l x j else fb l x (128+j)
noncomputable def jU (l:List Tg) (x:Id):List Tg:=EU l x 129
noncomputable def Gb (l:List Tg) (x:Id):Int:=bif ce l then (bif decide ((jU l x).length=0) then 6 else 0) else 1
noncomputable def Kr (l:List Tg) (x:Id):List Tg:=bif ce l then jU l x else []
theorem tv {l:List Tg} {x:Id} {n:Nat}:fb l x n=[]↔∀ y∈l,iH y.1 x≠n:=by
 unfold fb
 cases hf:l.find? (fun y=>decide (iH y.1 x=n)) with
 |none=>
  refine ⟨fun _ y hy=>?_,fun _=>rfl⟩
  have:=List.find?_eq_none.1 hf y hy
  simpa using this
 |some z=>
  have h1:=List.mem_of_find?_eq_some hf
  have h2:iH z.1 x=n:=by have:=List.find?_some hf;exact of_decide_eq_true this
  refine ⟨fun h=>?_,fun h=>absurd h2 (h z h1)⟩
  have:z∈l.filter fun y=>decide (iH y.1 x=n) && decide (y.1=z.1):=List.mem_filter.2 ⟨h1,by rw [decide_eq_true h2,decide_eq_true rfl];rfl⟩
  have h:(l.filter fun y=>decide (iH y.1 x=n) && decide (y.1=z.1))=[]:=h
  rw [h] at this;cases this
theorem t4 {l:List Tg} {x:Id} {n:Nat} {y:Tg} (h:y∈fb l x n):y∈l∧iH y.1 x=n:=by
 unfold fb at h
 cases hf:l.find? (fun y=>decide (iH y.1 x=n)) with
 |none=>rw [hf] at h;cases h
 |some z=>
  rw [hf] at h
  obtain ⟨h1,h2⟩:=List.mem_filter.1 h
  rw [Bool.and_eq_true] at h2
  exact ⟨h1,of_decide_eq_true h2.1⟩
theorem DT (l:List Tg) (x:Id):∀ j,(EU l x j=[]∧∀ i,i<j→fb l x (128+i)=[])∨∃ i,i<j∧EU l x j=fb l x (128+i)∧fb l x (128+i)≠[]∧∀ k,i<k→k<j→fb l x (128+k)=[]
 |0=>.inl ⟨rfl,fun i hi=>absurd hi (Nat.not_lt_zero _)⟩
 |j+1=>by
  by_cases h:fb l x (128+j)=[]
  ·have e:EU l x (j+1)=EU l x j:=by show (bif decide (fb l x (128+j)=[]) then _ else _)=_;rw [decide_eq_true h];rfl
   rw [e]
   rcases DT l x j with ⟨h1,h2⟩|⟨i,h1,h2,h3,h4⟩
   ·refine .inl ⟨h1,fun i hi=>?_⟩
    rcases Nat.lt_or_ge i j with g|g
    ·exact h2 i g
    ·obtain rfl:i=j:=by omega
     exact h
   ·refine .inr ⟨i,by omega,h2,h3,fun k hk hkj=>?_⟩
    rcases Nat.lt_or_ge k j with g|g
    ·exact h4 k hk g
    ·obtain rfl:k=j:=by omega
     exact h
  ·have e:EU l x (j+1)=fb l x (128+j):=by show (bif decide (fb l x (128+j)=[]) then _ else _)=_;rw [decide_eq_false h];rfl
   exact .inr ⟨j,Nat.lt_succ_self j,e,h,fun k h1 h2=>absurd h2 (by omega)⟩
theorem sU (l:List Tg) (x:Id):(jU l x=[]∧∀ y∈l,iH y.1 x<128)∨∃ n,128≤n∧n≤256∧jU l x=fb l x n∧fb l x n≠[]∧∀ y∈l,iH y.1 x≤n:=by
 rcases DT l x 129 with ⟨h1,h2⟩|⟨i,h1,h2,h3,h4⟩
 ·refine .inl ⟨h1,fun y hy=>?_⟩
  have hc:=B5 y.1 x
  rcases Nat.lt_or_ge (iH y.1 x) 128 with g|g
  ·exact g
  ·have:=tv.1 (h2 (iH y.1 x - 128) (by omega)) y hy
   omega
 ·refine .inr ⟨128+i,by omega,by omega,h2,h3,fun y hy=>?_⟩
  have hc:=B5 y.1 x
  rcases Nat.lt_or_ge (128+i) (iH y.1 x) with g|g
  ·have:=tv.1 (h4 (iH y.1 x - 128) (by omega) (by omega)) y hy
   omega
  ·exact g
theorem Kg {l r:List Tg} {x:Id} {n:Nat} (h:l.filter (fun y=>decide (iH y.1 x=n))=r.filter fun y=>decide (iH y.1 x=n)):fb l x n=fb r x n:=by
 have hf:∀ q:List Tg,q.find? (fun y=>decide (iH y.1 x=n))=(q.filter fun y=>decide (iH y.1 x=n)).head? := fun q=>(List.head?_filter ..).symm
 have hg:∀ (q:List Tg) (z:Tg),(q.filter fun y=>decide (iH y.1 x=n) && decide (y.1=z.1))=(q.filter fun y=>decide (iH y.1 x=n)).filter fun y=>decide (y.1=z.1):=fun q z=>by
  rw [List.filter_filter]
  exact List.filter_congr fun y _=>Bool.and_comm _ _
 unfold fb
 rw [hf l,hf r,h]
 cases (r.filter fun y=>decide (iH y.1 x=n)).head? with
 |none=>rfl
 |some z=>show l.filter _=r.filter _;rw [hg l z,hg r z,h]
theorem RT.filter {l:List Tg} (h:RT l) (p:Tg→Bool):RT (l.filter p):=⟨fun y hy=>h.may y (List.mem_filter.1 hy).1,h.srt.filter p,Nat.le_trans (List.length_filter_le _ _) h.len⟩
theorem Ex {l:List Tg} {x:Tg} (h:RT l) (hx:ge x=true) (h3:(dL l x).length≤32):i4 l x=0∧lV l x=dL l x:=by
 have e:i4 l x=0:=by unfold i4;rw [fa.2 h,hx,decide_eq_true h3];rfl
 unfold lV;rw [e];exact ⟨rfl,rfl⟩
theorem sX {l:List Tg} {x:Tg} (h:i4 l x≠0):lV l x=[]:=by unfold lV;rw [decide_eq_false h];rfl
theorem tQ {a b:Id}:eH a b≠0↔a.toNat≠b.toNat:=by
 unfold eH
 by_cases h:a.toNat<b.toNat
 ·rw [if_pos h];omega
 ·rw [if_neg h]
  by_cases g:b.toNat<a.toNat
  ·rw [if_pos g];omega
  ·rw [if_neg g];omega
theorem Of {x y:Tg} (h:eH x.1 y.1≠0):decide (eH x.1 y.1<0)=fV x y:=by
 have h:=tQ.1 h
 unfold fV
 refine decide_eq_decide.2 ?_
 rw [vj]
 unfold jA
 simp only [nw];omega
theorem On {x y:Tg} (h0:¬ eH x.1 y.1≠0) (h:x.2.1.1≠y.2.1.1):decide (x.2.1.1<y.2.1.1)=fV x y:=by
 rw [tQ] at h0
 unfold fV
 refine decide_eq_decide.2 ?_
 unfold jA
 simp only [nw];omega
theorem ON {x y:Tg} (h0:¬ eH x.1 y.1≠0) (h1:¬ x.2.1.1≠y.2.1.1) (h:eH x.2.1.2.1 y.2.1.2.1≠0):decide (eH x.2.1.2.1 y.2.1.2.1<0)=fV x y:=by
 rw [tQ] at h0 h
 unfold fV
 refine decide_eq_decide.2 ?_
 rw [vj]
 unfold jA
 simp only [nw];omega
theorem Ou {x y:Tg} (h0:¬ eH x.1 y.1≠0) (h1:¬ x.2.1.1≠y.2.1.1) (h:¬ eH x.2.1.2.1 y.2.1.2.1≠0):decide (x.2.1.2.2<y.2.1.2.2)=fV x y:=by
 rw [tQ] at h0 h
 unfold fV
 refine decide_eq_decide.2 ?_
 unfold jA
 simp only [nw];omega
theorem M9 {l:List Tg} {k:Nat} (h:ge (l.getD k aW)=false):xA l k=false:=by unfold xA;rw [h];rfl
theorem Mo {l:List Tg} {k:Nat} (h:ge (l.getD k aW)=true) (h1:k=0):xA l k=true:=by unfold xA MS;rw [h,decide_eq_true h1];rfl
theorem GC {l:List Tg} {k:Nat} (h:ge (l.getD k aW)=true) (h1:¬ k=0):xA l k=fV (l.getD (k - 1) aW) (l.getD k aW):=by unfold xA MS;rw [h,decide_eq_false h1];rfl
theorem nC {q:Nat→Bool} {k:Nat} (h:∀ j,j<k→q j=true) (hk:q k=true):∀ j,j<k+1→q j=true:=fun j hj=>by
 rcases Nat.lt_or_ge j k with g|g
 ·exact h j g
 ·obtain rfl:j=k:=by omega
  exact hk
theorem DD {l r:List Tg} {k:Nat} (h:∀ j,j<k→l.getD j aW=r.getD j aW) (he:l.getD k aW=r.getD k aW):∀ j,j<k+1→l.getD j aW=r.getD j aW:=fun j hj=>by
 rcases Nat.lt_or_ge j k with g|g
 ·exact h j g
 ·obtain rfl:j=k:=by omega
  exact he
theorem Gm {l r:List Tg} (hl:l.length=r.length) (h:∀ j,j<l.length→l.getD j aW=r.getD j aW):l=r:=by
 refine List.ext_getElem hl fun j h1 h2=>?_
 rw [uy h1,uy h2];exact h j h1
theorem yP {l:List Tg} {p:Tg→Bool} {k:Nat} (hk:k<l.length) (h:∀ j,j<k→p (l.getD j aW)=false) (he:p (l.getD k aW)=true):l.find? p=some (l.getD k aW):=by
 rw [List.find?_eq_some_iff_getElem]
 refine ⟨he,k,hk,uy hk,fun j hj=>?_⟩
 rw [uy (by omega),h j hj];rfl
theorem E6 {l:List Tg} {p:Tg→Bool} (h:∀ j,j<l.length→p (l.getD j aW)=false):l.find? p=none:=by
 rw [List.find?_eq_none]
 intro y hy
 obtain ⟨j,hj,rfl⟩:=zL hy
 rw [h j hj];decide
theorem rR {l:List Tg} {p:Tg→Bool} {k:Nat} (hk:k<l.length) (h:p (l.getD k aW)=true):(l.take (k+1)).filter p=(l.take k).filter p++[l.getD k aW]:=by
 rw [gB hk,List.filter_append,List.filter_cons,h];rfl
theorem qn {l:List Tg} {p:Tg→Bool} {k:Nat} (hk:k<l.length) (h:p (l.getD k aW)=false):(l.take (k+1)).filter p=(l.take k).filter p:=by
 rw [gB hk,List.filter_append,List.filter_cons,h]
 simp
theorem oo (l:List Tg) (p:Tg→Bool) (k:Nat):((l.take k).filter p).length≤l.length:=Nat.le_trans (List.length_filter_le _ _) (by rw [List.length_take];omega)
theorem sS {l:List Tg} {p:Tg→Bool} {k:Nat} (h:l.length≤k):(l.take k).filter p=l.filter p:=by rw [List.take_of_length_le h]
section
variable {P:Program} {ρ:Operand→Value} {d:Option Tmp} {ty:TypeId} {pos:String} {af:Array Edge} {g:Option (Nat × Bool)} {x y z:Operand} {t:TypeId}
theorem cK (S:Stt P t Bk):aM P ⟨d,.build t #[],ty,pos,af,g⟩ ρ (.agg (aB aW)):=by
 have:=bb (P:=P) (ρ:=ρ) (d:=d) (ty:=ty) (pos:=pos) (af:=af) (g:=g) (parts:=#[]) S [] (by simp) (fun i v hm=>by simp at hm) (D:=(aB aW).toList) (by rw [tZ];rfl)
 simpa using this
theorem tr {u:Int} (S:Stt P t Bk) (hx:ρ x=.int .i64 u):aM P ⟨d,.build t #[(2,x)],ty,pos,af,g⟩ ρ (.agg (aB (0#256,(0,0#256,0),u))):=by
 have:=bb (P:=P) (ρ:=ρ) (d:=d) (ty:=ty) (pos:=pos) (af:=af) (g:=g) (parts:=#[(2,x)]) S [(2,.int .i64 u)] (by simp [hx]) (fun i v hm=>by
  simp only [List.mem_cons,Prod.mk.injEq,List.not_mem_nil,or_false] at hm
  obtain ⟨rfl,rfl⟩:=hm
  exact ⟨_,rfl,rfl⟩) (D:=lH (0#256,(0,0#256,0),u)) (by unfold lH;rw [gR,gT];rfl)
 exact this
theorem iF {i:Id} {e:cU} {u:Int} (S:Stt P t Bk) (hx:ρ x=.agg (aA i)) (hy:ρ y=.agg (bg e)) (hz:ρ z=.int .i64 u):aM P ⟨d,.build t #[(0,x),(1,y),(2,z)],ty,pos,af,g⟩ ρ (.agg (aB (i,e,u))):=by
 have:=bb (P:=P) (ρ:=ρ) (d:=d) (ty:=ty) (pos:=pos) (af:=af) (g:=g) (parts:=#[(0,x),(1,y),(2,z)]) S [(0,.agg (aA i)),(1,.agg (bg e)),(2,.int .i64 u)] (by simp [hx,hy,hz]) (fun j v hm=>by
  simp only [List.mem_cons,Prod.mk.injEq,List.not_mem_nil,or_false] at hm
  rcases hm with ⟨rfl,rfl⟩|⟨rfl,rfl⟩|⟨rfl,rfl⟩
  ·exact ⟨_,rfl,by show (aA i).size=_;rw [ai];rfl⟩
  ·exact ⟨_,rfl,by show (bg e).size=_;rw [aC];rfl⟩
  ·exact ⟨_,rfl,rfl⟩) (D:=lH (i,e,u)) (by unfold lH;rfl)
 exact this
end
theorem yK (t:Tg) (u:Int):(aB t).setIfInBounds 66 (.int .i64 u)=aB (t.1,t.2.1,u):=by
 apply Array.ext'
 rw [Array.toList_setIfInBounds]
 show (lH t).set 66 _=lH _
 unfold lH
 rw [← List.append_assoc,← List.append_assoc,List.set_append_right _ _ (by rw [List.length_append,fy,mY];exact Nat.le_refl _),List.length_append,fy,mY];rfl
def AC (W:List Tg) (y:Tg) (k:Nat):Bool:=(W.take k).any fun z=>fV y z
def nc (W:List Tg) (y:Tg) (k:Nat):List Tg:=bif AC W y k then fE (W.take k) y else W.take k
theorem y9 {A:List Tg} {y:Tg} (h:A.any (fun z=>fV y z)=false):A.takeWhile (fun z => !fV y z)=A∧A.dropWhile (fun z => !fV y z)=[]:=by
 have h9:∀ z∈A,(!fV y z)=true:=fun z hz=>by
  have:=List.any_eq_false.1 h z hz
  cases hb:fV y z with
  |false=>rfl
  |true=>exact absurd hb this
 have e:A.takeWhile (fun z => !fV y z)=A:=by
  induction A with
  |nil=>rfl
  |cons a A ih=>
   rw [List.takeWhile_cons,h9 a (List.mem_cons_self ..)]
   show a::_=_
   rw [ih (by rw [List.any_cons,Bool.or_eq_false_iff] at h;exact h.2) fun z hz=>h9 z (List.mem_cons_of_mem _ hz)]
 refine ⟨e,?_⟩
 have:=List.takeWhile_append_dropWhile (p:=fun z => !fV y z) (l:=A)
 rw [e] at this
 exact List.append_right_eq_self.1 this
theorem wu {A B:List Tg} {y:Tg}:A.any (fun z=>fV y z)=true→(A++B).takeWhile (fun z => !fV y z)=A.takeWhile (fun z => !fV y z)∧(A++B).dropWhile (fun z => !fV y z)=A.dropWhile (fun z => !fV y z)++B:=by
 induction A with
 |nil=>intro h;cases h
 |cons a A ih=>
  intro h
  cases hb:fV y a with
  |true=>
   rw [List.cons_append,List.takeWhile_cons,List.takeWhile_cons,List.dropWhile_cons,List.dropWhile_cons,hb]
   exact ⟨rfl,rfl⟩
  |false=>
   rw [List.any_cons,hb,Bool.false_or] at h
   obtain ⟨h1,h2⟩:=ih h
   rw [List.cons_append,List.takeWhile_cons,List.takeWhile_cons,List.dropWhile_cons,List.dropWhile_cons,hb]
   show (a::_)=a::_∧_
   rw [h1]
   exact ⟨rfl,h2⟩
theorem EJ {A B:List Tg} {y:Tg} (h:A.any (fun z=>fV y z)=true):fE (A++B) y=fE A y++B:=by
 unfold fE
 rw [(wu h).1,(wu h).2,List.append_assoc];rfl
theorem Dk {A:List Tg} {y:Tg} (h:A.any (fun z=>fV y z)=false):fE A y=A++[y]:=by
 unfold fE;rw [(y9 h).1,(y9 h).2]
theorem xa {A B:List Tg} {y:Tg} (h:A.any (fun z=>fV y z)=false):(A++B).takeWhile (fun z => !fV y z)=A++B.takeWhile (fun z => !fV y z)∧(A++B).dropWhile (fun z => !fV y z)=B.dropWhile (fun z => !fV y z):=by
 induction A with
 |nil=>exact ⟨rfl,rfl⟩
 |cons a A ih=>
  rw [List.any_cons,Bool.or_eq_false_iff] at h
  obtain ⟨h1,h2⟩:=ih h.2
  rw [List.cons_append,List.takeWhile_cons,List.dropWhile_cons,h.1]
  show (a::_)=_∧_
  rw [h1];exact ⟨rfl,h2⟩
theorem Eb {A:List Tg} {y z:Tg} (h:A.any (fun z=>fV y z)=false) (hz:fV y z=true):fE (A++[z]) y=A++[y]++[z]:=by
 unfold fE
 rw [(xa h).1,(xa h).2,List.takeWhile_cons,List.dropWhile_cons,hz]
 simp
theorem mj {W:List Tg} {y:Tg} {k:Nat} (hk:k<W.length):AC W y (k+1)=(AC W y k || fV y (W.getD k aW)):=by
 unfold AC;rw [gB hk,List.any_append];simp
theorem yo {W:List Tg} {y:Tg} {k:Nat} (hk:k<W.length) (h:AC W y k=true):nc W y (k+1)=nc W y k++[W.getD k aW]:=by
 unfold nc
 rw [mj hk,h]
 show fE (W.take (k+1)) y=fE (W.take k) y++_
 rw [gB hk];exact EJ h
theorem HV {W:List Tg} {y:Tg} {k:Nat} (hk:k<W.length) (h:AC W y k=false) (hl:fV y (W.getD k aW)=false):nc W y (k+1)=nc W y k++[W.getD k aW]:=by
 unfold nc
 rw [mj hk,h,hl]
 exact gB hk
theorem zp {W:List Tg} {y:Tg} {k:Nat} (hk:k<W.length) (h:AC W y k=false) (hl:fV y (W.getD k aW)=true):nc W y (k+1)=nc W y k++[y]++[W.getD k aW]:=by
 unfold nc
 rw [mj hk,h,hl]
 show fE (W.take (k+1)) y=W.take k++[y]++_
 rw [gB hk];exact Eb h hl
theorem mG (W:List Tg) (y:Tg) (k:Nat):(nc W y k).length≤W.length+1:=by
 unfold nc
 have h9:(W.take k).length≤W.length:=by rw [List.length_take];omega
 cases AC W y k with
 |true=>show (fE (W.take k) y).length≤_;rw [Fd];omega
 |false=>show (W.take k).length≤_;omega
theorem DP {W:List Tg} {y:Tg}:fE W y=bif AC W y W.length then nc W y W.length else nc W y W.length++[y]:=by
 unfold nc
 cases h:AC W y W.length with
 |true=>show fE W y=fE (W.take W.length) y;rw [List.take_length]
 |false=>
  show fE W y=W.take W.length++[y]
  unfold AC at h
  rw [List.take_length] at h ⊢
  exact Dk h
theorem wo {w':World} {N:TypeId} {base:Nat} {p:Value} {l K:List Tg} {x:Tg} (hp:dL l x=K) (hO:cB w' base N 67 p K.length (aJ K)):
 ∃ p',Value.tuple #[p,.bool (decide ((K.length:Int)≤32))]=.tuple #[p',.bool (decide ((dL l x).length≤32))]∧cB w' base N 67 p' (dL l x).length (aJ (dL l x)):=by
 subst hp
 exact ⟨p,by rw [show decide (((dL l x).length:Int)≤32)=decide ((dL l x).length≤32) from decide_eq_decide.2 (by omega)],hO⟩
theorem wb {l:List Tg} {x:Id} {n:Nat} (h:l.find? (fun y=>decide (iH y.1 x=n))=none):fb l x n=[]:=by unfold fb;rw [h]
theorem ii {l:List Tg} {x:Id} {n:Nat} {z:Tg} (h:l.find? (fun y=>decide (iH y.1 x=n))=some z):fb l x n=l.filter fun y=>decide (iH y.1 x=n) && decide (y.1=z.1):=by unfold fb;rw [h]
theorem JC {l:List Tg} {x:Id} {n:Nat} {z:Tg} (h:l.find? (fun y=>decide (iH y.1 x=n))=some z):0<(fb l x n).length∧((fb l x n).getD 0 aW).1=z.1:=by
 have hz:z∈fb l x n:=by
  rw [ii h]
  have h2:iH z.1 x=n:=by have:=List.find?_some h;exact of_decide_eq_true this
  exact List.mem_filter.2 ⟨List.mem_of_find?_eq_some h,by rw [decide_eq_true h2,decide_eq_true rfl];rfl⟩
 have hp:=List.length_pos_of_mem hz
 refine ⟨hp,?_⟩
 have:=jy hp
 rw [ii h] at this
 have:=(List.mem_filter.1 this).2
 rw [Bool.and_eq_true] at this
 rw [ii h];exact of_decide_eq_true this.2
theorem u6 {l:List Tg} {x:Id} {n k:Nat} (hk:k<l.length) (h:¬ iH (l.getD k aW).1 x=n):fb (l.take (k+1)) x n=fb (l.take k) x n:=by
 refine Kg ?_
 exact qn hk (decide_eq_false h)
theorem zF {l:List Tg} {x:Id} {n k:Nat} (hk:k<l.length) (h:iH (l.getD k aW).1 x=n) (h0:(fb (l.take k) x n).length=0):fb (l.take (k+1)) x n=fb (l.take k) x n++[l.getD k aW]:=by
 have e:=List.length_eq_zero_iff.1 h0
 have hn:=tv.1 e
 have hf:(l.take (k+1)).find? (fun y=>decide (iH y.1 x=n))=some (l.getD k aW):=by
  rw [gB hk,List.find?_append,List.find?_eq_none.2 fun y hy=>by rw [decide_eq_false (hn y hy)];decide]
  rw [Option.none_or,List.find?_cons_of_pos (by rw [decide_eq_true h])]
 rw [ii hf,e,gB hk,List.filter_append,List.filter_cons,decide_eq_true h,decide_eq_true rfl,List.filter_eq_nil_iff.2 fun y hy=>by rw [decide_eq_false (hn y hy),Bool.false_and];exact Bool.noConfusion]
 rfl
theorem vC {l:List Tg} {x:Id} {n k:Nat} (hk:k<l.length) (h:iH (l.getD k aW).1 x=n) (h0:¬ (fb (l.take k) x n).length=0):
 fb (l.take (k+1)) x n=bif decide (((fb (l.take k) x n).getD 0 aW).1=(l.getD k aW).1) then fb (l.take k) x n++[l.getD k aW] else fb (l.take k) x n:=by
 cases hf:(l.take k).find? (fun y=>decide (iH y.1 x=n)) with
 |none=>rw [wb hf] at h0;exact absurd rfl h0
 |some z=>
  have hf2:(l.take (k+1)).find? (fun y=>decide (iH y.1 x=n))=some z:=by rw [gB hk,List.find?_append,hf];rfl
  rw [(JC hf).2,ii hf2,ii hf,gB hk,List.filter_append,List.filter_cons,decide_eq_true h,Bool.true_and]
  by_cases g:z.1=(l.getD k aW).1
  ·rw [decide_eq_true g,decide_eq_true g.symm];rfl
  ·rw [decide_eq_false g,decide_eq_false fun e=>g e.symm];simp
theorem H1 {l:List Tg} {x:Id} {n k:Nat} (hk:k<l.length) (h:iH (l.getD k aW).1 x=n) (h0:¬ (fb (l.take k) x n).length=0) (h1:decide (((fb (l.take k) x n).getD 0 aW).1=(l.getD k aW).1)=true):fb (l.take (k+1)) x n=fb (l.take k) x n++[l.getD k aW]:=by
 rw [vC hk h h0,h1];rfl
theorem Io {l:List Tg} {x:Id} {n k:Nat} (hk:k<l.length) (h:iH (l.getD k aW).1 x=n) (h0:¬ (fb (l.take k) x n).length=0) (h1:decide (((fb (l.take k) x n).getD 0 aW).1=(l.getD k aW).1)=false):fb (l.take (k+1)) x n=fb (l.take k) x n:=by
 rw [vC hk h h0,h1];rfl
theorem pT (l:List Tg) (x:Id) (n k:Nat):(fb (l.take k) x n).length≤l.length:=by
 have:(l.take k).length≤l.length:=by rw [List.length_take];omega
 cases hf:(l.take k).find? (fun y=>decide (iH y.1 x=n)) with
 |none=>rw [wb hf];exact Nat.zero_le _
 |some z=>rw [ii hf];exact Nat.le_trans (List.length_filter_le _ _) this
theorem qa {l:List Tg} {x:Id} {j:Nat}:∀ d,(∀ i,j≤i→i<j+d→fb l x (128+i)=[])→EU l x (j+d)=EU l x j
 |0,_=>rfl
 |d+1,h=>by
  show (bif decide (fb l x (128+(j+d))=[]) then EU l x (j+d) else _)=_
  rw [decide_eq_true (h (j+d) (by omega) (by omega))]
  exact qa d fun i h1 h2=>h i h1 (by omega)
theorem Gv {l:List Tg} {x:Id} {j:Nat} (hj:j<129) (h:∀ i,j+1≤i→i<129→fb l x (128+i)=[]) (h0:fb l x (128+j)≠[]):jU l x=fb l x (128+j):=by
 have:=qa (l:=l) (x:=x) (j:=j+1) (129 - (j+1)) fun i h1 h2=>h i h1 (by omega)
 rw [show j+1+(129 - (j+1))=129 by omega] at this
 refine Eq.trans this ?_
 show (bif decide (fb l x (128+j)=[]) then _ else _)=_
 rw [decide_eq_false h0];rfl
theorem G4 {l:List Tg} {x:Id} (h:∀ i,i<129→fb l x (128+i)=[]):jU l x=[]:=by
 have:=qa (l:=l) (x:=x) (j:=0) 129 fun i _ h2=>h i (by omega)
 rw [Nat.zero_add] at this
 exact this
theorem Gh {l:List Tg} {x:Id} {j:Nat} (h1:1≤j) (h0:fb l x (127+j)=[]) (h:∀ i,j≤i→i<129→fb l x (128+i)=[]):∀ i,j - 1≤i→i<129→fb l x (128+i)=[]:=fun i hi h9=>by
 rcases Nat.lt_or_ge i j with g|g
 ·obtain rfl:i=j - 1:=by omega
  rw [show 128+(j - 1)=127+j by omega];exact h0
 ·exact h i g h9
theorem Kl {l:List Tg} {x:Id} {j:Nat} (h1:1≤j) (h2:j≤129) (h:∀ i,j≤i→i<129→fb l x (128+i)=[]) (h0:fb l x (127+j)≠[]):jU l x=fb l x (127+j):=by
 have e:128+(j - 1)=127+j:=by omega
 have:=Gv (l:=l) (x:=x) (j:=j - 1) (by omega) (fun i h3 h4=>h i (by omega) h4) (by rw [e];exact h0)
 rw [e] at this;exact this
abbrev dW (w:World) (v:Value) (l:List Tg):Prop:=bI w v 67 l.length (aJ l)
def Lg (w:World) (vh:Value) (l K:List Tg) (E:Int):cW:=fun v w'=>∃ p ks,v=.tuple #[p,.int .i64 E]∧St w [.grp ks fun w9=>dW w9 vh l→dW w9 p K] w'
theorem bS (w:World):dW w aI []:=⟨rfl,.inl ⟨rfl,rfl⟩⟩
theorem Eu {t:List Tg} (h:ce t=false) (x:Tg):i4 t x=1∧lV t x=[]:=by
 have e:i4 t x=1:=by unfold i4;rw [h];rfl
 exact ⟨e,sX (by rw [e];decide)⟩
theorem BB (t:List Tg) {x:Tg} (h:ge x=false):i4 t x=1∧lV t x=[]:=by
 have e:i4 t x=1:=by unfold i4;rw [h,Bool.and_false];rfl
 exact ⟨e,sX (by rw [e];decide)⟩
theorem Ib {t:List Tg} {x:Tg} (h:ce t=true) (hx:ge x=true) (hf:decide ((dL t x).length≤32)=true):i4 t x=0∧lV t x=dL t x:=Ex (fa.1 h) hx (of_decide_eq_true hf)
theorem yH {t:List Tg} {x:Tg} (h:ce t=true) (hx:ge x=true) (hf:decide ((dL t x).length≤32)=false):i4 t x=8∧lV t x=[]:=by
 have e:i4 t x=8:=by unfold i4;rw [h,hx,hf];rfl
 exact ⟨e,sX (by rw [e];decide)⟩
theorem DV {t:List Tg} (h:ce t=false) (i:Id) (e:cU):kF t i e=1∧oL t i e=[]:=by
 have h1:kF t i e=1:=by unfold kF;rw [h];rfl
 refine ⟨h1,?_⟩
 unfold oL;rw [h1];rfl
theorem EC {t:List Tg} (h:ce t=true) (i:Id) (e:cU):decide ((ey t i e).2.2<0) = !t.any (jn i e):=by
 have hr:=fa.1 h
 unfold ey
 cases hf:t.find? (jn i e) with
 |none=>
  have:t.any (jn i e)=false:=List.any_eq_false.2 fun y hy=>List.find?_eq_none.1 hf y hy
  rw [this];rfl
 |some y=>
  have hy:=List.mem_of_find?_eq_some hf
  have:t.any (jn i e)=true:=List.any_eq_true.2 ⟨y,hy,List.find?_some hf⟩
  rw [this]
  exact decide_eq_false (by have:=(ie.1 (hr.may y hy)).2.1;show ¬ y.2.2<0;omega)
theorem JU {t:List Tg} (h:ce t=true) {i:Id} {e:cU} (hg:decide ((ey t i e).2.2<0)=true):kF t i e=6∧oL t i e=[]:=by
 rw [EC h] at hg
 have h1:kF t i e=6:=by
  unfold kF
  rw [h,show t.any (jn i e)=false by cases hb:t.any (jn i e) with|false=>rfl|true=>rw [hb] at hg;cases hg];rfl
 refine ⟨h1,?_⟩
 unfold oL;rw [h1];rfl
theorem M1 {t:List Tg} (h:ce t=true) {i:Id} {e:cU} (hg:decide ((ey t i e).2.2<0)=false):kF t i e=0∧oL t i e=jo t i e:=by
 rw [EC h] at hg
 have h1:kF t i e=0:=by
  unfold kF
  rw [h,show t.any (jn i e)=true by cases hb:t.any (jn i e) with|true=>rfl|false=>rw [hb] at hg;cases hg];rfl
 refine ⟨h1,?_⟩
 unfold oL;rw [h1];rfl
theorem Lo {t:List Tg} (h:ce t=true) (now:Int):CN t=0∧xS t now=sL t now:=by unfold CN xS;rw [h];exact ⟨rfl,rfl⟩
theorem Mn {t:List Tg} (h:ce t=false) (now:Int):CN t=1∧xS t now=[]:=by unfold CN xS;rw [h];exact ⟨rfl,rfl⟩
theorem LK {t:List Tg} (h:ce t=false) (x:Id):Gb t x=1∧Kr t x=[]:=by unfold Gb Kr;rw [h];exact ⟨rfl,rfl⟩
theorem G0 {t:List Tg} (h:ce t=true) (x:Id):Gb t x=(bif decide ((jU t x).length=0) then 6 else 0)∧Kr t x=jU t x:=by unfold Gb Kr;rw [h];exact ⟨rfl,rfl⟩
theorem wY (t:List Tg) (x:Id):(jU t x).length≤t.length:=by
 rcases sU t x with ⟨h,_⟩|⟨n,_,_,h,_,_⟩
 ·rw [h];exact Nat.zero_le _
 ·rw [h]
  have:=pT t x n t.length
  rw [List.take_length] at this;exact this
def oV (a b:Tg) (k:Nat):Int:=match k with
 |0=>eH a.1 b.1
 |1=>er a.2.1.1 b.2.1.1
 |2=>eH a.2.1.2.1 b.2.1.2.1
 |_=>er a.2.1.2.2 b.2.1.2.2
def sI (a b:Tg):Int:=if jA a b then -1 else if ln a b then 0 else 1
theorem sW (a b:Tg):decide (sI a b<0)=fV a b:=by
 unfold sI fV
 by_cases h:jA a b
 ·rw [if_pos h];simp [h]
 ·rw [if_neg h]
  by_cases g:ln a b
  ·rw [if_pos g];simp [h]
  ·rw [if_neg g];simp [h]
theorem vV (a b:Tg):decide (sI a b=0)=jn b.1 b.2.1 a:=by
 have hb:jn b.1 b.2.1 a=decide (ln a b):=by
  cases hh:jn b.1 b.2.1 a with
  |true=>exact (decide_eq_true (fT.1 hh)).symm
  |false=>exact (decide_eq_false fun g=>by rw [fT.2 g] at hh;cases hh).symm
 rw [hb];unfold sI
 by_cases h:jA a b
 ·rw [if_pos h];simp [q9 h]
 ·rw [if_neg h]
  by_cases g:ln a b
  ·rw [if_pos g];simp [g]
  ·rw [if_neg g];simp [g]
theorem Dy (a b:Tg):decide (sI a b≥0) = !fV a b:=by
 rw [← sW,← decide_not];exact decide_eq_decide.2 (by omega)
theorem Cr {a b:Id}:eH a b=0↔a=b:=by
 rw [nw];unfold eH;split
 ·simp;omega
 ·split
  ·simp;omega
  ·simp;omega
theorem Ea (a b:Id):(eH a b = -1∧a.toNat<b.toNat)∨(eH a b=0∧a=b)∨(eH a b=1∧b.toNat<a.toNat):=by
 rw [nw];unfold eH;split
 ·exact .inl ⟨rfl,by assumption⟩
 ·split
  ·exact .inr (.inr ⟨rfl,by assumption⟩)
  ·exact .inr (.inl ⟨rfl,by omega⟩)
theorem wl (a b:Int):(er a b = -1∧a<b)∨(er a b=0∧a=b)∨(er a b=1∧b<a):=by
 unfold er;split
 ·exact .inl ⟨rfl,by assumption⟩
 ·split
  ·exact .inr (.inr ⟨rfl,by assumption⟩)
  ·exact .inr (.inl ⟨rfl,by omega⟩)
theorem DJ {a b:Tg}:(oV a b 0≠0→oV a b 0=sI a b)∧(oV a b 0=0→oV a b 1≠0→oV a b 1=sI a b)∧(oV a b 0=0→oV a b 1=0→oV a b 2≠0→oV a b 2=sI a b)∧(oV a b 0=0→oV a b 1=0→oV a b 2=0→oV a b 3=sI a b):=by
 have h0:_∨_∨_:=Ea a.1 b.1
 have h1:_∨_∨_:=wl a.2.1.1 b.2.1.1
 have h2:_∨_∨_:=Ea a.2.1.2.1 b.2.1.2.1
 have h3:_∨_∨_:=wl a.2.1.2.2 b.2.1.2.2
 show (eH a.1 b.1≠0→eH a.1 b.1=sI a b)∧(eH a.1 b.1=0→er a.2.1.1 b.2.1.1≠0→er a.2.1.1 b.2.1.1=sI a b)∧(eH a.1 b.1=0→er a.2.1.1 b.2.1.1=0→eH a.2.1.2.1 b.2.1.2.1≠0→eH a.2.1.2.1 b.2.1.2.1=sI a b)∧(eH a.1 b.1=0→er a.2.1.1 b.2.1.1=0→eH a.2.1.2.1 b.2.1.2.1=0→er a.2.1.2.2 b.2.1.2.2=sI a b)
 have key:∀ c:Int,((c = -1∧jA a b)∨(c=0∧ln a b)∨(c=1∧jA b a))→c=sI a b:=by
  rintro c (⟨rfl,h⟩|⟨rfl,h⟩|⟨rfl,h⟩)
  ·unfold sI;rw [if_pos h]
  ·unfold sI;rw [if_neg fun g=>q9 g h,if_pos h]
  ·unfold sI;rw [if_neg fun g=>wU a (ik g h),if_neg fun g=>qG h g]
 have z0:eH a.1 b.1=0→a.1=b.1:=Cr.1
 have z2:eH a.2.1.2.1 b.2.1.2.1=0→a.2.1.2.1=b.2.1.2.1:=Cr.1
 have z1:er a.2.1.1 b.2.1.1=0→a.2.1.1=b.2.1.1:=fun g=>by
  rcases h1 with ⟨c,h⟩|⟨c,h⟩|⟨c,h⟩
  ·rw [c] at g;cases g
  ·exact h
  ·rw [c] at g;cases g
 refine ⟨fun n0=>key _ ?_,fun n0 n1=>key _ ?_,fun n0 n1 n2=>key _ ?_,fun n0 n1 n2=>key _ ?_⟩
 ·rcases h0 with ⟨c,h⟩|⟨c,h⟩|⟨c,h⟩
  ·exact .inl ⟨c,.inl h⟩
  ·exact absurd c n0
  ·exact .inr (.inr ⟨c,.inl h⟩)
 ·rcases h1 with ⟨c,h⟩|⟨c,h⟩|⟨c,h⟩
  ·exact .inl ⟨c,.inr ⟨z0 n0,.inl h⟩⟩
  ·exact absurd c n1
  ·exact .inr (.inr ⟨c,.inr ⟨(z0 n0).symm,.inl h⟩⟩)
 ·rcases h2 with ⟨c,h⟩|⟨c,h⟩|⟨c,h⟩
  ·exact .inl ⟨c,.inr ⟨z0 n0,.inr ⟨z1 n1,.inl h⟩⟩⟩
  ·exact absurd c n2
  ·exact .inr (.inr ⟨c,.inr ⟨(z0 n0).symm,.inr ⟨(z1 n1).symm,.inl h⟩⟩⟩)
 ·rcases h3 with ⟨c,h⟩|⟨c,h⟩|⟨c,h⟩
  ·exact .inl ⟨c,.inr ⟨z0 n0,.inr ⟨z1 n1,.inr ⟨z2 n2,h⟩⟩⟩⟩
  ·exact .inr (.inl ⟨c,z0 n0,xp.2 ⟨z1 n1,z2 n2,h⟩⟩)
  ·exact .inr (.inr ⟨c,.inr ⟨(z0 n0).symm,.inr ⟨(z1 n1).symm,.inr ⟨(z2 n2).symm,h⟩⟩⟩⟩)
theorem F2 {a b:Tg} {k:Nat} (hk:k<4) (h:∀ j,j<k→oV a b j=0) (h0:oV a b k≠0):oV a b k=sI a b:=by
 have H:=DJ (a:=a) (b:=b)
 match k,hk with
 |0,_=>exact H.1 h0
 |1,_=>exact H.2.1 (h 0 (by omega)) h0
 |2,_=>exact H.2.2.1 (h 0 (by omega)) (h 1 (by omega)) h0
 |3,_=>exact H.2.2.2 (h 0 (by omega)) (h 1 (by omega)) (h 2 (by omega))
theorem HB {a b:Tg} (h:∀ j,j<4→oV a b j=0):sI a b=0:=
 (DJ.2.2.2 (h 0 (by omega)) (h 1 (by omega)) (h 2 (by omega))).symm.trans (h 3 (by omega))
theorem GE {a b:Tg} {k:Nat} (h:∀ j,j<k→oV a b j=0) (hk:oV a b k=0):∀ j,j<k+1→oV a b j=0:=fun j hj=>by
 rcases Nat.lt_or_ge j k with g|g
 ·exact h j g
 ·obtain rfl:j=k:=by omega
  exact hk
theorem tt {l:List Tg} (h:sf l) {j k:Nat} (hjk:j<k) (hk:k<l.length):jA (l.getD j aW) (l.getD k aW):=by
 have:=List.pairwise_iff_getElem.1 h j k (by omega) hk hjk
 rw [uy (by omega),uy hk] at this;exact this
structure FndT (l:List Tg) (x:Tg) (n:Nat) (b:Bool):Prop where
 le:n≤l.length
 lo:∀ j,j<n→fV (l.getD j aW) x=true
 hi:∀ j,n≤j→j<l.length→fV (l.getD j aW) x=false
 is:b=(decide (n<l.length) && jn x.1 x.2.1 (l.getD n aW))
theorem NL {l:List Tg} (h:sf l) {x:Tg} {k:Nat} (hk:k<l.length) (hc:fV (l.getD k aW) x=true):∀ j,j<k+1→fV (l.getD j aW) x=true:=fun j hj=>by
 rcases Nat.lt_or_ge j k with g|g
 ·exact decide_eq_true (ik (tt h g hk) (of_decide_eq_true hc))
 ·obtain rfl:j=k:=by omega
  exact hc
theorem LR {l:List Tg} (h:sf l) {x:Tg} {k:Nat} (hc:fV (l.getD k aW) x=false):∀ j,k≤j→j<l.length→fV (l.getD j aW) x=false:=fun j hj hl=>by
 rcases Nat.lt_or_ge k j with g|g
 ·exact decide_eq_false fun h9=>of_decide_eq_false hc (ik (tt h g hl) h9)
 ·obtain rfl:j=k:=by omega
  exact hc
theorem sF {l:List Tg} {n:Nat} {y:Tg} (h:y∈l.take n):∃ j,j<n∧j<l.length∧l.getD j aW=y:=by
 obtain ⟨j,hj,rfl⟩:=List.mem_iff_getElem.1 h
 rw [List.length_take] at hj
 refine ⟨j,by omega,by omega,?_⟩
 rw [← uy (by omega),List.getElem_take]
theorem so {l:List Tg} {n:Nat} {y:Tg} (h:y∈l.drop n):∃ j,n≤j∧j<l.length∧l.getD j aW=y:=by
 obtain ⟨j,hj,rfl⟩:=List.mem_iff_getElem.1 h
 rw [List.length_drop] at hj
 refine ⟨n+j,by omega,by omega,?_⟩
 rw [← uy (by omega),List.getElem_drop]
theorem C0 {A B:List Tg} {y:Tg} (h1:∀ a∈A,fV y a=false) (h2:∀ b∈B,fV y b=true):fE (A++B) y=A++y::B:=by
 have hA:A.any (fun z=>fV y z)=false:=List.any_eq_false.2 fun z hz=>by rw [h1 z hz];decide
 have h9:=xa (B:=B) hA
 have h8:B.takeWhile (fun z => !fV y z)=[]∧B.dropWhile (fun z => !fV y z)=B:=by
  cases B with
  |nil=>exact ⟨rfl,rfl⟩
  |cons b B=>
   have hb:=h2 b (List.mem_cons_self ..)
   exact ⟨by rw [List.takeWhile_cons_of_neg (by rw [hb];decide)],by rw [List.dropWhile_cons_of_neg (by rw [hb];decide)]⟩
 unfold fE
 rw [h9.1,h9.2,h8.1,h8.2,List.append_nil]
theorem r8 {x y:Tg} (h:¬ ln y x):jn x.1 x.2.1 y=false:=by
 cases hh:jn x.1 x.2.1 y with
 |false=>rfl
 |true=>exact absurd (fT.1 hh) h
theorem FO {L:List Tg} {x:Tg} (h:∀ y∈L,¬ ln y x):jo L x.1 x.2.1=L:=List.filter_eq_self.2 fun y hy=>by rw [r8 (h y hy)];rfl
theorem sP {l:List Tg} {n:Nat} (h:n<l.length):l=l.take n++l.getD n aW::l.drop (n+1):=by
 rw [← uy h,List.getElem_cons_drop,List.take_append_drop]
theorem uh {l:List Tg} {x:Tg} {n:Nat} (h:sf l) (hf:FndT l x n true):n<l.length∧ln (l.getD n aW) x∧(∀ y∈l.take n,jA y x)∧∀ y∈l.drop (n+1),jA x y:=by
 have h9:=hf.is.symm
 rw [Bool.and_eq_true] at h9
 have hn:=of_decide_eq_true h9.1
 have hs:=fT.1 h9.2
 refine ⟨hn,hs,fun y hy=>?_,fun y hy=>?_⟩
 ·obtain ⟨j,h1,h2,rfl⟩:=sF hy
  exact of_decide_eq_true (hf.lo j h1)
 ·obtain ⟨j,h1,h2,rfl⟩:=so hy
  exact(Cz hs).1.1 (tt h (by omega) h2)
theorem HO {l:List Tg} {x:Tg} {n:Nat} (h:sf l) (hf:FndT l x n false):(∀ y∈l.take n,jA y x)∧(∀ y∈l.drop n,jA x y)∧∀ y∈l,¬ ln y x:=by
 have h1:∀ y∈l.take n,jA y x:=fun y hy=>by
  obtain ⟨j,h1,h2,rfl⟩:=sF hy
  exact of_decide_eq_true (hf.lo j h1)
 have h2:∀ y∈l.drop n,jA x y:=fun y hy=>by
  obtain ⟨j,h1,h2,rfl⟩:=so hy
  have hn:¬ ln (l.getD n aW) x:=fun g=>by
   have h9:=hf.is
   rw [decide_eq_true (show n<l.length by omega),fT.2 g] at h9;cases h9
  have hl:∀ i,n≤i→i<l.length→¬ jA (l.getD i aW) x:=fun i g1 g2=>of_decide_eq_false (hf.hi i g1 g2)
  have h0:jA x (l.getD n aW):=by
   rcases BS (l.getD n aW) x with g|g|g
   ·exact absurd g (hl n (Nat.le_refl _) (by omega))
   ·exact absurd g hn
   ·exact g
  rcases Nat.lt_or_ge n j with g|g
  ·exact ik h0 (tt h g h2)
  ·obtain rfl:j=n:=by omega
   exact h0
 refine ⟨h1,h2,fun y hy=>?_⟩
 rw [← List.take_append_drop n l] at hy
 rcases List.mem_append.1 hy with g|g
 ·exact q9 (h1 y g)
 ·exact fun e=>qG (h2 y g) e
theorem zE {l:List Tg} {x:Tg} {n:Nat} {b:Bool} (h:sf l) (hf:FndT l x n b):l.any (jn x.1 x.2.1)=b:=by
 cases b with
 |true=>
  have h9:=uh h hf
  exact List.any_eq_true.2 ⟨_,jy h9.1,fT.2 h9.2.1⟩
 |false=>exact List.any_eq_false.2 fun y hy=>by rw [r8 ((HO h hf).2.2 y hy)];decide
def Le (l:List Tg) (x:Tg) (n:Nat):Tg:=((l.getD n aW).1,(l.getD n aW).2.1,max (l.getD n aW).2.2 x.2.2)
theorem Nv {l:List Tg} {x:Tg} {n:Nat} (h:RT l) (hx:ge x=true) (hf:FndT l x n true):i4 l x=0∧lV l x=l.set n (Le l x n):=by
 obtain ⟨hn,hs,h1,h2⟩:=uh h.srt hf
 have hfd:ey l x.1 x.2.1=l.getD n aW:=vM h.srt (jy hn) hs
 have hw:jo l x.1 x.2.1=l.take n++l.drop (n+1):=by
  conv=>lhs;rw [sP hn]
  unfold jo
  rw [List.filter_append,List.filter_cons_of_neg (by rw [fT.2 hs];decide)]
  rw [List.filter_eq_self.2 fun y hy=>by rw [r8 (q9 (h1 y hy))];rfl,List.filter_eq_self.2 fun y hy=>by rw [r8 fun g=>qG (h2 y hy) g];rfl]
 have hb:dx l x=Le l x n:=by
  refine Prod.ext ?_ (Prod.ext ?_ ?_)
  ·exact(mL l x).1.trans hs.1.symm
  ·exact(mL l x).2.trans hs.2.symm
  ·rw [Ck,hfd];rfl
 have hbs:=mL l x
 have hp:dL l x=l.set n (Le l x n):=by
  show fE (jo l x.1 x.2.1) (dx l x)=_
  rw [hw,C0 (fun a ha=>decide_eq_false fun g=>wU _ (ik (h1 a ha) ((Cz hbs).1.1 g))) (fun b hb=>decide_eq_true ((Cz hbs).1.2 (h2 b hb))),hb]
  rw [List.set_eq_take_append_cons_drop,if_pos hn]
 have hl:(dL l x).length≤32:=by rw [hp,List.length_set];exact h.len
 have:=Ex h hx hl
 rw [this.1,this.2,hp];exact ⟨rfl,rfl⟩
theorem IJ {l:List Tg} {x:Tg} {n:Nat} (h:RT l) (hx:ge x=true) (hf:FndT l x n false):dL l x=l.take n++([x]++l.drop n)∧(dL l x).length=l.length+1:=by
 obtain ⟨h1,h2,h3⟩:=HO h.srt hf
 have hb:dx l x=x:=by
  unfold dx
  rw [vL h3,decide_eq_false (by have:=(ie.1 hx).2.1;show ¬ x.2.2 < -1;omega)];rfl
 have hp:dL l x=l.take n++([x]++l.drop n):=by
  show fE (jo l x.1 x.2.1) (dx l x)=_
  rw [FO h3,hb]
  conv=>lhs;rw [← List.take_append_drop n l]
  exact C0 (fun a ha=>decide_eq_false fun g=>wU _ (ik (h1 a ha) g)) (fun b hb=>decide_eq_true (h2 b hb))
 refine ⟨hp,?_⟩
 rw [hp,List.length_append,List.length_append,List.length_take,List.length_drop,List.length_singleton]
 have:=hf.le
 omega
theorem Iq {l:List Tg} {x:Tg} {n:Nat} (h:RT l) (hx:ge x=true) (hf:FndT l x n false) (hl:l.length=32):i4 l x=8∧lV l x=[]:=
 yH (fa.2 h) hx (decide_eq_false (by rw [(IJ h hx hf).2];omega))
theorem HP {l:List Tg} {x:Tg} {n:Nat} (h:RT l) (hx:ge x=true) (hf:FndT l x n false) (hl:¬ l.length=32):i4 l x=0∧lV l x=l.take n++([x]++l.drop n):=by
 have h9:=Ib (fa.2 h) hx (decide_eq_true (show (dL l x).length≤32 by rw [(IJ h hx hf).2];have:=h.len;omega))
 rw [h9.1,h9.2,(IJ h hx hf).1];exact ⟨rfl,rfl⟩
theorem L4 {l:List Tg} {i:Id} {e:cU} {u:Int} {n:Nat} (h:RT l) (hf:FndT l (i,e,u) n true):n<l.length∧kF l i e=0∧oL l i e=l.take n++l.drop (n+1):=by
 obtain ⟨hn,hs,h1,h2⟩:=uh h.srt hf
 have ha:=zE h.srt hf
 have h0:kF l i e=0:=by unfold kF;rw [fa.2 h,show l.any (jn i e)=true from ha];rfl
 refine ⟨hn,h0,?_⟩
 unfold oL;rw [h0]
 show jo l i e=_
 conv=>lhs;rw [sP hn]
 unfold jo
 rw [List.filter_append,List.filter_cons_of_neg (by rw [show jn i e (l.getD n aW)=true from fT.2 hs];decide)]
 rw [List.filter_eq_self.2 fun y hy=>by rw [show jn i e y=false from r8 (q9 (h1 y hy))];rfl,List.filter_eq_self.2 fun y hy=>by rw [show jn i e y=false from r8 fun g=>qG (h2 y hy) g];rfl]
theorem LJ {l:List Tg} {i:Id} {e:cU} {u:Int} {n:Nat} (h:RT l) (hf:FndT l (i,e,u) n false):kF l i e=6∧oL l i e=[]:=by
 have ha:=zE h.srt hf
 have h0:kF l i e=6:=by unfold kF;rw [fa.2 h,show l.any (jn i e)=false from ha];rfl
 exact ⟨h0,by unfold oL;rw [h0];rfl⟩
def vX (m:Tg→Int) (le:Int) (l:List Tg):Nat→Tg × Int × Bool
 |0=>(aW,0,false)
 |k+1=>bif decide (le≤m (l.getD k aW)) && (!(vX m le l k).2.2 || decide ((vX m le l k).2.1<m (l.getD k aW))) then (l.getD k aW,m (l.getD k aW),true) else vX m le l k
theorem HW (m:Tg→Int) (le:Int) (l:List Tg):∀ k,((vX m le l k).2.2=false∧(vX m le l k).1=aW∧∀ j,j<k→m (l.getD j aW)<le)∨((vX m le l k).2.2=true∧∃ j,j<k∧(vX m le l k).1=l.getD j aW∧(vX m le l k).2.1=m (l.getD j aW)∧le≤m (l.getD j aW)∧(∀ i,i<k→le≤m (l.getD i aW)→m (l.getD i aW)≤m (l.getD j aW))∧∀ i,i<j→m (l.getD i aW)<m (l.getD j aW))
 |0=>.inl ⟨rfl,rfl,fun j hj=>absurd hj (Nat.not_lt_zero _)⟩
 |k+1=>by
  have ih:=HW m le l k
  show (_∨_)
  unfold vX
  by_cases hle:le≤m (l.getD k aW)
  ·rcases ih with ⟨h1,h0,h2⟩|⟨h1,j,hj,h2,h3,h4,h5,h6⟩
   ·rw [h1,decide_eq_true hle]
    refine .inr ⟨rfl,k,by omega,rfl,rfl,hle,fun i hi g=>?_,fun i hi=>?_⟩
    ·rcases Nat.lt_or_ge i k with g9|g9
     ·exact absurd g (by have:=h2 i g9;omega)
     ·obtain rfl:i=k:=by omega
      exact Int.le_refl _
    ·have:=h2 i hi;show m (l.getD i aW)<m (l.getD k aW);omega
   ·rw [h1,h3,decide_eq_true hle]
    by_cases hm:m (l.getD j aW)<m (l.getD k aW)
    ·rw [decide_eq_true hm]
     refine .inr ⟨rfl,k,by omega,rfl,rfl,hle,fun i hi g=>?_,fun i hi=>?_⟩
     ·rcases Nat.lt_or_ge i k with g9|g9
      ·have:=h5 i g9 g;show m (l.getD i aW)≤m (l.getD k aW);omega
      ·obtain rfl:i=k:=by omega
       exact Int.le_refl _
     ·show m (l.getD i aW)<m (l.getD k aW)
      by_cases g:le≤m (l.getD i aW)
      ·have:=h5 i hi g;omega
      ·omega
    ·rw [decide_eq_false hm]
     refine .inr ⟨h1,j,by omega,h2,h3,h4,fun i hi g=>?_,h6⟩
     rcases Nat.lt_or_ge i k with g9|g9
     ·exact h5 i g9 g
     ·obtain rfl:i=k:=by omega
      omega
  ·rw [decide_eq_false hle]
   rcases ih with ⟨h1,h0,h2⟩|⟨h1,j,hj,h2,h3,h4,h5,h6⟩
   ·refine .inl ⟨h1,h0,fun i hi=>?_⟩
    rcases Nat.lt_or_ge i k with g9|g9
    ·exact h2 i g9
    ·obtain rfl:i=k:=by omega
     omega
   ·refine .inr ⟨h1,j,by omega,h2,h3,h4,fun i hi g=>?_,h6⟩
    rcases Nat.lt_or_ge i k with g9|g9
    ·exact h5 i g9 g
    ·obtain rfl:i=k:=by omega
     exact absurd g hle
noncomputable def KW (x:Id) (y:Tg):Int:=(iH y.1 x:Int)
noncomputable def E1 (l:List Tg) (x:Id):Tg × Int × Bool:=vX (KW x) 128 l l.length
theorem BP {l:List Tg} {p:Tg→Bool} {j:Nat} (hj:j<l.length) (h:∀ i,i<j→p (l.getD i aW)=false) (hp:p (l.getD j aW)=true):l.find? p=some (l.getD j aW):=yP hj h hp
theorem pI {l:List Tg} (h:ce l=true) (x:Id):((E1 l x).2.2=false→Gb l x=6∧Kr l x=[])∧((E1 l x).2.2=true→Gb l x=0∧Kr l x=l.filter fun y=>decide (y.1=(E1 l x).1.1)):=by
 have hm:=G0 h x
 rcases HW (KW x) 128 l l.length with ⟨h1,_,h2⟩|⟨h1,j,hj,h2,h3,h4,h5,h6⟩
 ·refine ⟨fun _=>?_,fun g=>(by unfold E1 at g;rw [h1] at g;cases g)⟩
  have hn:jU l x=[]:=by
   rcases sU l x with ⟨g,_⟩|⟨n,g1,g2,g3,g4,g5⟩
   ·exact g
   ·exfalso
    obtain ⟨y,hy⟩:=List.exists_mem_of_ne_nil _ g4
    obtain ⟨hy1,hy2⟩:=t4 hy
    obtain ⟨i,hi,rfl⟩:=zL hy1
    have:=h2 i hi
    unfold KW at this
    omega
  rw [hm.1,hm.2,hn];exact ⟨rfl,rfl⟩
 ·refine ⟨fun g=>(by unfold E1 at g;rw [h1] at g;cases g),fun _=>?_⟩
  have e:(E1 l x).1=l.getD j aW:=h2
  rw [e]
  unfold KW at h4 h5 h6
  have hf:jU l x=l.filter fun y=>decide (y.1=(l.getD j aW).1):=by
   rcases sU l x with ⟨_,g⟩|⟨n,g1,g2,g3,g4,g5⟩
   ·have:=g _ (jy hj);omega
   ·have hn:iH (l.getD j aW).1 x=n:=by
     obtain ⟨y,hy⟩:=List.exists_mem_of_ne_nil _ g4
     obtain ⟨hy1,hy2⟩:=t4 hy
     obtain ⟨i,hi,rfl⟩:=zL hy1
     have:=h5 i hi (by omega)
     have:=g5 _ (jy hj)
     omega
    rw [g3,ii (z:=l.getD j aW) (BP hj (fun i hi=>decide_eq_false (by have:=h6 i hi;omega)) (decide_eq_true hn))]
    refine List.filter_congr fun y hy=>?_
    by_cases g:y.1=(l.getD j aW).1
    ·rw [decide_eq_true (show iH y.1 x=n by rw [g];exact hn)];simp
    ·rw [decide_eq_false g];simp
  have hl:(jU l x).length≠0:=by
   rw [hf]
   have:l.getD j aW∈l.filter fun y=>decide (y.1=(l.getD j aW).1):=List.mem_filter.2 ⟨jy hj,by simp⟩
   have:=List.length_pos_of_mem this
   omega
  rw [hm.1,hm.2,decide_eq_false hl]
  exact ⟨rfl,hf⟩
theorem St.grp1 {w0 w:World} {a:Value} {M:TypeId} {sa n:Nat} {xs:List Value} {ks:List Nat} {S S':World→Prop} {B:List Own} (s:St w0 (.sl a M sa n xs::.grp ks S::B) w) (h:∀ w9,bI w9 a sa n xs→S w9→S' w9):∃ kn,St w0 (.grp kn S'::B) w:=
 ⟨_,(St.group (A:=[.sl a M sa n xs,.grp ks S]) (B:=B) s).weak fun w9 h9=>h w9 (bI.of_own (h9 (.sl a M sa n xs) (by simp))) ((h9 (.grp ks S) (by simp)).2 w9 fun _ _=>rfl)⟩
theorem sB (ls:List (List Tg)) (k:Nat) (h:k<ls.length):(ls.take (k+1)).flatten=(ls.take k).flatten++ls.getD k []:=by
 rw [List.take_succ_eq_append_getElem h,List.flatten_append,List.getD_eq_getElem?_getD,List.getElem?_eq_getElem h];simp
theorem qy (ls:List (List Tg)) (k:Nat) (h:k<ls.length):(ls.take k).flatten.length+(ls.getD k []).length=(ls.take (k+1)).flatten.length:=by
 rw [sB ls k h,List.length_append]
theorem wM (ls:List (List Tg)) (k:Nat) (h:k<ls.length):aJ (ls.take k).flatten++aJ (ls.getD k [])=aJ (ls.take (k+1)).flatten:=by
 rw [sB ls k h,gl]
theorem yI (ls:List (List Tg)) (k:Nat):(ls.take k).flatten.length≤ls.flatten.length:=by
 have:=congrArg (fun x=>x.flatten.length) (List.take_append_drop k ls)
 simp only [List.flatten_append,List.length_append] at this
 omega
theorem uH {w:World} {base:Nat} {e:TypeId} {v:Value} {ls:List (List Tg)} {i:Nat} (hi:ls.length≤i) (h:cB w base e 67 v (ls.take i).flatten.length (aJ (ls.take i).flatten)):cB w base e 67 v ls.flatten.length (aJ ls.flatten):=by
 rwa [List.take_of_length_le hi] at h
theorem FQ {w:World} {l r:List Tg} {vl vr:Value} (h1:dW w vl l) (h2:dW w vr r):∀ k,k<[vl,vr].length→bI w ([vl,vr].getD k undef) 67 (([l,r].getD k []).length) (aJ ([l,r].getD k [])):=fun k hk=>by
 match k,hk with
 |0,_=>exact h1
 |1,_=>exact h2
theorem Aw {w:World} {u v x:Value} {a b c:List Tg} (h1:dW w u a) (h2:dW w v b) (h3:dW w x c):∀ k,k<[u,v,x].length→bI w ([u,v,x].getD k undef) 67 ([a,b,c].getD k []).length (aJ ([a,b,c].getD k [])):=fun k hk=>by
 match k,hk with
 |0,_=>exact h1
 |1,_=>exact h2
 |2,_=>exact h3
theorem oJ (l r:List Tg):[l,r].flatten=l++r:=by simp
theorem lY (a b c:List Tg):[a,b,c].flatten=a++(b++c):=by simp
theorem xz {w:World} {a:Option Addr} {n c:Nat} {l:List Tg} (ha:a.isNone=true) (h:bI w (.slice a n c) 67 l.length (aJ l)):l=[]:=by
 cases a with
 |some p=>cases ha
 |none=>
  rcases h.2 with ⟨h1,h2⟩|⟨p,cap,h1,_⟩
  ·exact List.eq_nil_of_length_eq_zero h2
  ·cases h1
theorem l3 {w:World} {v:Value} {l:List Tg} (h:dW w v l) (k:Nat) (hk:k≤l.length):dW w (eg v 67 k) (l.drop k):=by
 have:=h.drop k hk
 unfold aJ at this
 rw [mU _ 67 fQ] at this
 unfold dW aJ
 rw [List.length_drop];exact this
section
variable {P:Program} {ρ:Operand→Value} {d:Option Tmp} {ty:TypeId} {pos:String} {af:Array Edge} {g:Option (Nat × Bool)} {x y z:Operand} {t:TypeId}
theorem Kx {k:IntKind} {m n:Int} {tys:Array TypeId} (hx:ρ x=.int k m) (hy:ρ y=.int k n):aM P ⟨d,.call {callee:=.builtin .max,args:=#[x,y],argTypes:=tys},ty,pos,af,g⟩ ρ (.int k (if n>m then n else m)):=fun w=>by
 simp [execOp,resolve,hx,hy,invoke,builtin,Builtin.max_,Builtin.max2,Sem.run_bind]
theorem vZ {C:Array Value} {V:Value} {len:Nat} {e:TypeId} {ps rs:Array TypeId} {vr:Bool} {k:IntKind} {m:Int} (j:Nat) (hd:P.underlying t=some (.array len e)) (he:(P.info? e).map (·.size)=some 1) (ha:P.underlying e=some (.func ps rs vr)) (hx:ρ x=.agg C) (hy:ρ y=.int k m) (hj:m=(j:Int)) (hlt:j<len) (hC:C[j]? = some V):aM P ⟨d,.index t x y,ty,pos,af,g⟩ ρ V:=fun w=>by
 subst hj
 cases hi:P.info? e with
 |none=>simp [hi] at he
 |some i=>
  have h1:i.size=1:=by simpa [hi] using he
  have h2:(0:Int)≤(j:Int)∧(j:Int)<(len:Int):=by omega
  simp only [execOp,hx,hy,Instr.index,asIntOf,Sem.run_bind,Sem.run_pure,Result.andThen_ok,run_underlying hd w]
  rw [if_pos h2]
  have h3:(isAgg e).run P w=.ok false w:=by unfold isAgg;rw [Sem.run_bind,run_underlying ha w];rfl
  simp [Sem.run_bind,sizeOf,typeInfo,hi,h1,part,h3,hC]
end
def OJ (a b c d k:Nat):Nat:=match k with|0=>a|1=>b|2=>c|_=>d
theorem Kc {a b c d k:Nat} (hk:k<4):(#[Value.func (.func a) #[] #[],.func (.func b) #[] #[],.func (.func c) #[] #[],.func (.func d) #[] #[]]:Array Value)[k]? = some (.func (.func (OJ a b c d k)) #[] #[]):=by
 match k,hk with
 |0,_=>rfl
 |1,_=>rfl
 |2,_=>rfl
 |3,_=>rfl
theorem FM (i j:Nat):((i:Int)+(j:Int)).fdiv (2 ^ (min (1:Int).toNat IntKind.u64.bits))=(((i+j) / 2:Nat):Int):=by
 rw [show (2:Int) ^ (min (1:Int).toNat IntKind.u64.bits)=2 from rfl,Int.fdiv_eq_ediv_of_nonneg _ (by decide)]
 omega
theorem Nm {m:Tg→Int} {le:Int} {l:List Tg} {k:Nat} {z:Tg} {mo:Int} {bi:Bool} (hp:(z,mo,bi)=vX m le l k) (h0:decide (le≤m (l.getD k aW))=true) (h:(!bi || decide (mo<m (l.getD k aW)))=true):(l.getD k aW,m (l.getD k aW),true)=vX m le l (k+1):=by
 show _=(bif _ then _ else _)
 rw [← hp,h0,h];rfl
theorem M7 {m:Tg→Int} {le:Int} {l:List Tg} {k:Nat} {z:Tg} {mo:Int} {bi:Bool} (hp:(z,mo,bi)=vX m le l k) (h:(decide (le≤m (l.getD k aW)) && (!bi || decide (mo<m (l.getD k aW))))=false):(z,mo,bi)=vX m le l (k+1):=by
 show _=(bif _ then _ else _)
 rw [← hp,h];rfl
section
variable {P:Program} {ρ:Operand→Value} {d:Option Tmp} {ty:TypeId} {pos:String} {af:Array Edge} {g:Option (Nat × Bool)} {x y z:Operand} {t:TypeId}
theorem rL {i:Id} {e:cU} (S:Stt P t Bk) (hx:ρ x=.agg (aA i)) (hy:ρ y=.agg (bg e)):aM P ⟨d,.build t #[(0,x),(1,y)],ty,pos,af,g⟩ ρ (.agg (aB (i,e,0))):=by
 have:=bb (P:=P) (ρ:=ρ) (d:=d) (ty:=ty) (pos:=pos) (af:=af) (g:=g) (parts:=#[(0,x),(1,y)]) S [(0,.agg (aA i)),(1,.agg (bg e))] (by simp [hx,hy]) (fun j u hm=>by
  simp only [List.mem_cons,Prod.mk.injEq,List.not_mem_nil,or_false] at hm
  rcases hm with ⟨rfl,rfl⟩|⟨rfl,rfl⟩
  ·exact ⟨_,rfl,by simp [Value.cells]⟩
  ·exact ⟨_,rfl,by show (bg e).size=34;exact aC e⟩) (D:=lH (i,e,0)) (by
   show (aA i).toList++((bg e).toList++([Value.int .i64 0]++[]))=_
   rfl)
 exact this
end
theorem H3 {v:Value} (h:v.oneCell'=true):v.cells.size=1∧v.cells.toList=[v]:=by cases v<;>first|exact ⟨rfl,rfl⟩|cases h
theorem nS {w w':World} {vh v:Value} {N:TypeId} {l K L:List Tg} {E e:Int} (hE:E=e) (hK:K=L) (s:St w [.sl v N 67 L.length (aJ L)] w'):Lg w vh l K E (.tuple #[v,.int .i64 e]) w':=by
 subst hE;subst hK
 obtain ⟨kn,s⟩:=((s.grp0 (S:=fun _=>True) (fun _=>trivial)).perm (List.Perm.swap ..)).grp1 (S':=fun w9=>dW w9 vh l→dW w9 v K) (fun w9 h _ _=>h)
 exact ⟨v,kn,rfl,s⟩
theorem i7 {w w':World} {vh:Value} {l K:List Tg} {E e:Int} (hE:E=e) (hK:K=[]) (s:St w [] w'):Lg w vh l K E (.tuple #[.slice none 0 0,.int .i64 e]) w':=by
 subst hE;subst hK
 exact ⟨_,[],rfl,s.grp0 (S:=fun w9=>dW w9 vh l→dW w9 aI []) (fun w9 _=>bS w9)⟩
theorem MV (l:List Tg) (n:Nat) (hn:n<l.length):(aJ l)[n*67+66]? = some (.int .i64 (l.getD n aW).2.2):=by
 have h:=dX l n hn
 have h1:=congrArg (fun a=>a[66]?) h
 simp only [List.getElem?_toArray] at h1
 rw [dD,List.getElem?_take_of_lt (by decide),List.getElem?_drop] at h1
 exact h1
theorem Jz {l:List Tg} {n:Nat} (hn:n<l.length) (y:Tg) (off:Nat) (V:Value) (hoff:off<67) (h:(aB (l.getD n aW)).setIfInBounds off V=aB y):(aJ l).set (n*67+off) V=aJ (l.set n y):=by
 have hl:aJ l=aJ (l.take n)++((aB (l.getD n aW)).toList++aJ (l.drop (n+1))):=by
  conv=>lhs;rw [sP hn]
  rw [gl,show l.getD n aW::l.drop (n+1)=[l.getD n aW]++l.drop (n+1) from rfl,gl,jg]
 have h1:(aJ (l.take n)).length=n*67:=by rw [vS,List.length_take,Nat.min_eq_left (by omega)]
 have h2:((aB (l.getD n aW)).toList.set off V)=(aB y).toList:=by rw [← h,Array.toList_setIfInBounds]
 rw [hl,List.set_append_right _ _ (by omega),h1,Nat.add_sub_cancel_left,List.set_append_left _ _ (by rw [Array.length_toList,ao];exact hoff),h2]
 rw [List.set_eq_take_append_cons_drop,if_pos hn,gl,show y::l.drop (n+1)=[y]++l.drop (n+1) from rfl,gl,jg]
end Go.Proofs.YtobfeflheaobiaaGreatDoor
namespace Go.Proofs.YtobfeflheaobiaaGreatDoor
open Go.RowKit Go.ChangeShapes Go.WideShapes Go.ChangeAt
theorem EE {H:Type} {enc:TypeId × Value→H} {P:Program} {w:World} {base:Nat} {spare:Nat→Bool} {held:Bool} {t te tn ti e:TypeId} {f0 f1 f2 g0 g1 g2:Field} {fuel:Nat} {cs:List Value} {x:DataW H × List MemPlace} (T:IdTy P ti e) (hc:P.cellsOf ti=32) (hce:P.cellsOf e=1) (hn:P.underlying tn=some (.int .i64)) (hcn:P.cellsOf tn=1)
 (hte:P.underlying te=some (.struct #[f0,f1,f2])) (h0:f0.type=tn) (h1:f1.type=ti) (h2:f2.type=tn) (o0:f0.offset=0) (o1:f1.offset=1) (o2:f2.offset=33) (hcte:P.cellsOf te=34)
 (ht:P.underlying t=some (.struct #[g0,g1,g2])) (k0:g0.type=ti) (k1:g1.type=te) (k2:g2.type=tn) (p0:g0.offset=0) (p1:g1.offset=32) (p2:g2.offset=66) (hct:P.cellsOf t=67)
 (h:DataW.trod enc P w base spare held fuel t cs=some x):∃ l:Tg,cs=(aB l).toList:=by
 obtain ⟨xs,n,rfl,_,hl,hxl,hel⟩:=DataW.trod_struct ht h
 rw [hct] at hl
 have hx2:xs.length=3:=by simpa using hxl
 have e0:=hel 0 g0 rfl
 have e1:=hel 1 g1 rfl
 have e2:=hel 2 g2 rfl
 rw [k0,p0,hc,List.getElem?_eq_getElem (by omega)] at e0
 rw [k1,p1,hcte,List.getElem?_eq_getElem (by omega)] at e1
 rw [k2,p2,hcn,List.getElem?_eq_getElem (by omega)] at e2
 obtain ⟨a,ha⟩:=qQ T hc hce e0
 obtain ⟨b,hb⟩:=oD T hc hce hn hcn hte h0 h1 h2 o0 o1 o2 hcte e1
 obtain ⟨u,hu,_⟩:=DataW.trod_int hn e2
 refine ⟨(a,b,u),?_⟩
 show cs=(aA a).toList++((bg b).toList++[.int .i64 u])
 rw [← ha,← hb,← hu,List.drop_zero]
 have s1:(cs.drop 66).take 1=cs.drop 66:=List.take_of_length_le (by rw [List.length_drop];omega)
 have s2:(cs.drop 32).take 34++cs.drop 66=cs.drop 32:=by
  have:=List.take_append_drop 34 (cs.drop 32)
  rw [List.drop_drop] at this
  exact this
 rw [s1,s2,List.take_append_drop]
end Go.Proofs.YtobfeflheaobiaaGreatDoor
