/- Triggers and tables: which may be, which is below which, what is put, dropped, over, matched and cut; what may be stays such, parts put together, and in whatever order; triggers that come in; no Go in it. -/
import Derived.Test.YtobfeflheaobiaaGreatDoorLk
set_option linter.unusedVariables false
set_option linter.unusedSimpArgs false
set_option linter.unusedSectionVars false
namespace Go.Proofs.YtobfeflheaobiaaGreatDoor
open Go.RowKit
abbrev Tg:=Id × cw × Int
def jy (t:Tg):List Value:=(aw t.1).toList++((bc t.2.1).toList++[.int .i64 t.2.2])
def au (t:Tg):Array Value:=(jy t).toArray
def aN:Tg:=(0#256,(0,0#256,0),0)
theorem ex (t:Tg):(jy t).length=67:=by simp [jy,aK]
theorem ai (t:Tg):(au t).size=67:=by simp [au,ex]
theorem j5 (t:Tg):∀ v∈jy t,v.oneCell'=true:=fun v hv=>by
 unfold jy at hv
 rcases List.mem_append.1 hv with hv|hv
 ·rw [dF] at hv;exact bM _ _ v hv
 ·rcases List.mem_append.1 hv with hv|hv
  ·exact fO _ v hv
  ·rw [List.mem_singleton] at hv;subst hv;rfl
theorem aY (t:Tg):∀ v∈(au t).toList,v.oneCell'=true:=j5 t
theorem ed (x:Id):(aw x).toList.length=32:=by simp
theorem jO (e:cw):(bc e).toList.length=34:=by rw [Array.length_toList,aK]
theorem rW (t:Tg):((au t).toList.drop 0).take 32=(aw t.1).toList:=by
 show ((jy t).drop 0).take 32=_
 unfold jy
 rw [List.drop_zero,List.take_left' (ed _)]
theorem rX (t:Tg):((au t).toList.drop 32).take 34=(bc t.2.1).toList:=by
 show ((jy t).drop 32).take 34=_
 unfold jy
 rw [List.drop_left' (ed _),List.take_left' (jO _)]
theorem uz (t:Tg):((au t).toList.drop 66).take 1=[Value.int .i64 t.2.2]:=by
 show ((jy t).drop 66).take 1=_
 unfold jy
 rw [← List.append_assoc,List.drop_left' (by rw [List.length_append,ed,jO])];rfl
theorem kK (L:List Value) (C:Array Value) (a n:Nat) (h:(L.drop a).take n=C.toList):L.toArray.extract a (a+n)=C:=by
 apply Array.ext'
 rw [Array.toList_extract,List.extract_eq_take_drop,Nat.add_sub_cancel_left]
 exact h
theorem dh (t:Tg):(au t).extract 0 (0+32)=aw t.1:=kK _ _ _ _ (rW t)
theorem gI (t:Tg):(au t).extract 32 (32+34)=bc t.2.1:=kK _ _ _ _ (rX t)
theorem i6 (t:Tg):(au t).extract 33 (33+32)=aw t.2.1.2.1:=kK _ _ _ _ (by
 show ((jy t).drop 33).take 32=_
 unfold jy
 rw [show 33=32+1 from rfl,← List.drop_drop,List.drop_left' (ed _),dP,List.cons_append,List.drop_succ_cons,List.drop_zero,List.append_assoc,List.take_left' (ed _)])
theorem fe (t:Tg):(au t)[32]? = some (.int .i64 t.2.1.1):=by
 unfold au jy
 rw [List.getElem?_toArray,List.getElem?_append_right (by rw [ed];exact Nat.le_refl _),ed,dP];rfl
theorem gO (t:Tg):(au t)[65]? = some (.int .i64 t.2.1.2.2):=by
 unfold au jy
 rw [List.getElem?_toArray,List.getElem?_append_right (by rw [ed];omega),ed,List.getElem?_append_left (by rw [jO];omega)]
 have:=df t.2.1
 rw [← Array.getElem?_toList] at this
 exact this
theorem cR (t:Tg):(au t)[66]? = some (.int .i64 t.2.2):=by
 unfold au jy
 rw [List.getElem?_toArray,← List.append_assoc,List.getElem?_append_right (by rw [List.length_append,ed,jO];exact Nat.le_refl _),List.length_append,ed,jO];rfl
theorem xo {x y:Tg} (h:(au x).toList=(au y).toList):x=y:=by
 have h0:=rW x;rw [h,rW] at h0
 have h1:=rX x;rw [h,rX] at h1
 have h2:=uz x;rw [h,uz] at h2
 refine Prod.ext (oT (Array.toList_inj.1 h0)).symm (Prod.ext (r6 h1).symm ?_)
 simpa using h2.symm
theorem JL (x y:Tg):decide (x=y)=true↔(au x).toList=(au y).toList:=by
 rw [decide_eq_true_eq];exact ⟨fun h=>by rw [h],xo⟩
def xT:List (List Value):=[List.replicate 32 (.int .u8 0),.int .i64 0::(List.replicate 32 (.int .u8 0)++[.int .i64 0]),[.int .i64 0]]
theorem px:au aN=xT.flatten.toArray:=by
 unfold au jy aN;rw [eV,eY];rfl
def aA (l:List Tg):List Value:=l.flatMap jy
theorem mg (l:List Tg):(aA l).length=l.length*67:=i9 _ 67 ex l
theorem eD (l r:List Tg):aA (l++r)=aA l++aA r:=List.flatMap_append
theorem gk (t:Tg):aA [t]=(au t).toList:=by simp [aA,au]
theorem kG (l:List Tg):∀ u∈aA l,u.oneCell'=true:=fun u hu=>by
 obtain ⟨x,_,hx⟩:=List.mem_flatMap.1 hu
 exact j5 x u hx
theorem kz (m:Tg):∀ v∈([.agg (au m)]:List Value),v.cells.size=67:=fun v hv=>by
 rw [List.mem_singleton] at hv;subst hv;exact ai m
theorem dY (m:Tg):([Value.agg (au m)].flatMap fun v=>v.cells.toList)=(au m).toList:=by simp [Value.cells]
theorem gm (l:List Tg) (x:Tg):aA l++(au x).toList=aA (l++[x]):=by rw [eD,gk]
theorem q9 {l:List Tg} {j:Nat} (hj:j<l.length):l[j]=l.getD j aN:=by
 rw [List.getD_eq_getElem?_getD,List.getElem?_eq_getElem hj];rfl
theorem dd (l:List Tg) (j:Nat) (hj:j<l.length):(((aA l).drop (j*67)).take 67).toArray=au (l.getD j aN):=by
 unfold aA
 rw [iO _ 67 ex l j hj,q9 hj];rfl
theorem fC {l:List Tg} {j:Nat} (hj:j<l.length):l.getD j aN∈l:=by rw [← q9 hj];exact List.getElem_mem hj
theorem wy {l:List Tg} {x:Tg} (h:x∈l):∃ j,j<l.length∧l.getD j aN=x:=by
 obtain ⟨j,hj,rfl⟩:=List.mem_iff_getElem.1 h
 exact ⟨j,hj,(q9 hj).symm⟩
theorem gg {w:World} {v:Value} {l:List Tg} (h:bK w v 67 l.length (aA l)) (k:Nat) (hk:k≤l.length):bK w (dE v k) 67 (l.take k).length (aA (l.take k)):=by
 have:=h.cut k hk
 unfold aA at this
 rw [mU _ 67 ex] at this
 rw [List.length_take,Nat.min_eq_left hk]
 exact this
theorem gP {l:List Tg} {d:Nat} (hd:d<l.length):l.take (d+1)=l.take d++[l.getD d aN]:=by rw [List.take_succ_eq_append_getElem hd,q9 hd]
def er (t:Tg):Bool:=eR t.2.1 && (decide (0≤t.2.2) && decide (t.2.2≤1099511627776))
def gz (a b:Tg):Prop:=a.1.toNat<b.1.toNat∨(a.1=b.1∧(a.2.1.1<b.2.1.1∨(a.2.1.1=b.2.1.1∧(a.2.1.2.1.toNat<b.2.1.2.1.toNat∨(a.2.1.2.1=b.2.1.2.1∧a.2.1.2.2<b.2.1.2.2)))))
instance (a b:Tg):Decidable (gz a b):=by unfold gz;infer_instance
def eu (a b:Tg):Bool:=decide (gz a b)
def il (a b:Tg):Prop:=a.1=b.1∧a.2.1=b.2.1
instance (a b:Tg):Decidable (il a b):=by unfold il;infer_instance
theorem j6 {a b:Id}:a=b↔a.toNat=b.toNat:=BitVec.toNat_inj.symm
theorem tk {a b:cw}:a=b↔a.1=b.1∧a.2.1=b.2.1∧a.2.2=b.2.2:=⟨fun h=>by rw [h];exact ⟨rfl,rfl,rfl⟩,fun ⟨h1,h2,h3⟩=>Prod.ext h1 (Prod.ext h2 h3)⟩
theorem tH (a:Tg):¬ gz a a:=by unfold gz;omega
theorem fu {a b c:Tg} (h:gz a b) (g:gz b c):gz a c:=by
 unfold gz at *
 simp only [j6] at *
 omega
theorem yv (a b:Tg):gz a b∨il a b∨gz b a:=by
 unfold gz il
 simp only [tk,j6]
 omega
theorem m8 {a b:Tg} (h:gz a b):¬ il a b:=by
 unfold gz at h;unfold il
 simp only [tk,j6] at *
 omega
theorem nc {a b:Tg} (h:gz a b):¬ il b a:=fun g=>m8 h ⟨g.1.symm,g.2.symm⟩
theorem yT {a b c:Tg} (h:il a b):(gz a c↔gz b c)∧(gz c a↔gz c b):=by
 unfold gz
 rw [h.1,h.2];exact ⟨Iff.rfl,Iff.rfl⟩
theorem il.symm {a b:Tg} (h:il a b):il b a:=⟨h.1.symm,h.2.symm⟩
theorem il.trans {a b c:Tg} (h:il a b) (g:il b c):il a c:=⟨h.1.trans g.1,h.2.trans g.2⟩
def oR (l:List Tg):Prop:=l.Pairwise gz
theorem F4 {l:List Tg} (h:oR l) {a b:Tg} (ha:a∈l) (hb:b∈l) (e:il a b):a=b:=by
 obtain ⟨i,hi,rfl⟩:=List.mem_iff_getElem.1 ha
 obtain ⟨j,hj,rfl⟩:=List.mem_iff_getElem.1 hb
 rcases Nat.lt_trichotomy i j with g|g|g
 ·exact absurd e (m8 (List.pairwise_iff_getElem.1 h i j hi hj g))
 ·subst g;rfl
 ·exact absurd e (nc (List.pairwise_iff_getElem.1 h j i hj hi g))
theorem oR.filter {l:List Tg} (h:oR l) (p:Tg→Bool):oR (l.filter p):=List.Pairwise.filter p h
def G6 (l:List Tg) (k:Nat):Bool:=decide (k=0) || eu (l.getD (k - 1) aN) (l.getD k aN)
def tR (l:List Tg) (k:Nat):Bool:=er (l.getD k aN) && G6 l k
def bp (l:List Tg):Bool:=(List.range l.length).all (tR l) && decide (l.length≤32)
structure RT (l:List Tg):Prop where
 may:∀ y∈l,er y=true
 srt:oR l
 len:l.length≤32
theorem dK {l:List Tg}:bp l=true↔RT l:=by
 unfold bp
 rw [Bool.and_eq_true,List.all_eq_true,decide_eq_true_eq]
 constructor
 ·rintro ⟨h1,h2⟩
  have hok:∀ k,k<l.length→tR l k=true:=fun k hk=>h1 k (List.mem_range.2 hk)
  refine ⟨fun y hy=>?_,?_,h2⟩
  ·obtain ⟨j,hj,rfl⟩:=wy hy
   have:=hok j hj
   unfold tR at this
   exact(Bool.and_eq_true _ _▸this:_∧_).1
  ·have hs:∀ k,k+1<l.length→gz (l.getD k aN) (l.getD (k+1) aN):=fun k hk=>by
    have:=hok (k+1) hk
    unfold tR G6 at this
    rw [Bool.and_eq_true,decide_eq_false (by omega),Bool.false_or] at this
    exact of_decide_eq_true this.2
   have key:∀ d i,i+d+1<l.length→gz (l.getD i aN) (l.getD (i+d+1) aN):=fun d=>by
    induction d with
    |zero=>intro i hi;exact hs i hi
    |succ d ih=>intro i hi;exact fu (ih i (by omega)) (hs (i+d+1) hi)
   unfold oR
   rw [List.pairwise_iff_getElem]
   intro i j hi hj hij
   have:=key (j - i - 1) i (by omega)
   rw [show i+(j - i - 1)+1=j by omega] at this
   rw [q9 hi,q9 hj];exact this
 ·rintro ⟨h1,h2,h3⟩
  refine ⟨fun k hk=>?_,h3⟩
  have hk:=List.mem_range.1 hk
  unfold tR G6
  rw [h1 _ (fC hk),Bool.true_and]
  by_cases h0:k=0
  ·rw [decide_eq_true h0];rfl
  ·rw [decide_eq_false h0,Bool.false_or]
   have:=List.pairwise_iff_getElem.1 h2 (k - 1) k (by omega) hk (by omega)
   rw [q9 (by omega),q9 hk] at this
   exact decide_eq_true this
theorem gV {l:List Tg} {k:Nat} (hk:k<l.length) (h:tR l k=false):bp l=false:=by
 unfold bp
 rw [Bool.and_eq_false_iff]
 exact .inl (List.all_eq_false.2 ⟨k,List.mem_range.2 hk,by rw [h];decide⟩)
theorem lH {l:List Tg} (h:∀ k,k<l.length→tR l k=true):bp l=decide (l.length≤32):=by
 unfold bp
 rw [List.all_eq_true.2 fun k hk=>h k (List.mem_range.1 hk),Bool.true_and]
def gn (i:Id) (e:cw) (y:Tg):Bool:=decide (y.1=i) && decide (y.2.1=e)
theorem ew {x y:Tg}:gn x.1 x.2.1 y=true↔il y x:=by
 unfold gn;rw [Bool.and_eq_true,decide_eq_true_eq,decide_eq_true_eq];exact Iff.rfl
def Jw:Tg:=(0#256,(0,0#256,0),-1)
def dH (l:List Tg) (i:Id) (e:cw):Tg:=(l.find? (gn i e)).getD Jw
def iX (l:List Tg) (i:Id) (e:cw):List Tg:=l.filter fun y => !gn i e y
theorem qQ {l:List Tg} (h:oR l) {x y:Tg} (hy:y∈l) (hs:il y x):dH l x.1 x.2.1=y:=by
 unfold dH
 cases hf:l.find? (gn x.1 x.2.1) with
 |none=>
  have:=List.find?_eq_none.1 hf y hy
  rw [ew.2 hs] at this;exact absurd rfl this
 |some z=>
  have h1:=List.mem_of_find?_eq_some hf
  have h2:gn x.1 x.2.1 z=true:=List.find?_some hf
  exact F4 h h1 hy ((ew.1 h2).trans hs.symm)
theorem se {l:List Tg} {x:Tg} (h:∀ y∈l,¬ il y x):dH l x.1 x.2.1=Jw:=by
 unfold dH
 rw [List.find?_eq_none.2 fun y hy=>by rw [ew];exact h y hy];rfl
theorem tX {l:List Tg} (h:oR l) (x:Tg):(∃ y∈l,il y x∧dH l x.1 x.2.1=y)∨((∀ y∈l,¬ il y x)∧dH l x.1 x.2.1=Jw):=by
 by_cases h9:∃ y∈l,il y x
 ·obtain ⟨y,hy,hs⟩:=h9
  exact .inl ⟨y,hy,hs,qQ h hy hs⟩
 ·have:∀ y∈l,¬ il y x:=fun y hy hs=>h9 ⟨y,hy,hs⟩
  exact .inr ⟨this,se this⟩
def cm (l:List Tg) (x:Tg):Tg:=bif decide (x.2.2<(dH l x.1 x.2.1).2.2) then (x.1,x.2.1,(dH l x.1 x.2.1).2.2) else x
def ef (l:List Tg) (x:Tg):List Tg:=l.takeWhile (fun y => !eu x y)++x::l.dropWhile (fun y => !eu x y)
def cP (l:List Tg) (x:Tg):List Tg:=ef (iX l x.1 x.2.1) (cm l x)
def fW (l:List Tg) (x:Tg):Int:=bif bp l && er x then (bif decide ((cP l x).length≤32) then 0 else 8) else 1
def ip (l:List Tg) (x:Tg):List Tg:=bif decide (fW l x=0) then cP l x else []
theorem jF (l:List Tg) (x:Tg):il (cm l x) x:=by unfold cm;cases decide (x.2.2<(dH l x.1 x.2.1).2.2)<;>exact ⟨rfl,rfl⟩
theorem zL (l:List Tg) (x:Tg):(cm l x).2.2=max (dH l x.1 x.2.1).2.2 x.2.2:=by
 unfold cm
 by_cases h:x.2.2<(dH l x.1 x.2.1).2.2
 ·rw [decide_eq_true h];show (dH l x.1 x.2.1).2.2=_;omega
 ·rw [decide_eq_false h];show x.2.2=_;omega
theorem vW {l:List Tg} {x y:Tg}:y∈ef l x↔y∈l∨y=x:=by
 unfold ef
 have e:l.takeWhile (fun y => !eu x y)++l.dropWhile (fun y => !eu x y)=l:=List.takeWhile_append_dropWhile
 rw [List.mem_append,List.mem_cons]
 constructor
 ·rintro (h|h|h)
  ·exact .inl (by rw [← e];exact List.mem_append_left _ h)
  ·exact .inr h
  ·exact .inl (by rw [← e];exact List.mem_append_right _ h)
 ·rintro (h|h)
  ·rw [← e] at h
   rcases List.mem_append.1 h with h|h
   ·exact .inl h
   ·exact .inr (.inr h)
  ·exact .inr (.inl h)
theorem CA (l:List Tg) (x:Tg):(ef l x).length=l.length+1:=by
 unfold ef
 have e:l.takeWhile (fun y => !eu x y)++l.dropWhile (fun y => !eu x y)=l:=List.takeWhile_append_dropWhile
 have:=congrArg List.length e
 rw [List.length_append] at this
 rw [List.length_append,List.length_cons];omega
theorem ux:∀ {l:List Tg} {x:Tg},oR l→(∀ y∈l,¬ il y x)→oR (ef l x)
 |[],x,_,_=>by unfold ef;exact List.pairwise_singleton _ _
 |a::l,x,hl,hn=>by
  have h1:=List.pairwise_cons.1 hl
  by_cases h:gz x a
  ·have hb:eu x a=true:=decide_eq_true h
   have e:ef (a::l) x=x::a::l:=by unfold ef;rw [List.takeWhile_cons,List.dropWhile_cons,hb];rfl
   rw [e]
   refine List.pairwise_cons.2 ⟨fun y hy=>?_,hl⟩
   rcases List.mem_cons.1 hy with rfl|hy
   ·exact h
   ·exact fu h (h1.1 y hy)
  ·have hb:eu x a=false:=decide_eq_false h
   have e:ef (a::l) x=a::ef l x:=by unfold ef;rw [List.takeWhile_cons,List.dropWhile_cons,hb];rfl
   rw [e]
   refine List.pairwise_cons.2 ⟨fun y hy=>?_,ux h1.2 fun y hy=>hn y (List.mem_cons_of_mem _ hy)⟩
   rcases vW.1 hy with hy|rfl
   ·exact h1.1 y hy
   ·rcases yv a y with g|g|g
    ·exact g
    ·exact absurd g (hn a (List.mem_cons_self ..))
    ·exact absurd g h
theorem wc {l:List Tg} {x y:Tg}:y∈iX l x.1 x.2.1↔y∈l∧¬ il y x:=by
 unfold iX
 rw [List.mem_filter,Bool.not_eq_true',← Bool.not_eq_true,ew]
theorem yB {l:List Tg} {x y:Tg}:y∈cP l x↔(y∈l∧¬ il y x)∨y=cm l x:=by
 unfold cP
 rw [vW,wc]
theorem yS {l:List Tg} (h:oR l) (x:Tg):oR (cP l x):=ux (h.filter _) fun y hy hs=>(wc.1 hy).2 (hs.trans (jF l x))
theorem fv {t:Tg}:er t=true↔eR t.2.1=true∧0≤t.2.2∧t.2.2≤1099511627776:=by
 unfold er;rw [Bool.and_eq_true,Bool.and_eq_true,decide_eq_true_eq,decide_eq_true_eq]
theorem CQ {l:List Tg} (h:RT l) {x:Tg} (hx:er x=true):er (cm l x)=true:=by
 have hx9:=fv.1 hx
 rw [fv,(jF l x).2,zL]
 refine ⟨hx9.1,by omega,?_⟩
 rcases tX h.srt x with ⟨y,hy,_,e⟩|⟨_,e⟩
 ·have:=(fv.1 (h.may y hy)).2.2
  rw [e];omega
 ·rw [e];show max (-1:Int) _≤_;omega
theorem tN {l:List Tg} (h:RT l) {x:Tg} (hx:er x=true) (hl:(cP l x).length≤32):RT (cP l x):=by
 refine ⟨fun y hy=>?_,yS h.srt x,hl⟩
 rcases yB.1 hy with ⟨h1,_⟩|rfl
 ·exact h.may y h1
 ·exact CQ h hx
def gS (l:List Tg) (i:Id) (e:cw):Int:=bif bp l then (bif l.any (gn i e) then 0 else 6) else 1
def lB (l:List Tg) (i:Id) (e:cw):List Tg:=bif decide (gS l i e=0) then iX l i e else []
def wV (l:List Tg):Int:=bif bp l then 0 else 1
def xx (l:List Tg) (now:Int):List Tg:=l.filter fun y=>decide (now<y.2.2)
def t2 (l:List Tg) (now:Int):List Tg:=bif bp l then xx l now else []
def pY (l:List Tg) (a b:Id) (on:Bool):List Tg:=l.filter fun y=>jz y.1 a b == on
def A9 (l:List Tg) (a b:Id) (on:Bool):List Tg:=bif bp l then pY l a b on else []
noncomputable def og (l:List Tg) (x:Id) (n:Nat):List Tg:=match l.find? fun y=>decide (kX y.1 x=n) with|none=>[]|some z=>l.filter fun y=>decide (kX y.1 x=n) && decide (y.1=z.1)
noncomputable def F3 (l:List Tg) (x:Id):Nat→List Tg|0=>[]|j+1=>bif decide (og l x (128+j)=[]) then F3 l x j else og l x (128+j)
noncomputable def ju (l:List Tg) (x:Id):List Tg:=F3 l x 129
noncomputable def Cj (l:List Tg) (x:Id):Int:=bif bp l then (bif decide ((ju l x).length=0) then 6 else 0) else 1
noncomputable def Gc (l:List Tg) (x:Id):List Tg:=bif bp l then ju l x else []
theorem uy {l:List Tg} {x:Id} {n:Nat}:og l x n=[]↔∀ y∈l,kX y.1 x≠n:=by
 unfold og
 cases hf:l.find? (fun y=>decide (kX y.1 x=n)) with
 |none=>
  refine ⟨fun _ y hy=>?_,fun _=>rfl⟩
  have:=List.find?_eq_none.1 hf y hy
  simpa using this
 |some z=>
  have h1:=List.mem_of_find?_eq_some hf
  have h2:kX z.1 x=n:=by have:=List.find?_some hf;exact of_decide_eq_true this
  refine ⟨fun h=>?_,fun h=>absurd h2 (h z h1)⟩
  have:z∈l.filter fun y=>decide (kX y.1 x=n) && decide (y.1=z.1):=List.mem_filter.2 ⟨h1,by rw [decide_eq_true h2,decide_eq_true rfl];rfl⟩
  have h:(l.filter fun y=>decide (kX y.1 x=n) && decide (y.1=z.1))=[]:=h
  rw [h] at this;cases this
theorem pi {l:List Tg} {x:Id} {n:Nat} {y:Tg} (h:y∈og l x n):y∈l∧kX y.1 x=n:=by
 unfold og at h
 cases hf:l.find? (fun y=>decide (kX y.1 x=n)) with
 |none=>rw [hf] at h;cases h
 |some z=>
  rw [hf] at h
  obtain ⟨h1,h2⟩:=List.mem_filter.1 h
  rw [Bool.and_eq_true] at h2
  exact ⟨h1,of_decide_eq_true h2.1⟩
theorem zl (l:List Tg) (x:Id):∀ j,(F3 l x j=[]∧∀ i,i<j→og l x (128+i)=[])∨∃ i,i<j∧F3 l x j=og l x (128+i)∧og l x (128+i)≠[]∧∀ k,i<k→k<j→og l x (128+k)=[]
 |0=>.inl ⟨rfl,fun i hi=>absurd hi (Nat.not_lt_zero _)⟩
 |j+1=>by
  by_cases h:og l x (128+j)=[]
  ·have e:F3 l x (j+1)=F3 l x j:=by show (bif decide (og l x (128+j)=[]) then _ else _)=_;rw [decide_eq_true h];rfl
   rw [e]
   rcases zl l x j with ⟨h1,h2⟩|⟨i,h1,h2,h3,h4⟩
   ·refine .inl ⟨h1,fun i hi=>?_⟩
    rcases Nat.lt_or_ge i j with g|g
    ·exact h2 i g
    ·obtain rfl:i=j:=by omega
     exact h
   ·refine .inr ⟨i,by omega,h2,h3,fun k hk hkj=>?_⟩
    rcases Nat.lt_or_ge k j with g|g
    ·exact h4 k hk g
    ·obtain rfl:k=j:=by omega
     exact h
  ·have e:F3 l x (j+1)=og l x (128+j):=by show (bif decide (og l x (128+j)=[]) then _ else _)=_;rw [decide_eq_false h];rfl
   exact .inr ⟨j,Nat.lt_succ_self j,e,h,fun k h1 h2=>absurd h2 (by omega)⟩
theorem qd (l:List Tg) (x:Id):(ju l x=[]∧∀ y∈l,kX y.1 x<128)∨∃ n,128≤n∧n≤256∧ju l x=og l x n∧og l x n≠[]∧∀ y∈l,kX y.1 x≤n:=by
 rcases zl l x 129 with ⟨h1,h2⟩|⟨i,h1,h2,h3,h4⟩
 ·refine .inl ⟨h1,fun y hy=>?_⟩
  have hc:=Aq y.1 x
  rcases Nat.lt_or_ge (kX y.1 x) 128 with g|g
  ·exact g
  ·have:=uy.1 (h2 (kX y.1 x - 128) (by omega)) y hy
   omega
 ·refine .inr ⟨128+i,by omega,by omega,h2,h3,fun y hy=>?_⟩
  have hc:=Aq y.1 x
  rcases Nat.lt_or_ge (128+i) (kX y.1 x) with g|g
  ·have:=uy.1 (h4 (kX y.1 x - 128) (by omega) (by omega)) y hy
   omega
  ·exact g
theorem RT.filter {l:List Tg} (h:RT l) (p:Tg→Bool):RT (l.filter p):=⟨fun y hy=>h.may y (List.mem_filter.1 hy).1,h.srt.filter p,Nat.le_trans (List.length_filter_le _ _) h.len⟩
theorem yX {l:List Tg} {x:Tg} (h:RT l) (hx:er x=true) (h3:(cP l x).length≤32):fW l x=0∧ip l x=cP l x:=by
 have e:fW l x=0:=by unfold fW;rw [dK.2 h,hx,decide_eq_true h3];rfl
 unfold ip;rw [e];exact ⟨rfl,rfl⟩
theorem qh {l:List Tg} {x:Tg} (h:fW l x≠0):ip l x=[]:=by unfold ip;rw [decide_eq_false h];rfl
theorem qo {a b:Id}:dm a b≠0↔a.toNat≠b.toNat:=by
 unfold dm
 by_cases h:a.toNat<b.toNat
 ·rw [if_pos h];omega
 ·rw [if_neg h]
  by_cases g:b.toNat<a.toNat
  ·rw [if_pos g];omega
  ·rw [if_neg g];omega
theorem JA {x y:Tg} (h:dm x.1 y.1≠0):decide (dm x.1 y.1<0)=eu x y:=by
 have h:=qo.1 h
 unfold eu
 refine decide_eq_decide.2 ?_
 rw [sj]
 unfold gz
 simp only [j6];omega
theorem JW {x y:Tg} (h0:¬ dm x.1 y.1≠0) (h:x.2.1.1≠y.2.1.1):decide (x.2.1.1<y.2.1.1)=eu x y:=by
 rw [qo] at h0
 unfold eu
 refine decide_eq_decide.2 ?_
 unfold gz
 simp only [j6];omega
theorem Jh {x y:Tg} (h0:¬ dm x.1 y.1≠0) (h1:¬ x.2.1.1≠y.2.1.1) (h:dm x.2.1.2.1 y.2.1.2.1≠0):decide (dm x.2.1.2.1 y.2.1.2.1<0)=eu x y:=by
 rw [qo] at h0 h
 unfold eu
 refine decide_eq_decide.2 ?_
 rw [sj]
 unfold gz
 simp only [j6];omega
theorem Ji {x y:Tg} (h0:¬ dm x.1 y.1≠0) (h1:¬ x.2.1.1≠y.2.1.1) (h:¬ dm x.2.1.2.1 y.2.1.2.1≠0):decide (x.2.1.2.2<y.2.1.2.2)=eu x y:=by
 rw [qo] at h0 h
 unfold eu
 refine decide_eq_decide.2 ?_
 unfold gz
 simp only [j6];omega
theorem H0 {l:List Tg} {k:Nat} (h:er (l.getD k aN)=false):tR l k=false:=by unfold tR;rw [h];rfl
theorem HF {l:List Tg} {k:Nat} (h:er (l.getD k aN)=true) (h1:k=0):tR l k=true:=by unfold tR G6;rw [h,decide_eq_true h1];rfl
theorem C9 {l:List Tg} {k:Nat} (h:er (l.getD k aN)=true) (h1:¬ k=0):tR l k=eu (l.getD (k - 1) aN) (l.getD k aN):=by unfold tR G6;rw [h,decide_eq_false h1];rfl
theorem kh {q:Nat→Bool} {k:Nat} (h:∀ j,j<k→q j=true) (hk:q k=true):∀ j,j<k+1→q j=true:=fun j hj=>by
 rcases Nat.lt_or_ge j k with g|g
 ·exact h j g
 ·obtain rfl:j=k:=by omega
  exact hk
theorem Ag {l r:List Tg} {k:Nat} (h:∀ j,j<k→l.getD j aN=r.getD j aN) (he:l.getD k aN=r.getD k aN):∀ j,j<k+1→l.getD j aN=r.getD j aN:=fun j hj=>by
 rcases Nat.lt_or_ge j k with g|g
 ·exact h j g
 ·obtain rfl:j=k:=by omega
  exact he
theorem De {l r:List Tg} (hl:l.length=r.length) (h:∀ j,j<l.length→l.getD j aN=r.getD j aN):l=r:=by
 refine List.ext_getElem hl fun j h1 h2=>?_
 rw [q9 h1,q9 h2];exact h j h1
theorem wi {l:List Tg} {p:Tg→Bool} {k:Nat} (hk:k<l.length) (h:∀ j,j<k→p (l.getD j aN)=false) (he:p (l.getD k aN)=true):l.find? p=some (l.getD k aN):=by
 rw [List.find?_eq_some_iff_getElem]
 refine ⟨he,k,hk,q9 hk,fun j hj=>?_⟩
 rw [q9 (by omega),h j hj];rfl
theorem Ch {l:List Tg} {p:Tg→Bool} (h:∀ j,j<l.length→p (l.getD j aN)=false):l.find? p=none:=by
 rw [List.find?_eq_none]
 intro y hy
 obtain ⟨j,hj,rfl⟩:=wy hy
 rw [h j hj];decide
theorem om {l:List Tg} {p:Tg→Bool} {k:Nat} (hk:k<l.length) (h:p (l.getD k aN)=true):(l.take (k+1)).filter p=(l.take k).filter p++[l.getD k aN]:=by
 rw [gP hk,List.filter_append,List.filter_cons,h];rfl
theorem ot {l:List Tg} {p:Tg→Bool} {k:Nat} (hk:k<l.length) (h:p (l.getD k aN)=false):(l.take (k+1)).filter p=(l.take k).filter p:=by
 rw [gP hk,List.filter_append,List.filter_cons,h]
 simp
theorem kY (l:List Tg) (p:Tg→Bool) (k:Nat):((l.take k).filter p).length≤l.length:=Nat.le_trans (List.length_filter_le _ _) (by rw [List.length_take];omega)
theorem pR {l:List Tg} {p:Tg→Bool} {k:Nat} (h:l.length≤k):(l.take k).filter p=l.filter p:=by rw [List.take_of_length_le h]
section
variable {P:Program} {ρ:Operand→Value} {d:Option Tmp} {ty:TypeId} {pos:String} {af:Array Edge} {g:Option (Nat × Bool)} {x y z:Operand} {t:TypeId}
theorem dg (S:Stt P t xT):aD P ⟨d,.build t #[],ty,pos,af,g⟩ ρ (.agg (au aN)):=by
 have:=aW (P:=P) (ρ:=ρ) (d:=d) (ty:=ty) (pos:=pos) (af:=af) (g:=g) (parts:=#[]) S [] (by simp) (fun i v hm=>by simp at hm) (D:=(au aN).toList) (by rw [px];rfl)
 simpa using this
theorem qf {u:Int} (S:Stt P t xT) (hx:ρ x=.int .i64 u):aD P ⟨d,.build t #[(2,x)],ty,pos,af,g⟩ ρ (.agg (au (0#256,(0,0#256,0),u))):=by
 have:=aW (P:=P) (ρ:=ρ) (d:=d) (ty:=ty) (pos:=pos) (af:=af) (g:=g) (parts:=#[(2,x)]) S [(2,.int .i64 u)] (by simp [hx]) (fun i v hm=>by
  simp only [List.mem_cons,Prod.mk.injEq,List.not_mem_nil,or_false] at hm
  obtain ⟨rfl,rfl⟩:=hm
  exact ⟨_,rfl,rfl⟩) (D:=jy (0#256,(0,0#256,0),u)) (by unfold jy;rw [eV,eY];rfl)
 exact this
theorem kT {i:Id} {e:cw} {u:Int} (S:Stt P t xT) (hx:ρ x=.agg (aw i)) (hy:ρ y=.agg (bc e)) (hz:ρ z=.int .i64 u):aD P ⟨d,.build t #[(0,x),(1,y),(2,z)],ty,pos,af,g⟩ ρ (.agg (au (i,e,u))):=by
 have:=aW (P:=P) (ρ:=ρ) (d:=d) (ty:=ty) (pos:=pos) (af:=af) (g:=g) (parts:=#[(0,x),(1,y),(2,z)]) S [(0,.agg (aw i)),(1,.agg (bc e)),(2,.int .i64 u)] (by simp [hx,hy,hz]) (fun j v hm=>by
  simp only [List.mem_cons,Prod.mk.injEq,List.not_mem_nil,or_false] at hm
  rcases hm with ⟨rfl,rfl⟩|⟨rfl,rfl⟩|⟨rfl,rfl⟩
  ·exact ⟨_,rfl,by show (aw i).size=_;rw [am];rfl⟩
  ·exact ⟨_,rfl,by show (bc e).size=_;rw [aK];rfl⟩
  ·exact ⟨_,rfl,rfl⟩) (D:=jy (i,e,u)) (by unfold jy;rfl)
 exact this
end
theorem vQ (t:Tg) (u:Int):(au t).setIfInBounds 66 (.int .i64 u)=au (t.1,t.2.1,u):=by
 apply Array.ext'
 rw [Array.toList_setIfInBounds]
 show (jy t).set 66 _=jy _
 unfold jy
 rw [← List.append_assoc,← List.append_assoc,List.set_append_right _ _ (by rw [List.length_append,ed,jO];exact Nat.le_refl _),List.length_append,ed,jO];rfl
def xv (W:List Tg) (y:Tg) (k:Nat):Bool:=(W.take k).any fun z=>eu y z
def j4 (W:List Tg) (y:Tg) (k:Nat):List Tg:=bif xv W y k then ef (W.take k) y else W.take k
theorem wz {A:List Tg} {y:Tg} (h:A.any (fun z=>eu y z)=false):A.takeWhile (fun z => !eu y z)=A∧A.dropWhile (fun z => !eu y z)=[]:=by
 have h9:∀ z∈A,(!eu y z)=true:=fun z hz=>by
  have:=List.any_eq_false.1 h z hz
  cases hb:eu y z with
  |false=>rfl
  |true=>exact absurd hb this
 have e:A.takeWhile (fun z => !eu y z)=A:=by
  induction A with
  |nil=>rfl
  |cons a A ih=>
   rw [List.takeWhile_cons,h9 a (List.mem_cons_self ..)]
   show a::_=_
   rw [ih (by rw [List.any_cons,Bool.or_eq_false_iff] at h;exact h.2) fun z hz=>h9 z (List.mem_cons_of_mem _ hz)]
 refine ⟨e,?_⟩
 have:=List.takeWhile_append_dropWhile (p:=fun z => !eu y z) (l:=A)
 rw [e] at this
 exact List.append_right_eq_self.1 this
theorem qA {A B:List Tg} {y:Tg}:A.any (fun z=>eu y z)=true→(A++B).takeWhile (fun z => !eu y z)=A.takeWhile (fun z => !eu y z)∧(A++B).dropWhile (fun z => !eu y z)=A.dropWhile (fun z => !eu y z)++B:=by
 induction A with
 |nil=>intro h;cases h
 |cons a A ih=>
  intro h
  cases hb:eu y a with
  |true=>
   rw [List.cons_append,List.takeWhile_cons,List.takeWhile_cons,List.dropWhile_cons,List.dropWhile_cons,hb]
   exact ⟨rfl,rfl⟩
  |false=>
   rw [List.any_cons,hb,Bool.false_or] at h
   obtain ⟨h1,h2⟩:=ih h
   rw [List.cons_append,List.takeWhile_cons,List.takeWhile_cons,List.dropWhile_cons,List.dropWhile_cons,hb]
   show (a::_)=a::_∧_
   rw [h1]
   exact ⟨rfl,h2⟩
theorem yZ {A B:List Tg} {y:Tg} (h:A.any (fun z=>eu y z)=true):ef (A++B) y=ef A y++B:=by
 unfold ef
 rw [(qA h).1,(qA h).2,List.append_assoc];rfl
theorem z9 {A:List Tg} {y:Tg} (h:A.any (fun z=>eu y z)=false):ef A y=A++[y]:=by
 unfold ef;rw [(wz h).1,(wz h).2]
theorem uc {A B:List Tg} {y:Tg} (h:A.any (fun z=>eu y z)=false):(A++B).takeWhile (fun z => !eu y z)=A++B.takeWhile (fun z => !eu y z)∧(A++B).dropWhile (fun z => !eu y z)=B.dropWhile (fun z => !eu y z):=by
 induction A with
 |nil=>exact ⟨rfl,rfl⟩
 |cons a A ih=>
  rw [List.any_cons,Bool.or_eq_false_iff] at h
  obtain ⟨h1,h2⟩:=ih h.2
  rw [List.cons_append,List.takeWhile_cons,List.dropWhile_cons,h.1]
  show (a::_)=_∧_
  rw [h1];exact ⟨rfl,h2⟩
theorem zC {A:List Tg} {y z:Tg} (h:A.any (fun z=>eu y z)=false) (hz:eu y z=true):ef (A++[z]) y=A++[y]++[z]:=by
 unfold ef
 rw [(uc h).1,(uc h).2,List.takeWhile_cons,List.dropWhile_cons,hz]
 simp
theorem jd {W:List Tg} {y:Tg} {k:Nat} (hk:k<W.length):xv W y (k+1)=(xv W y k || eu y (W.getD k aN)):=by
 unfold xv;rw [gP hk,List.any_append];simp
theorem uY {W:List Tg} {y:Tg} {k:Nat} (hk:k<W.length) (h:xv W y k=true):j4 W y (k+1)=j4 W y k++[W.getD k aN]:=by
 unfold j4
 rw [jd hk,h]
 show ef (W.take (k+1)) y=ef (W.take k) y++_
 rw [gP hk];exact yZ h
theorem DO {W:List Tg} {y:Tg} {k:Nat} (hk:k<W.length) (h:xv W y k=false) (hl:eu y (W.getD k aN)=false):j4 W y (k+1)=j4 W y k++[W.getD k aN]:=by
 unfold j4
 rw [jd hk,h,hl]
 exact gP hk
theorem uv {W:List Tg} {y:Tg} {k:Nat} (hk:k<W.length) (h:xv W y k=false) (hl:eu y (W.getD k aN)=true):j4 W y (k+1)=j4 W y k++[y]++[W.getD k aN]:=by
 unfold j4
 rw [jd hk,h,hl]
 show ef (W.take (k+1)) y=W.take k++[y]++_
 rw [gP hk];exact zC h hl
theorem jx (W:List Tg) (y:Tg) (k:Nat):(j4 W y k).length≤W.length+1:=by
 unfold j4
 have h9:(W.take k).length≤W.length:=by rw [List.length_take];omega
 cases xv W y k with
 |true=>show (ef (W.take k) y).length≤_;rw [CA];omega
 |false=>show (W.take k).length≤_;omega
theorem zj {W:List Tg} {y:Tg}:ef W y=bif xv W y W.length then j4 W y W.length else j4 W y W.length++[y]:=by
 unfold j4
 cases h:xv W y W.length with
 |true=>show ef W y=ef (W.take W.length) y;rw [List.take_length]
 |false=>
  show ef W y=W.take W.length++[y]
  unfold xv at h
  rw [List.take_length] at h ⊢
  exact z9 h
theorem rN {w':World} {N:TypeId} {base:Nat} {p:Value} {l K:List Tg} {x:Tg} (hp:cP l x=K) (hO:cb w' base N 67 p K.length (aA K)):
 ∃ p',Value.tuple #[p,.bool (decide ((K.length:Int)≤32))]=.tuple #[p',.bool (decide ((cP l x).length≤32))]∧cb w' base N 67 p' (cP l x).length (aA (cP l x)):=by
 subst hp
 exact ⟨p,by rw [show decide (((cP l x).length:Int)≤32)=decide ((cP l x).length≤32) from decide_eq_decide.2 (by omega)],hO⟩
theorem yQ {l:List Tg} {x:Id} {n:Nat} (h:l.find? (fun y=>decide (kX y.1 x=n))=none):og l x n=[]:=by unfold og;rw [h]
theorem qD {l:List Tg} {x:Id} {n:Nat} {z:Tg} (h:l.find? (fun y=>decide (kX y.1 x=n))=some z):og l x n=l.filter fun y=>decide (kX y.1 x=n) && decide (y.1=z.1):=by unfold og;rw [h]
theorem F6 (l:List Tg) (x:Id) (n k:Nat):(og (l.take k) x n).length≤l.length:=by
 have:(l.take k).length≤l.length:=by rw [List.length_take];omega
 cases hf:(l.take k).find? (fun y=>decide (kX y.1 x=n)) with
 |none=>rw [yQ hf];exact Nat.zero_le _
 |some z=>rw [qD hf];exact Nat.le_trans (List.length_filter_le _ _) this
abbrev cK (w:World) (v:Value) (l:List Tg):Prop:=bK w v 67 l.length (aA l)
def Gu (w:World) (vh:Value) (l K:List Tg) (E:Int):bY:=fun v w'=>∃ p ks,v=.tuple #[p,.int .i64 E]∧St w [.grp ks fun w9=>cK w9 vh l→cK w9 p K] w'
def Kd (w:World) (vh:Value) (l A C:List Tg) (E:Int):bY:=fun v w'=>∃ p q ks,v=.tuple #[p,q,.int .i64 E]∧St w [.grp ks fun w9=>cK w9 vh l→cK w9 p A∧cK w9 q C] w'
theorem cI (w:World):cK w aM []:=⟨rfl,.inl ⟨rfl,rfl⟩⟩
theorem AM {t:List Tg} (h:bp t=false) (x:Tg):fW t x=1∧ip t x=[]:=by
 have e:fW t x=1:=by unfold fW;rw [h];rfl
 exact ⟨e,qh (by rw [e];decide)⟩
theorem yi (t:List Tg) {x:Tg} (h:er x=false):fW t x=1∧ip t x=[]:=by
 have e:fW t x=1:=by unfold fW;rw [h,Bool.and_false];rfl
 exact ⟨e,qh (by rw [e];decide)⟩
theorem zo {t:List Tg} {x:Tg} (h:bp t=true) (hx:er x=true) (hf:decide ((cP t x).length≤32)=true):fW t x=0∧ip t x=cP t x:=yX (dK.1 h) hx (of_decide_eq_true hf)
theorem pq {t:List Tg} {x:Tg} (h:bp t=true) (hx:er x=true) (hf:decide ((cP t x).length≤32)=false):fW t x=8∧ip t x=[]:=by
 have e:fW t x=8:=by unfold fW;rw [h,hx,hf];rfl
 exact ⟨e,qh (by rw [e];decide)⟩
theorem AA {t:List Tg} (h:bp t=false) (i:Id) (e:cw):gS t i e=1∧lB t i e=[]:=by
 have h1:gS t i e=1:=by unfold gS;rw [h];rfl
 refine ⟨h1,?_⟩
 unfold lB;rw [h1];rfl
theorem AQ {t:List Tg} (h:bp t=true) (i:Id) (e:cw):decide ((dH t i e).2.2<0) = !t.any (gn i e):=by
 have hr:=dK.1 h
 unfold dH
 cases hf:t.find? (gn i e) with
 |none=>
  have:t.any (gn i e)=false:=List.any_eq_false.2 fun y hy=>List.find?_eq_none.1 hf y hy
  rw [this];rfl
 |some y=>
  have hy:=List.mem_of_find?_eq_some hf
  have:t.any (gn i e)=true:=List.any_eq_true.2 ⟨y,hy,List.find?_some hf⟩
  rw [this]
  exact decide_eq_false (by have:=(fv.1 (hr.may y hy)).2.1;show ¬ y.2.2<0;omega)
theorem E1 {t:List Tg} (h:bp t=true) {i:Id} {e:cw} (hg:decide ((dH t i e).2.2<0)=true):gS t i e=6∧lB t i e=[]:=by
 rw [AQ h] at hg
 have h1:gS t i e=6:=by
  unfold gS
  rw [h,show t.any (gn i e)=false by cases hb:t.any (gn i e) with|false=>rfl|true=>rw [hb] at hg;cases hg];rfl
 refine ⟨h1,?_⟩
 unfold lB;rw [h1];rfl
theorem H7 {t:List Tg} (h:bp t=true) {i:Id} {e:cw} (hg:decide ((dH t i e).2.2<0)=false):gS t i e=0∧lB t i e=iX t i e:=by
 rw [AQ h] at hg
 have h1:gS t i e=0:=by
  unfold gS
  rw [h,show t.any (gn i e)=true by cases hb:t.any (gn i e) with|true=>rfl|false=>rw [hb] at hg;cases hg];rfl
 refine ⟨h1,?_⟩
 unfold lB;rw [h1];rfl
theorem Ge {t:List Tg} (h:bp t=true) (now:Int):wV t=0∧t2 t now=xx t now:=by unfold wV t2;rw [h];exact ⟨rfl,rfl⟩
theorem E3 {t:List Tg} (h:bp t=false) (now:Int):wV t=1∧t2 t now=[]:=by unfold wV t2;rw [h];exact ⟨rfl,rfl⟩
theorem HD {t:List Tg} (h:bp t=true) (a b:Id) (on:Bool):A9 t a b on=pY t a b on:=by unfold A9;rw [h];rfl
theorem Hz {t:List Tg} (h:bp t=false) (a b:Id) (on:Bool):A9 t a b on=[]:=by unfold A9;rw [h];rfl
theorem Iy {t:List Tg} (h:bp t=false) (x:Id):Cj t x=1∧Gc t x=[]:=by unfold Cj Gc;rw [h];exact ⟨rfl,rfl⟩
theorem Cy {t:List Tg} (h:bp t=true) (x:Id):Cj t x=(bif decide ((ju t x).length=0) then 6 else 0)∧Gc t x=ju t x:=by unfold Cj Gc;rw [h];exact ⟨rfl,rfl⟩
theorem AC (t:List Tg) (x:Id):(ju t x).length≤t.length:=by
 rcases qd t x with ⟨h,_⟩|⟨n,_,_,h,_,_⟩
 ·rw [h];exact Nat.zero_le _
 ·rw [h]
  have:=F6 t x n t.length
  rw [List.take_length] at this;exact this
def lT (a b:Tg) (k:Nat):Int:=match k with
 |0=>dm a.1 b.1
 |1=>dc a.2.1.1 b.2.1.1
 |2=>dm a.2.1.2.1 b.2.1.2.1
 |_=>dc a.2.1.2.2 b.2.1.2.2
def oH (a b:Tg):Int:=if gz a b then -1 else if il a b then 0 else 1
theorem o9 (a b:Tg):decide (oH a b<0)=eu a b:=by
 unfold oH eu
 by_cases h:gz a b
 ·rw [if_pos h];simp [h]
 ·rw [if_neg h]
  by_cases g:il a b
  ·rw [if_pos g];simp [h]
  ·rw [if_neg g];simp [h]
theorem rm (a b:Tg):decide (oH a b=0)=gn b.1 b.2.1 a:=by
 have hb:gn b.1 b.2.1 a=decide (il a b):=by
  cases hh:gn b.1 b.2.1 a with
  |true=>exact (decide_eq_true (ew.1 hh)).symm
  |false=>exact (decide_eq_false fun g=>by rw [ew.2 g] at hh;cases hh).symm
 rw [hb];unfold oH
 by_cases h:gz a b
 ·rw [if_pos h];simp [m8 h]
 ·rw [if_neg h]
  by_cases g:il a b
  ·rw [if_pos g];simp [g]
  ·rw [if_neg g];simp [g]
theorem Ae (a b:Tg):decide (oH a b≥0) = !eu a b:=by
 rw [← o9,← decide_not];exact decide_eq_decide.2 (by omega)
theorem A2 {a b:Id}:dm a b=0↔a=b:=by
 rw [j6];unfold dm;split
 ·simp;omega
 ·split
  ·simp;omega
  ·simp;omega
theorem zZ (a b:Id):(dm a b = -1∧a.toNat<b.toNat)∨(dm a b=0∧a=b)∨(dm a b=1∧b.toNat<a.toNat):=by
 rw [j6];unfold dm;split
 ·exact .inl ⟨rfl,by assumption⟩
 ·split
  ·exact .inr (.inr ⟨rfl,by assumption⟩)
  ·exact .inr (.inl ⟨rfl,by omega⟩)
theorem rZ (a b:Int):(dc a b = -1∧a<b)∨(dc a b=0∧a=b)∨(dc a b=1∧b<a):=by
 unfold dc;split
 ·exact .inl ⟨rfl,by assumption⟩
 ·split
  ·exact .inr (.inr ⟨rfl,by assumption⟩)
  ·exact .inr (.inl ⟨rfl,by omega⟩)
theorem zF {a b:Tg}:(lT a b 0≠0→lT a b 0=oH a b)∧(lT a b 0=0→lT a b 1≠0→lT a b 1=oH a b)∧(lT a b 0=0→lT a b 1=0→lT a b 2≠0→lT a b 2=oH a b)∧(lT a b 0=0→lT a b 1=0→lT a b 2=0→lT a b 3=oH a b):=by
 have h0:_∨_∨_:=zZ a.1 b.1
 have h1:_∨_∨_:=rZ a.2.1.1 b.2.1.1
 have h2:_∨_∨_:=zZ a.2.1.2.1 b.2.1.2.1
 have h3:_∨_∨_:=rZ a.2.1.2.2 b.2.1.2.2
 show (dm a.1 b.1≠0→dm a.1 b.1=oH a b)∧(dm a.1 b.1=0→dc a.2.1.1 b.2.1.1≠0→dc a.2.1.1 b.2.1.1=oH a b)∧(dm a.1 b.1=0→dc a.2.1.1 b.2.1.1=0→dm a.2.1.2.1 b.2.1.2.1≠0→dm a.2.1.2.1 b.2.1.2.1=oH a b)∧(dm a.1 b.1=0→dc a.2.1.1 b.2.1.1=0→dm a.2.1.2.1 b.2.1.2.1=0→dc a.2.1.2.2 b.2.1.2.2=oH a b)
 have key:∀ c:Int,((c = -1∧gz a b)∨(c=0∧il a b)∨(c=1∧gz b a))→c=oH a b:=by
  rintro c (⟨rfl,h⟩|⟨rfl,h⟩|⟨rfl,h⟩)
  ·unfold oH;rw [if_pos h]
  ·unfold oH;rw [if_neg fun g=>m8 g h,if_pos h]
  ·unfold oH;rw [if_neg fun g=>tH a (fu g h),if_neg fun g=>nc h g]
 have z0:dm a.1 b.1=0→a.1=b.1:=A2.1
 have z2:dm a.2.1.2.1 b.2.1.2.1=0→a.2.1.2.1=b.2.1.2.1:=A2.1
 have z1:dc a.2.1.1 b.2.1.1=0→a.2.1.1=b.2.1.1:=fun g=>by
  rcases h1 with ⟨c,h⟩|⟨c,h⟩|⟨c,h⟩
  ·rw [c] at g;cases g
  ·exact h
  ·rw [c] at g;cases g
 refine ⟨fun n0=>key _ ?_,fun n0 n1=>key _ ?_,fun n0 n1 n2=>key _ ?_,fun n0 n1 n2=>key _ ?_⟩
 ·rcases h0 with ⟨c,h⟩|⟨c,h⟩|⟨c,h⟩
  ·exact .inl ⟨c,.inl h⟩
  ·exact absurd c n0
  ·exact .inr (.inr ⟨c,.inl h⟩)
 ·rcases h1 with ⟨c,h⟩|⟨c,h⟩|⟨c,h⟩
  ·exact .inl ⟨c,.inr ⟨z0 n0,.inl h⟩⟩
  ·exact absurd c n1
  ·exact .inr (.inr ⟨c,.inr ⟨(z0 n0).symm,.inl h⟩⟩)
 ·rcases h2 with ⟨c,h⟩|⟨c,h⟩|⟨c,h⟩
  ·exact .inl ⟨c,.inr ⟨z0 n0,.inr ⟨z1 n1,.inl h⟩⟩⟩
  ·exact absurd c n2
  ·exact .inr (.inr ⟨c,.inr ⟨(z0 n0).symm,.inr ⟨(z1 n1).symm,.inl h⟩⟩⟩)
 ·rcases h3 with ⟨c,h⟩|⟨c,h⟩|⟨c,h⟩
  ·exact .inl ⟨c,.inr ⟨z0 n0,.inr ⟨z1 n1,.inr ⟨z2 n2,h⟩⟩⟩⟩
  ·exact .inr (.inl ⟨c,z0 n0,tk.2 ⟨z1 n1,z2 n2,h⟩⟩)
  ·exact .inr (.inr ⟨c,.inr ⟨(z0 n0).symm,.inr ⟨(z1 n1).symm,.inr ⟨(z2 n2).symm,h⟩⟩⟩⟩)
theorem CE {a b:Tg} {k:Nat} (hk:k<4) (h:∀ j,j<k→lT a b j=0) (h0:lT a b k≠0):lT a b k=oH a b:=by
 have H:=zF (a:=a) (b:=b)
 match k,hk with
 |0,_=>exact H.1 h0
 |1,_=>exact H.2.1 (h 0 (by omega)) h0
 |2,_=>exact H.2.2.1 (h 0 (by omega)) (h 1 (by omega)) h0
 |3,_=>exact H.2.2.2 (h 0 (by omega)) (h 1 (by omega)) (h 2 (by omega))
theorem B4 {a b:Tg} (h:∀ j,j<4→lT a b j=0):oH a b=0:=
 (zF.2.2.2 (h 0 (by omega)) (h 1 (by omega)) (h 2 (by omega))).symm.trans (h 3 (by omega))
theorem Cv {a b:Tg} {k:Nat} (h:∀ j,j<k→lT a b j=0) (hk:lT a b k=0):∀ j,j<k+1→lT a b j=0:=fun j hj=>by
 rcases Nat.lt_or_ge j k with g|g
 ·exact h j g
 ·obtain rfl:j=k:=by omega
  exact hk
theorem pw {l:List Tg} (h:oR l) {j k:Nat} (hjk:j<k) (hk:k<l.length):gz (l.getD j aN) (l.getD k aN):=by
 have:=List.pairwise_iff_getElem.1 h j k (by omega) hk hjk
 rw [q9 (by omega),q9 hk] at this;exact this
structure FndT (l:List Tg) (x:Tg) (n:Nat) (b:Bool):Prop where
 le:n≤l.length
 lo:∀ j,j<n→eu (l.getD j aN) x=true
 hi:∀ j,n≤j→j<l.length→eu (l.getD j aN) x=false
 is:b=(decide (n<l.length) && gn x.1 x.2.1 (l.getD n aN))
theorem GD {l:List Tg} (h:oR l) {x:Tg} {k:Nat} (hk:k<l.length) (hc:eu (l.getD k aN) x=true):∀ j,j<k+1→eu (l.getD j aN) x=true:=fun j hj=>by
 rcases Nat.lt_or_ge j k with g|g
 ·exact decide_eq_true (fu (pw h g hk) (of_decide_eq_true hc))
 ·obtain rfl:j=k:=by omega
  exact hc
theorem HN {l:List Tg} (h:oR l) {x:Tg} {k:Nat} (hc:eu (l.getD k aN) x=false):∀ j,k≤j→j<l.length→eu (l.getD j aN) x=false:=fun j hj hl=>by
 rcases Nat.lt_or_ge k j with g|g
 ·exact decide_eq_false fun h9=>of_decide_eq_false hc (fu (pw h g hl) h9)
 ·obtain rfl:j=k:=by omega
  exact hc
theorem oz {l:List Tg} {n:Nat} {y:Tg} (h:y∈l.take n):∃ j,j<n∧j<l.length∧l.getD j aN=y:=by
 obtain ⟨j,hj,rfl⟩:=List.mem_iff_getElem.1 h
 rw [List.length_take] at hj
 refine ⟨j,by omega,by omega,?_⟩
 rw [← q9 (by omega),List.getElem_take]
theorem oh {l:List Tg} {n:Nat} {y:Tg} (h:y∈l.drop n):∃ j,n≤j∧j<l.length∧l.getD j aN=y:=by
 obtain ⟨j,hj,rfl⟩:=List.mem_iff_getElem.1 h
 rw [List.length_drop] at hj
 refine ⟨n+j,by omega,by omega,?_⟩
 rw [← q9 (by omega),List.getElem_drop]
theorem Aj {A B:List Tg} {y:Tg} (h1:∀ a∈A,eu y a=false) (h2:∀ b∈B,eu y b=true):ef (A++B) y=A++y::B:=by
 have hA:A.any (fun z=>eu y z)=false:=List.any_eq_false.2 fun z hz=>by rw [h1 z hz];decide
 have h9:=uc (B:=B) hA
 have h8:B.takeWhile (fun z => !eu y z)=[]∧B.dropWhile (fun z => !eu y z)=B:=by
  cases B with
  |nil=>exact ⟨rfl,rfl⟩
  |cons b B=>
   have hb:=h2 b (List.mem_cons_self ..)
   exact ⟨by rw [List.takeWhile_cons_of_neg (by rw [hb];decide)],by rw [List.dropWhile_cons_of_neg (by rw [hb];decide)]⟩
 unfold ef
 rw [h9.1,h9.2,h8.1,h8.2,List.append_nil]
theorem oZ {x y:Tg} (h:¬ il y x):gn x.1 x.2.1 y=false:=by
 cases hh:gn x.1 x.2.1 y with
 |false=>rfl
 |true=>exact absurd (ew.1 hh) h
theorem CU {L:List Tg} {x:Tg} (h:∀ y∈L,¬ il y x):iX L x.1 x.2.1=L:=List.filter_eq_self.2 fun y hy=>by rw [oZ (h y hy)];rfl
theorem pv {l:List Tg} {n:Nat} (h:n<l.length):l=l.take n++l.getD n aN::l.drop (n+1):=by
 rw [← q9 h,List.getElem_cons_drop,List.take_append_drop]
theorem qU {l:List Tg} {x:Tg} {n:Nat} (h:oR l) (hf:FndT l x n true):n<l.length∧il (l.getD n aN) x∧(∀ y∈l.take n,gz y x)∧∀ y∈l.drop (n+1),gz x y:=by
 have h9:=hf.is.symm
 rw [Bool.and_eq_true] at h9
 have hn:=of_decide_eq_true h9.1
 have hs:=ew.1 h9.2
 refine ⟨hn,hs,fun y hy=>?_,fun y hy=>?_⟩
 ·obtain ⟨j,h1,h2,rfl⟩:=oz hy
  exact of_decide_eq_true (hf.lo j h1)
 ·obtain ⟨j,h1,h2,rfl⟩:=oh hy
  exact(yT hs).1.1 (pw h (by omega) h2)
theorem En {l:List Tg} {x:Tg} {n:Nat} (h:oR l) (hf:FndT l x n false):(∀ y∈l.take n,gz y x)∧(∀ y∈l.drop n,gz x y)∧∀ y∈l,¬ il y x:=by
 have h1:∀ y∈l.take n,gz y x:=fun y hy=>by
  obtain ⟨j,h1,h2,rfl⟩:=oz hy
  exact of_decide_eq_true (hf.lo j h1)
 have h2:∀ y∈l.drop n,gz x y:=fun y hy=>by
  obtain ⟨j,h1,h2,rfl⟩:=oh hy
  have hn:¬ il (l.getD n aN) x:=fun g=>by
   have h9:=hf.is
   rw [decide_eq_true (show n<l.length by omega),ew.2 g] at h9;cases h9
  have hl:∀ i,n≤i→i<l.length→¬ gz (l.getD i aN) x:=fun i g1 g2=>of_decide_eq_false (hf.hi i g1 g2)
  have h0:gz x (l.getD n aN):=by
   rcases yv (l.getD n aN) x with g|g|g
   ·exact absurd g (hl n (Nat.le_refl _) (by omega))
   ·exact absurd g hn
   ·exact g
  rcases Nat.lt_or_ge n j with g|g
  ·exact fu h0 (pw h g h2)
  ·obtain rfl:j=n:=by omega
   exact h0
 refine ⟨h1,h2,fun y hy=>?_⟩
 rw [← List.take_append_drop n l] at hy
 rcases List.mem_append.1 hy with g|g
 ·exact m8 (h1 y g)
 ·exact fun e=>nc (h2 y g) e
theorem vX {l:List Tg} {x:Tg} {n:Nat} {b:Bool} (h:oR l) (hf:FndT l x n b):l.any (gn x.1 x.2.1)=b:=by
 cases b with
 |true=>
  have h9:=qU h hf
  exact List.any_eq_true.2 ⟨_,fC h9.1,ew.2 h9.2.1⟩
 |false=>exact List.any_eq_false.2 fun y hy=>by rw [oZ ((En h hf).2.2 y hy)];decide
def GA (l:List Tg) (x:Tg) (n:Nat):Tg:=((l.getD n aN).1,(l.getD n aN).2.1,max (l.getD n aN).2.2 x.2.2)
theorem Hf {l:List Tg} {x:Tg} {n:Nat} (h:RT l) (hx:er x=true) (hf:FndT l x n true):fW l x=0∧ip l x=l.set n (GA l x n):=by
 obtain ⟨hn,hs,h1,h2⟩:=qU h.srt hf
 have hfd:dH l x.1 x.2.1=l.getD n aN:=qQ h.srt (fC hn) hs
 have hw:iX l x.1 x.2.1=l.take n++l.drop (n+1):=by
  conv=>lhs;rw [pv hn]
  unfold iX
  rw [List.filter_append,List.filter_cons_of_neg (by rw [ew.2 hs];decide)]
  rw [List.filter_eq_self.2 fun y hy=>by rw [oZ (m8 (h1 y hy))];rfl,List.filter_eq_self.2 fun y hy=>by rw [oZ fun g=>nc (h2 y hy) g];rfl]
 have hb:cm l x=GA l x n:=by
  refine Prod.ext ?_ (Prod.ext ?_ ?_)
  ·exact(jF l x).1.trans hs.1.symm
  ·exact(jF l x).2.trans hs.2.symm
  ·rw [zL,hfd];rfl
 have hbs:=jF l x
 have hp:cP l x=l.set n (GA l x n):=by
  show ef (iX l x.1 x.2.1) (cm l x)=_
  rw [hw,Aj (fun a ha=>decide_eq_false fun g=>tH _ (fu (h1 a ha) ((yT hbs).1.1 g))) (fun b hb=>decide_eq_true ((yT hbs).1.2 (h2 b hb))),hb]
  rw [List.set_eq_take_append_cons_drop,if_pos hn]
 have hl:(cP l x).length≤32:=by rw [hp,List.length_set];exact h.len
 have:=yX h hx hl
 rw [this.1,this.2,hp];exact ⟨rfl,rfl⟩
theorem Fo {l:List Tg} {x:Tg} {n:Nat} (h:RT l) (hx:er x=true) (hf:FndT l x n false):cP l x=l.take n++([x]++l.drop n)∧(cP l x).length=l.length+1:=by
 obtain ⟨h1,h2,h3⟩:=En h.srt hf
 have hb:cm l x=x:=by
  unfold cm
  rw [se h3,decide_eq_false (by have:=(fv.1 hx).2.1;show ¬ x.2.2 < -1;omega)];rfl
 have hp:cP l x=l.take n++([x]++l.drop n):=by
  show ef (iX l x.1 x.2.1) (cm l x)=_
  rw [CU h3,hb]
  conv=>lhs;rw [← List.take_append_drop n l]
  exact Aj (fun a ha=>decide_eq_false fun g=>tH _ (fu (h1 a ha) g)) (fun b hb=>decide_eq_true (h2 b hb))
 refine ⟨hp,?_⟩
 rw [hp,List.length_append,List.length_append,List.length_take,List.length_drop,List.length_singleton]
 have:=hf.le
 omega
theorem DJ {l:List Tg} {x:Tg} {n:Nat} (h:RT l) (hx:er x=true) (hf:FndT l x n false) (hl:l.length=32):fW l x=8∧ip l x=[]:=
 pq (dK.2 h) hx (decide_eq_false (by rw [(Fo h hx hf).2];omega))
theorem Er {l:List Tg} {x:Tg} {n:Nat} (h:RT l) (hx:er x=true) (hf:FndT l x n false) (hl:¬ l.length=32):fW l x=0∧ip l x=l.take n++([x]++l.drop n):=by
 have h9:=zo (dK.2 h) hx (decide_eq_true (show (cP l x).length≤32 by rw [(Fo h hx hf).2];have:=h.len;omega))
 rw [h9.1,h9.2,(Fo h hx hf).1];exact ⟨rfl,rfl⟩
theorem IM {l:List Tg} {i:Id} {e:cw} {u:Int} {n:Nat} (h:RT l) (hf:FndT l (i,e,u) n true):n<l.length∧gS l i e=0∧lB l i e=l.take n++l.drop (n+1):=by
 obtain ⟨hn,hs,h1,h2⟩:=qU h.srt hf
 have ha:=vX h.srt hf
 have h0:gS l i e=0:=by unfold gS;rw [dK.2 h,show l.any (gn i e)=true from ha];rfl
 refine ⟨hn,h0,?_⟩
 unfold lB;rw [h0]
 show iX l i e=_
 conv=>lhs;rw [pv hn]
 unfold iX
 rw [List.filter_append,List.filter_cons_of_neg (by rw [show gn i e (l.getD n aN)=true from ew.2 hs];decide)]
 rw [List.filter_eq_self.2 fun y hy=>by rw [show gn i e y=false from oZ (m8 (h1 y hy))];rfl,List.filter_eq_self.2 fun y hy=>by rw [show gn i e y=false from oZ fun g=>nc (h2 y hy) g];rfl]
theorem HZ {l:List Tg} {i:Id} {e:cw} {u:Int} {n:Nat} (h:RT l) (hf:FndT l (i,e,u) n false):gS l i e=6∧lB l i e=[]:=by
 have ha:=vX h.srt hf
 have h0:gS l i e=6:=by unfold gS;rw [dK.2 h,show l.any (gn i e)=false from ha];rfl
 exact ⟨h0,by unfold lB;rw [h0];rfl⟩
def rv (m:Tg→Int) (le:Int) (l:List Tg):Nat→Tg × Int × Bool
 |0=>(aN,0,false)
 |k+1=>bif decide (le≤m (l.getD k aN)) && (!(rv m le l k).2.2 || decide ((rv m le l k).2.1<m (l.getD k aN))) then (l.getD k aN,m (l.getD k aN),true) else rv m le l k
theorem Ec (m:Tg→Int) (le:Int) (l:List Tg):∀ k,((rv m le l k).2.2=false∧(rv m le l k).1=aN∧∀ j,j<k→m (l.getD j aN)<le)∨((rv m le l k).2.2=true∧∃ j,j<k∧(rv m le l k).1=l.getD j aN∧(rv m le l k).2.1=m (l.getD j aN)∧le≤m (l.getD j aN)∧(∀ i,i<k→le≤m (l.getD i aN)→m (l.getD i aN)≤m (l.getD j aN))∧∀ i,i<j→m (l.getD i aN)<m (l.getD j aN))
 |0=>.inl ⟨rfl,rfl,fun j hj=>absurd hj (Nat.not_lt_zero _)⟩
 |k+1=>by
  have ih:=Ec m le l k
  show (_∨_)
  unfold rv
  by_cases hle:le≤m (l.getD k aN)
  ·rcases ih with ⟨h1,h0,h2⟩|⟨h1,j,hj,h2,h3,h4,h5,h6⟩
   ·rw [h1,decide_eq_true hle]
    refine .inr ⟨rfl,k,by omega,rfl,rfl,hle,fun i hi g=>?_,fun i hi=>?_⟩
    ·rcases Nat.lt_or_ge i k with g9|g9
     ·exact absurd g (by have:=h2 i g9;omega)
     ·obtain rfl:i=k:=by omega
      exact Int.le_refl _
    ·have:=h2 i hi;show m (l.getD i aN)<m (l.getD k aN);omega
   ·rw [h1,h3,decide_eq_true hle]
    by_cases hm:m (l.getD j aN)<m (l.getD k aN)
    ·rw [decide_eq_true hm]
     refine .inr ⟨rfl,k,by omega,rfl,rfl,hle,fun i hi g=>?_,fun i hi=>?_⟩
     ·rcases Nat.lt_or_ge i k with g9|g9
      ·have:=h5 i g9 g;show m (l.getD i aN)≤m (l.getD k aN);omega
      ·obtain rfl:i=k:=by omega
       exact Int.le_refl _
     ·show m (l.getD i aN)<m (l.getD k aN)
      by_cases g:le≤m (l.getD i aN)
      ·have:=h5 i hi g;omega
      ·omega
    ·rw [decide_eq_false hm]
     refine .inr ⟨h1,j,by omega,h2,h3,h4,fun i hi g=>?_,h6⟩
     rcases Nat.lt_or_ge i k with g9|g9
     ·exact h5 i g9 g
     ·obtain rfl:i=k:=by omega
      omega
  ·rw [decide_eq_false hle]
   rcases ih with ⟨h1,h0,h2⟩|⟨h1,j,hj,h2,h3,h4,h5,h6⟩
   ·refine .inl ⟨h1,h0,fun i hi=>?_⟩
    rcases Nat.lt_or_ge i k with g9|g9
    ·exact h2 i g9
    ·obtain rfl:i=k:=by omega
     omega
   ·refine .inr ⟨h1,j,by omega,h2,h3,h4,fun i hi g=>?_,h6⟩
    rcases Nat.lt_or_ge i k with g9|g9
    ·exact h5 i g9 g
    ·obtain rfl:i=k:=by omega
     exact absurd g hle
noncomputable def E0 (x:Id) (y:Tg):Int:=(kX y.1 x:Int)
noncomputable def BB (l:List Tg) (x:Id):Tg × Int × Bool:=rv (E0 x) 128 l l.length
theorem zV {l:List Tg} {p:Tg→Bool} {j:Nat} (hj:j<l.length) (h:∀ i,i<j→p (l.getD i aN)=false) (hp:p (l.getD j aN)=true):l.find? p=some (l.getD j aN):=wi hj h hp
theorem mL {l:List Tg} (h:bp l=true) (x:Id):((BB l x).2.2=false→Cj l x=6∧Gc l x=[])∧((BB l x).2.2=true→Cj l x=0∧Gc l x=l.filter fun y=>decide (y.1=(BB l x).1.1)):=by
 have hm:=Cy h x
 rcases Ec (E0 x) 128 l l.length with ⟨h1,_,h2⟩|⟨h1,j,hj,h2,h3,h4,h5,h6⟩
 ·refine ⟨fun _=>?_,fun g=>(by unfold BB at g;rw [h1] at g;cases g)⟩
  have hn:ju l x=[]:=by
   rcases qd l x with ⟨g,_⟩|⟨n,g1,g2,g3,g4,g5⟩
   ·exact g
   ·exfalso
    obtain ⟨y,hy⟩:=List.exists_mem_of_ne_nil _ g4
    obtain ⟨hy1,hy2⟩:=pi hy
    obtain ⟨i,hi,rfl⟩:=wy hy1
    have:=h2 i hi
    unfold E0 at this
    omega
  rw [hm.1,hm.2,hn];exact ⟨rfl,rfl⟩
 ·refine ⟨fun g=>(by unfold BB at g;rw [h1] at g;cases g),fun _=>?_⟩
  have e:(BB l x).1=l.getD j aN:=h2
  rw [e]
  unfold E0 at h4 h5 h6
  have hf:ju l x=l.filter fun y=>decide (y.1=(l.getD j aN).1):=by
   rcases qd l x with ⟨_,g⟩|⟨n,g1,g2,g3,g4,g5⟩
   ·have:=g _ (fC hj);omega
   ·have hn:kX (l.getD j aN).1 x=n:=by
     obtain ⟨y,hy⟩:=List.exists_mem_of_ne_nil _ g4
     obtain ⟨hy1,hy2⟩:=pi hy
     obtain ⟨i,hi,rfl⟩:=wy hy1
     have:=h5 i hi (by omega)
     have:=g5 _ (fC hj)
     omega
    rw [g3,qD (z:=l.getD j aN) (zV hj (fun i hi=>decide_eq_false (by have:=h6 i hi;omega)) (decide_eq_true hn))]
    refine List.filter_congr fun y hy=>?_
    by_cases g:y.1=(l.getD j aN).1
    ·rw [decide_eq_true (show kX y.1 x=n by rw [g];exact hn)];simp
    ·rw [decide_eq_false g];simp
  have hl:(ju l x).length≠0:=by
   rw [hf]
   have:l.getD j aN∈l.filter fun y=>decide (y.1=(l.getD j aN).1):=List.mem_filter.2 ⟨fC hj,by simp⟩
   have:=List.length_pos_of_mem this
   omega
  rw [hm.1,hm.2,decide_eq_false hl]
  exact ⟨rfl,hf⟩
theorem St.grp1 {w0 w:World} {a:Value} {M:TypeId} {sa n:Nat} {xs:List Value} {ks:List Nat} {S S':World→Prop} {B:List Own} (s:St w0 (.sl a M sa n xs::.grp ks S::B) w) (h:∀ w9,bK w9 a sa n xs→S w9→S' w9):∃ kn,St w0 (.grp kn S'::B) w:=
 ⟨_,(St.group (A:=[.sl a M sa n xs,.grp ks S]) (B:=B) s).weak fun w9 h9=>h w9 (bK.of_own (h9 (.sl a M sa n xs) (by simp))) ((h9 (.grp ks S) (by simp)).2 w9 fun _ _=>rfl)⟩
theorem oI (ls:List (List Tg)) (k:Nat) (h:k<ls.length):(ls.take (k+1)).flatten=(ls.take k).flatten++ls.getD k []:=by
 rw [List.take_succ_eq_append_getElem h,List.flatten_append,List.getD_eq_getElem?_getD,List.getElem?_eq_getElem h];simp
theorem nF (ls:List (List Tg)) (k:Nat) (h:k<ls.length):(ls.take k).flatten.length+(ls.getD k []).length=(ls.take (k+1)).flatten.length:=by
 rw [oI ls k h,List.length_append]
theorem tG (ls:List (List Tg)) (k:Nat) (h:k<ls.length):aA (ls.take k).flatten++aA (ls.getD k [])=aA (ls.take (k+1)).flatten:=by
 rw [oI ls k h,eD]
theorem wb (ls:List (List Tg)) (k:Nat):(ls.take k).flatten.length≤ls.flatten.length:=by
 have:=congrArg (fun x=>x.flatten.length) (List.take_append_drop k ls)
 simp only [List.flatten_append,List.length_append] at this
 omega
theorem rb {w:World} {base:Nat} {e:TypeId} {v:Value} {ls:List (List Tg)} {i:Nat} (hi:ls.length≤i) (h:cb w base e 67 v (ls.take i).flatten.length (aA (ls.take i).flatten)):cb w base e 67 v ls.flatten.length (aA ls.flatten):=by
 rwa [List.take_of_length_le hi] at h
theorem BH {w:World} {l r:List Tg} {vl vr:Value} (h1:cK w vl l) (h2:cK w vr r):∀ k,k<[vl,vr].length→bK w ([vl,vr].getD k undef) 67 (([l,r].getD k []).length) (aA ([l,r].getD k [])):=fun k hk=>by
 match k,hk with
 |0,_=>exact h1
 |1,_=>exact h2
theorem xJ {w:World} {u v x:Value} {a b c:List Tg} (h1:cK w u a) (h2:cK w v b) (h3:cK w x c):∀ k,k<[u,v,x].length→bK w ([u,v,x].getD k undef) 67 ([a,b,c].getD k []).length (aA ([a,b,c].getD k [])):=fun k hk=>by
 match k,hk with
 |0,_=>exact h1
 |1,_=>exact h2
 |2,_=>exact h3
theorem lP (l r:List Tg):[l,r].flatten=l++r:=by simp
theorem iJ (a b c:List Tg):[a,b,c].flatten=a++(b++c):=by simp
theorem uk {w:World} {a:Option Addr} {n c:Nat} {l:List Tg} (ha:a.isNone=true) (h:bK w (.slice a n c) 67 l.length (aA l)):l=[]:=by
 cases a with
 |some p=>cases ha
 |none=>
  rcases h.2 with ⟨h1,h2⟩|⟨p,cap,h1,_⟩
  ·exact List.eq_nil_of_length_eq_zero h2
  ·cases h1
theorem i5 {w:World} {v:Value} {l:List Tg} (h:cK w v l) (k:Nat) (hk:k≤l.length):cK w (cX v 67 k) (l.drop k):=by
 have:=h.drop k hk
 unfold aA at this
 rw [jR _ 67 ex] at this
 unfold cK aA
 rw [List.length_drop];exact this
section
variable {P:Program} {ρ:Operand→Value} {d:Option Tmp} {ty:TypeId} {pos:String} {af:Array Edge} {g:Option (Nat × Bool)} {x y z:Operand} {t:TypeId}
theorem EK {k:IntKind} {m n:Int} {tys:Array TypeId} (hx:ρ x=.int k m) (hy:ρ y=.int k n):aD P ⟨d,.call {callee:=.builtin .max,args:=#[x,y],argTypes:=tys},ty,pos,af,g⟩ ρ (.int k (if n>m then n else m)):=fun w=>by
 simp [execOp,resolve,hx,hy,invoke,builtin,Builtin.max_,Builtin.max2,Sem.run_bind]
theorem rj {C:Array Value} {V:Value} {len:Nat} {e:TypeId} {ps rs:Array TypeId} {vr:Bool} {k:IntKind} {m:Int} (j:Nat) (hd:P.underlying t=some (.array len e)) (he:(P.info? e).map (·.size)=some 1) (ha:P.underlying e=some (.func ps rs vr)) (hx:ρ x=.agg C) (hy:ρ y=.int k m) (hj:m=(j:Int)) (hlt:j<len) (hC:C[j]? = some V):aD P ⟨d,.index t x y,ty,pos,af,g⟩ ρ V:=fun w=>by
 subst hj
 cases hi:P.info? e with
 |none=>simp [hi] at he
 |some i=>
  have h1:i.size=1:=by simpa [hi] using he
  have h2:(0:Int)≤(j:Int)∧(j:Int)<(len:Int):=by omega
  simp only [execOp,hx,hy,Instr.index,asIntOf,Sem.run_bind,Sem.run_pure,Result.andThen_ok,run_underlying hd w]
  rw [if_pos h2]
  have h3:(isAgg e).run P w=.ok false w:=by unfold isAgg;rw [Sem.run_bind,run_underlying ha w];rfl
  simp [Sem.run_bind,sizeOf,typeInfo,hi,h1,part,h3,hC]
end
def I7 (a b c d k:Nat):Nat:=match k with|0=>a|1=>b|2=>c|_=>d
theorem ER {a b c d k:Nat} (hk:k<4):(#[Value.func (.func a) #[] #[],.func (.func b) #[] #[],.func (.func c) #[] #[],.func (.func d) #[] #[]]:Array Value)[k]? = some (.func (.func (I7 a b c d k)) #[] #[]):=by
 match k,hk with
 |0,_=>rfl
 |1,_=>rfl
 |2,_=>rfl
 |3,_=>rfl
theorem Cc (i j:Nat):((i:Int)+(j:Int)).fdiv (2 ^ (min (1:Int).toNat IntKind.u64.bits))=(((i+j) / 2:Nat):Int):=by
 rw [show (2:Int) ^ (min (1:Int).toNat IntKind.u64.bits)=2 from rfl,Int.fdiv_eq_ediv_of_nonneg _ (by decide)]
 omega
theorem GF {m:Tg→Int} {le:Int} {l:List Tg} {k:Nat} {z:Tg} {mo:Int} {bi:Bool} (hp:(z,mo,bi)=rv m le l k) (h0:decide (le≤m (l.getD k aN))=true) (h:(!bi || decide (mo<m (l.getD k aN)))=true):(l.getD k aN,m (l.getD k aN),true)=rv m le l (k+1):=by
 show _=(bif _ then _ else _)
 rw [← hp,h0,h];rfl
theorem If {m:Tg→Int} {le:Int} {l:List Tg} {k:Nat} {z:Tg} {mo:Int} {bi:Bool} (hp:(z,mo,bi)=rv m le l k) (h:(decide (le≤m (l.getD k aN)) && (!bi || decide (mo<m (l.getD k aN))))=false):(z,mo,bi)=rv m le l (k+1):=by
 show _=(bif _ then _ else _)
 rw [← hp,h];rfl
section
variable {P:Program} {ρ:Operand→Value} {d:Option Tmp} {ty:TypeId} {pos:String} {af:Array Edge} {g:Option (Nat × Bool)} {x y z:Operand} {t:TypeId}
theorem nZ {i:Id} {e:cw} (S:Stt P t xT) (hx:ρ x=.agg (aw i)) (hy:ρ y=.agg (bc e)):aD P ⟨d,.build t #[(0,x),(1,y)],ty,pos,af,g⟩ ρ (.agg (au (i,e,0))):=by
 have:=aW (P:=P) (ρ:=ρ) (d:=d) (ty:=ty) (pos:=pos) (af:=af) (g:=g) (parts:=#[(0,x),(1,y)]) S [(0,.agg (aw i)),(1,.agg (bc e))] (by simp [hx,hy]) (fun j u hm=>by
  simp only [List.mem_cons,Prod.mk.injEq,List.not_mem_nil,or_false] at hm
  rcases hm with ⟨rfl,rfl⟩|⟨rfl,rfl⟩
  ·exact ⟨_,rfl,by simp [Value.cells]⟩
  ·exact ⟨_,rfl,by show (bc e).size=34;exact aK e⟩) (D:=jy (i,e,0)) (by
   show (aw i).toList++((bc e).toList++([Value.int .i64 0]++[]))=_
   rfl)
 exact this
end
theorem DG {v:Value} (h:v.oneCell'=true):v.cells.size=1∧v.cells.toList=[v]:=by cases v<;>first|exact ⟨rfl,rfl⟩|cases h
theorem j9 {w w':World} {vh v:Value} {N:TypeId} {l K L:List Tg} {E e:Int} (hE:E=e) (hK:K=L) (s:St w [.sl v N 67 L.length (aA L)] w'):Gu w vh l K E (.tuple #[v,.int .i64 e]) w':=by
 subst hE;subst hK
 obtain ⟨kn,s⟩:=((s.grp0 (S:=fun _=>True) (fun _=>trivial)).perm (List.Perm.swap ..)).grp1 (S':=fun w9=>cK w9 vh l→cK w9 v K) (fun w9 h _ _=>h)
 exact ⟨v,kn,rfl,s⟩
theorem gi {w w':World} {vh:Value} {l K:List Tg} {E e:Int} (hE:E=e) (hK:K=[]) (s:St w [] w'):Gu w vh l K E (.tuple #[.slice none 0 0,.int .i64 e]) w':=by
 subst hE;subst hK
 exact ⟨_,[],rfl,s.grp0 (S:=fun w9=>cK w9 vh l→cK w9 aM []) (fun w9 _=>cI w9)⟩
theorem Cg {w w':World} {vh v u:Value} {N M:TypeId} {l A C A' C':List Tg} {E e:Int} (hE:E=e) (hA:A=A') (hC:C=C') (s:St w [.sl v N 67 A'.length (aA A'),.sl u M 67 C'.length (aA C')] w'):Kd w vh l A C E (.tuple #[v,u,.int .i64 e]) w':=by
 subst hE;subst hA;subst hC
 have s1:=s.grp0 (S:=fun _=>True) (fun _=>trivial)
 obtain ⟨k1,s2⟩:=(s1.perm (List.perm_append_comm (l₁:=[_]) (l₂:=[_,_]))).grpR (S':=fun w9=>cK w9 vh l→cK w9 v A∧cK w9 u C) (fun w9 h1 h2 _ _=>⟨h1,h2⟩)
 exact ⟨v,u,k1,rfl,s2⟩
theorem Bj {w w':World} {vh:Value} {l A C:List Tg} {E e:Int} (hE:E=e) (hA:A=[]) (hC:C=[]) (s:St w [] w'):Kd w vh l A C E (.tuple #[.slice none 0 0,.slice none 0 0,.int .i64 e]) w':=by
 subst hE;subst hA;subst hC
 exact ⟨_,_,[],rfl,s.grp0 (S:=fun w9=>cK w9 vh l→cK w9 aM []∧cK w9 aM []) (fun w9 _=>⟨cI w9,cI w9⟩)⟩
theorem HQ (l:List Tg) (n:Nat) (hn:n<l.length):(aA l)[n*67+66]? = some (.int .i64 (l.getD n aN).2.2):=by
 have h:=dd l n hn
 have h1:=congrArg (fun a=>a[66]?) h
 simp only [List.getElem?_toArray] at h1
 rw [cR,List.getElem?_take_of_lt (by decide),List.getElem?_drop] at h1
 exact h1
theorem Fn {l:List Tg} {n:Nat} (hn:n<l.length) (y:Tg) (off:Nat) (V:Value) (hoff:off<67) (h:(au (l.getD n aN)).setIfInBounds off V=au y):(aA l).set (n*67+off) V=aA (l.set n y):=by
 have hl:aA l=aA (l.take n)++((au (l.getD n aN)).toList++aA (l.drop (n+1))):=by
  conv=>lhs;rw [pv hn]
  rw [eD,show l.getD n aN::l.drop (n+1)=[l.getD n aN]++l.drop (n+1) from rfl,eD,gk]
 have h1:(aA (l.take n)).length=n*67:=by rw [mg,List.length_take,Nat.min_eq_left (by omega)]
 have h2:((au (l.getD n aN)).toList.set off V)=(au y).toList:=by rw [← h,Array.toList_setIfInBounds]
 rw [hl,List.set_append_right _ _ (by omega),h1,Nat.add_sub_cancel_left,List.set_append_left _ _ (by rw [Array.length_toList,ai];exact hoff),h2]
 rw [List.set_eq_take_append_cons_drop,if_pos hn,eD,show y::l.drop (n+1)=[y]++l.drop (n+1) from rfl,eD,gk]
end Go.Proofs.YtobfeflheaobiaaGreatDoor
namespace Go.Proofs.YtobfeflheaobiaaGreatDoor
open Go.RowKit Go.ChangeShapes Go.WideShapes Go.ChangeAt
theorem q4 {H:Type} {enc:TypeId × Value→H} {P:Program} {w:World} {base:Nat} {spare:Nat→Bool} {held:Bool} {t te tn ti e:TypeId} {f0 f1 f2 g0 g1 g2:Field} {fuel:Nat} {cs:List Value} {x:DataW H × List MemPlace} (T:IdTy P ti e) (hc:P.cellsOf ti=32) (hce:P.cellsOf e=1) (hn:P.underlying tn=some (.int .i64)) (hcn:P.cellsOf tn=1)
 (hte:P.underlying te=some (.struct #[f0,f1,f2])) (h0:f0.type=tn) (h1:f1.type=ti) (h2:f2.type=tn) (o0:f0.offset=0) (o1:f1.offset=1) (o2:f2.offset=33) (hcte:P.cellsOf te=34)
 (ht:P.underlying t=some (.struct #[g0,g1,g2])) (k0:g0.type=ti) (k1:g1.type=te) (k2:g2.type=tn) (p0:g0.offset=0) (p1:g1.offset=32) (p2:g2.offset=66) (hct:P.cellsOf t=67)
 (h:DataW.trod enc P w base spare held fuel t cs=some x):∃ l:Tg,cs=(au l).toList:=by
 obtain ⟨xs,n,rfl,_,hl,hxl,hel⟩:=DataW.trod_struct ht h
 rw [hct] at hl
 have hx2:xs.length=3:=by simpa using hxl
 have e0:=hel 0 g0 rfl
 have e1:=hel 1 g1 rfl
 have e2:=hel 2 g2 rfl
 rw [k0,p0,hc,List.getElem?_eq_getElem (by omega)] at e0
 rw [k1,p1,hcte,List.getElem?_eq_getElem (by omega)] at e1
 rw [k2,p2,hcn,List.getElem?_eq_getElem (by omega)] at e2
 obtain ⟨a,ha⟩:=rM T hc hce e0
 obtain ⟨b,hb⟩:=xC T hc hce hn hcn hte h0 h1 h2 o0 o1 o2 hcte e1
 obtain ⟨u,hu,_⟩:=DataW.trod_int hn e2
 refine ⟨(a,b,u),?_⟩
 show cs=(aw a).toList++((bc b).toList++[.int .i64 u])
 rw [← ha,← hb,← hu,List.drop_zero]
 have s1:(cs.drop 66).take 1=cs.drop 66:=List.take_of_length_le (by rw [List.length_drop];omega)
 have s2:(cs.drop 32).take 34++cs.drop 66=cs.drop 32:=by
  have:=List.take_append_drop 34 (cs.drop 32)
  rw [List.drop_drop] at this
  exact this
 rw [s1,s2,List.take_append_drop]
theorem yy {H:Type} {enc:TypeId × Value→H} {P:Program} {W:World} {r:Reach} {b0:Nat} {ts t te tn ti e:TypeId} {f0 f1 f2 g0 g1 g2:Field} {v:Value} {d:DataW H} {ps:List MemPlace} (T:IdTy P ti e) (hc:P.cellsOf ti=32) (hce:P.cellsOf e=1) (hn:P.underlying tn=some (.int .i64)) (hcn:P.cellsOf tn=1)
 (hte:P.underlying te=some (.struct #[f0,f1,f2])) (h0:f0.type=tn) (h1:f1.type=ti) (h2:f2.type=tn) (o0:f0.offset=0) (o1:f1.offset=1) (o2:f2.offset=33) (hcte:P.cellsOf te=34)
 (hts:P.underlying ts=some (.slice t)) (ht:P.underlying t=some (.struct #[g0,g1,g2])) (k0:g0.type=ti) (k1:g1.type=te) (k2:g2.type=tn) (p0:g0.offset=0) (p1:g1.offset=32) (p2:g2.offset=66) (hct:P.cellsOf t=67)
 (hval:Value.okWide P W r b0 ts v) (h:DataW.Trod enc P W 0 (fun _=>true) true ts v d ps):∃ ls:List Tg,bK W v 67 ls.length (aA ls):=by
 obtain ⟨a,n,c,rfl⟩:=okWide_slice hts hval
 obtain ⟨fuel,hf⟩:=h
 rcases Go.Deep.open_slice hts hf with ⟨hcs,_⟩|⟨a',len,cap,m,k,D,Pl,hcs,_,hl,_,hm,_,hel⟩
 ·have:Value.slice a n c=.slice none 0 0:=by simpa [Value.cells] using hcs
  exact ⟨[],rfl,.inl ⟨this,rfl⟩⟩
 ·have hv:Value.slice a n c=.slice (some a') len cap:=by simpa [Value.cells] using hcs
  have hml:len≤m:=by rw [hm];split<;>omega
  have each:∀ i,∃ l:Tg,i<len→aO W (a'.add (i*67)) (au l):=fun i=>by
   by_cases hi:i<len
   ·obtain ⟨cs',hc1,hc2⟩:=hel i (by omega)
    obtain ⟨l,rfl⟩:=q4 T hc hce hn hcn hte h0 h1 h2 o0 o1 o2 hcte ht k0 k1 k2 p0 p1 p2 hct hc2
    refine ⟨l,fun _ j u hj=>?_⟩
    rw [hct] at hc1
    obtain ⟨_,hlen,hall⟩:=World.cells?_some hc1
    have hj67:j<67:=by have:=(Array.getElem?_eq_some_iff.1 hj).1;rw [ai] at this;exact this
    have:=hall j hj67
    rw [this,Array.getElem?_toList];exact hj
   ·exact ⟨aN,fun h9=>absurd h9 hi⟩
  obtain ⟨L,hL⟩:=Classical.axiomOfChoice each
  refine ⟨(List.range len).map L,?_,.inr ⟨a',cap,by rw [hv];simp,by simpa using hl,?_⟩⟩
  ·rw [mg]
  ·refine qW _ 67 (by decide) ex _ fun i hi=>?_
   have hi':i<len:=by simpa using hi
   have h9:((List.range len).map L)[i]=L i:=by simp
   rw [h9]
   exact hL i hi'
end Go.Proofs.YtobfeflheaobiaaGreatDoor
