/- Packets and what becomes of them: which may be, which are the same, what goes on and by which triggers, of other data and more hops; packets that come in; no Go in it. -/
import Derived.Test.YtobfeflheaobiaaGreatDoorTb
set_option linter.unusedVariables false
set_option linter.unusedSimpArgs false
set_option linter.unusedSectionVars false
namespace Go.Proofs.YtobfeflheaobiaaGreatDoor
open Go.RowKit
abbrev Pk:=List cw × Int × ByteArray
abbrev eg (w:World) (v:Value) (l:List cw):Prop:=bK w v 34 l.length (bB l)
def Gv (v:Value) (h:Int) (d:ByteArray):List Value:=[v,.int .i64 h,.string d]
def bP (v:Value) (h:Int) (d:ByteArray):Array Value:=(Gv v h d).toArray
theorem cJ (v:Value) (h:Int) (d:ByteArray):(bP v h d).size=3:=rfl
theorem jN {v:Value} (h:Int) (d:ByteArray) (hv:v.oneCell'=true):∀ u∈(bP v h d).toList,u.oneCell'=true:=fun u hu=>by
 have hu:u∈Gv v h d:=hu
 unfold Gv at hu
 simp only [List.mem_cons,List.not_mem_nil,or_false] at hu
 rcases hu with rfl|rfl|rfl
 ·exact hv
 ·rfl
 ·rfl
structure Ot where
 k:Int
 h:Int
 p:Pk
 t:Tg
 y:Int
deriving DecidableEq
abbrev O2:=Ot × Value
def K1:Ot:=⟨0,0,([],0,ByteArray.empty),aN,0⟩
def bw:O2:=(K1,aM)
def A6 (k h:Int) (v:Value) (n:Int) (d:ByteArray) (t:Tg) (y:Int):List Value:=.int .i64 k::.int .i64 h::(Gv v n d++(jy t++[.int .i64 y]))
def co (k h:Int) (v:Value) (n:Int) (d:ByteArray) (t:Tg) (y:Int):Array Value:=(A6 k h v n d t y).toArray
theorem uW (k h:Int) (v:Value) (n:Int) (d:ByteArray) (t:Tg) (y:Int):(A6 k h v n d t y).length=73:=by simp [A6,Gv,ex]
theorem eA (k h:Int) (v:Value) (n:Int) (d:ByteArray) (t:Tg) (y:Int):(co k h v n d t y).size=73:=by simp [co,uW]
theorem jZ {v:Value} (k h n:Int) (d:ByteArray) (t:Tg) (y:Int) (hv:v.oneCell'=true):∀ u∈(co k h v n d t y).toList,u.oneCell'=true:=fun u hu=>by
 have hu:u∈A6 k h v n d t y:=hu
 unfold A6 at hu
 rcases List.mem_cons.1 hu with rfl|hu
 ·rfl
 ·rcases List.mem_cons.1 hu with rfl|hu
  ·rfl
  ·rcases List.mem_append.1 hu with hu|hu
   ·exact jN n d hv u hu
   ·rcases List.mem_append.1 hu with hu|hu
    ·exact j5 t u hu
    ·rw [List.mem_singleton.1 hu];rfl
section
variable (k h:Int) (v:Value) (n:Int) (d:ByteArray) (t:Tg) (y:Int)
theorem HM:(co k h v n d t y)[0]? = some (.int .i64 k):=rfl
theorem Kc:(co k h v n d t y)[1]? = some (.int .i64 h):=rfl
theorem Kb:(co k h v n d t y)[2]? = some v:=rfl
theorem IK:(co k h v n d t y).extract 2 (2+3)=bP v n d:=kK _ _ _ _ rfl
theorem JM:(co k h v n d t y).extract 5 (5+67)=au t:=kK _ _ _ _ (by
 show (jy t++[Value.int .i64 y]).take 67=jy t
 rw [List.take_left' (ex t)])
theorem Jt:(co k h v n d t y)[72]? = some (.int .i64 y):=by
 unfold co
 rw [List.getElem?_toArray]
 show (jy t++[Value.int .i64 y])[67]? = _
 rw [List.getElem?_append_right (by rw [ex];exact Nat.le_refl _),ex];rfl
theorem zr:(bP v n d)[0]? = some v:=rfl
theorem xP:(bP v n d)[1]? = some (.int .i64 n):=rfl
theorem Cq:(bP v n d)[2]? = some (.string d):=rfl
end
def Kv:List (List Value):=[[.slice none 0 0],[.int .i64 0],[.string ByteArray.empty]]
def GS:List (List Value):=[[.int .i64 0],[.int .i64 0],[.slice none 0 0,.int .i64 0,.string ByteArray.empty],xT.flatten,[.int .i64 0]]
theorem iQ:jy aN=xT.flatten:=by
 have:=congrArg Array.toList px
 exact this
theorem Bq:co 0 0 aM 0 ByteArray.empty aN 0=GS.flatten.toArray:=by
 unfold co A6
 rw [iQ];rfl
def HE (x:O2):List Value:=A6 x.1.k x.1.h x.2 x.1.p.2.1 x.1.p.2.2 x.1.t x.1.y
theorem Ct (x:O2):(HE x).length=73:=uW ..
def ct (l:List O2):List Value:=l.flatMap HE
theorem rL (l r:List O2):ct (l++r)=ct l++ct r:=List.flatMap_append
theorem Jx {l:List O2} {j:Nat} (hj:j<l.length):l[j]=l.getD j bw:=by
 rw [List.getD_eq_getElem?_getD,List.getElem?_eq_getElem hj];rfl
theorem Hg (l:List O2) (j:Nat) (hj:j<l.length):(((ct l).drop (j*73)).take 73).toArray=co (l.getD j bw).1.k (l.getD j bw).1.h (l.getD j bw).2 (l.getD j bw).1.p.2.1 (l.getD j bw).1.p.2.2 (l.getD j bw).1.t (l.getD j bw).1.y:=by
 unfold ct
 rw [iO _ 73 Ct l j hj,Jx hj];rfl
theorem gy {l:List O2} {j:Nat} (hj:j<l.length):l.getD j bw∈l:=by rw [← Jx hj];exact List.getElem_mem hj
theorem E7 (x:O2):([Value.agg (co x.1.k x.1.h x.2 x.1.p.2.1 x.1.p.2.2 x.1.t x.1.y)].flatMap fun v=>v.cells.toList)=HE x:=by simp [Value.cells,co,HE]
theorem C0 (l:List O2) (x:O2):ct l++HE x=ct (l++[x]):=by rw [rL];simp [ct]
theorem ut (x:O2):∀ v∈([.agg (co x.1.k x.1.h x.2 x.1.p.2.1 x.1.p.2.2 x.1.t x.1.y)]:List Value),v.cells.size=73:=fun v hv=>by
 rw [List.mem_singleton] at hv;subst hv;exact eA ..
def ny (K:List O2) (w:World):Prop:=∀ x∈K,eg w x.2 x.1.p.1
def xS (w:World) (v:Value) (K:List O2):Prop:=bK w v 73 K.length (ct K)∧ny K w
def eL (K:List O2):List Ot:=K.map (·.1)
def dT (p:Pk):Bool:=iH p.1 && (decide (0≤p.2.1) && (decide (p.2.1≤64) && decide (p.2.2.size≤64)))
def yE (p:Pk) (b:Tg) (f:List cw):Ot:=⟨2,0,(f++p.1.drop 1,p.2.1 - 1,p.2.2),b,0⟩
def bo (p:Pk):cw:=p.1.getD 0 (0,0#256,0)
def iR (p:Pk):Ot:=⟨1,(bo p).2.2,p,aN,0⟩
def fw (y:Int):Ot:=⟨3,0,([],0,ByteArray.empty),aN,y⟩
def iu (p:Pk) (x:Tg):Ot:=yE p x [x.2.1]
noncomputable def cO (t:List Tg) (p:Pk):List Ot:=
 bif decide ((bo p).1=2) then [iR p] else bif decide (p.2.1=0) then [fw 9] else
  bif decide ((ju t (bo p).2.1).length=0) then (bif decide (1<p.1.length) then [yE p aN []] else [fw 6]) else (ju t (bo p).2.1).map (iu p)
def Fz (t:List Tg) (p:Pk):Int:=bif dT p && bp t then 0 else 1
noncomputable def Gr (t:List Tg) (p:Pk):List Ot:=bif dT p && bp t then cO t p else []
theorem dO {p:Pk}:dT p=true↔(0<p.1.length∧p.1.length≤4∧∀ e∈p.1,eR e=true)∧0≤p.2.1∧p.2.1≤64∧p.2.2.size≤64:=by
 unfold dT
 rw [Bool.and_eq_true,Bool.and_eq_true,Bool.and_eq_true,nN,decide_eq_true_eq,decide_eq_true_eq,decide_eq_true_eq]
section
variable {P:Program} {ρ:Operand→Value} {d:Option Tmp} {ty:TypeId} {pos:String} {af:Array Edge} {g:Option (Nat × Bool)} {x y z:Operand} {t:TypeId}
theorem kw {v:Value} {n:Int} {s:ByteArray} (S:Stt P t Kv) (hv:v.cells.size=1) (hc:v.cells.toList=[v]) (hx:ρ x=v) (hy:ρ y=.int .i64 n) (hz:ρ z=.string s):aD P ⟨d,.build t #[(0,x),(1,y),(2,z)],ty,pos,af,g⟩ ρ (.agg (bP v n s)):=by
 have:=aW (P:=P) (ρ:=ρ) (d:=d) (ty:=ty) (pos:=pos) (af:=af) (g:=g) (parts:=#[(0,x),(1,y),(2,z)]) S [(0,v),(1,.int .i64 n),(2,.string s)] (by simp [hx,hy,hz]) (fun i u hm=>by
  simp only [List.mem_cons,Prod.mk.injEq,List.not_mem_nil,or_false] at hm
  rcases hm with ⟨rfl,rfl⟩|⟨rfl,rfl⟩|⟨rfl,rfl⟩
  ·exact ⟨_,rfl,hv⟩
  ·exact ⟨_,rfl,rfl⟩
  ·exact ⟨_,rfl,rfl⟩) (D:=Gv v n s) (by
   show v.cells.toList++([Value.int .i64 n]++([Value.string s]++[]))=_
   rw [hc];rfl)
 exact this
theorem nS {k:Int} {v:Value} {n:Int} {s:ByteArray} {b:Tg} (S:Stt P t GS) (_hc:v.cells.toList=[v]) (hx:ρ x=.int .i64 k) (hy:ρ y=.agg (bP v n s)) (hz:ρ z=.agg (au b)):aD P ⟨d,.build t #[(0,x),(2,y),(3,z)],ty,pos,af,g⟩ ρ (.agg (co k 0 v n s b 0)):=by
 have:=aW (P:=P) (ρ:=ρ) (d:=d) (ty:=ty) (pos:=pos) (af:=af) (g:=g) (parts:=#[(0,x),(2,y),(3,z)]) S [(0,.int .i64 k),(2,.agg (bP v n s)),(3,.agg (au b))] (by simp [hx,hy,hz]) (fun i u hm=>by
  simp only [List.mem_cons,Prod.mk.injEq,List.not_mem_nil,or_false] at hm
  rcases hm with ⟨rfl,rfl⟩|⟨rfl,rfl⟩|⟨rfl,rfl⟩
  ·exact ⟨_,rfl,rfl⟩
  ·exact ⟨_,rfl,rfl⟩
  ·exact ⟨_,rfl,by show (au b).size=_;rw [ai,← iQ,ex]⟩) (D:=A6 k 0 v n s b 0) (by
   show [Value.int .i64 k]++([Value.int .i64 0]++((bP v n s).toList++((au b).toList++([Value.int .i64 0]++[]))))=_
   rfl)
 exact this
theorem lC {k h:Int} {v:Value} {n:Int} {s:ByteArray} (S:Stt P t GS) (hx:ρ x=.int .i64 k) (hy:ρ y=.int .i64 h) (hz:ρ z=.agg (bP v n s)):aD P ⟨d,.build t #[(0,x),(1,y),(2,z)],ty,pos,af,g⟩ ρ (.agg (co k h v n s aN 0)):=by
 have:=aW (P:=P) (ρ:=ρ) (d:=d) (ty:=ty) (pos:=pos) (af:=af) (g:=g) (parts:=#[(0,x),(1,y),(2,z)]) S [(0,.int .i64 k),(1,.int .i64 h),(2,.agg (bP v n s))] (by simp [hx,hy,hz]) (fun i u hm=>by
  simp only [List.mem_cons,Prod.mk.injEq,List.not_mem_nil,or_false] at hm
  rcases hm with ⟨rfl,rfl⟩|⟨rfl,rfl⟩|⟨rfl,rfl⟩
  ·exact ⟨_,rfl,rfl⟩
  ·exact ⟨_,rfl,rfl⟩
  ·exact ⟨_,rfl,rfl⟩) (D:=A6 k h v n s aN 0) (by
   show [Value.int .i64 k]++([Value.int .i64 h]++((bP v n s).toList++(xT.flatten++([Value.int .i64 0]++[]))))=_
   rw [← iQ];rfl)
 exact this
theorem lz {k w:Int} (S:Stt P t GS) (hx:ρ x=.int .i64 k) (hy:ρ y=.int .i64 w):aD P ⟨d,.build t #[(0,x),(4,y)],ty,pos,af,g⟩ ρ (.agg (co k 0 aM 0 ByteArray.empty aN w)):=by
 have:=aW (P:=P) (ρ:=ρ) (d:=d) (ty:=ty) (pos:=pos) (af:=af) (g:=g) (parts:=#[(0,x),(4,y)]) S [(0,.int .i64 k),(4,.int .i64 w)] (by simp [hx,hy]) (fun i u hm=>by
  simp only [List.mem_cons,Prod.mk.injEq,List.not_mem_nil,or_false] at hm
  rcases hm with ⟨rfl,rfl⟩|⟨rfl,rfl⟩
  ·exact ⟨_,rfl,rfl⟩
  ·exact ⟨_,rfl,rfl⟩) (D:=A6 k 0 aM 0 ByteArray.empty aN w) (by
   show [Value.int .i64 k]++([Value.int .i64 0]++([Value.slice none 0 0,.int .i64 0,.string ByteArray.empty]++(xT.flatten++([Value.int .i64 w]++[]))))=_
   rw [← iQ];rfl)
 exact this
end
theorem oX {w:World} {v:Value} {l:List cw} (h:eg w v l) (k:Nat) (hk:k≤l.length):eg w (cX v 34 k) (l.drop k):=by
 have:=h.drop k hk
 unfold bB at this
 rw [jR _ 34 (fun x=>by rw [Array.length_toList,aK])] at this
 rw [← List.length_drop] at this
 exact this
theorem AD (l:List cw) (j:Nat) (hj:j<l.length):(((bB l).drop (j*34)).take 34).toArray=bc (l.getD j (0,0#256,0)):=by
 rw [G2 l j hj,List.getD_eq_getElem?_getD,List.getElem?_eq_getElem hj];rfl
theorem DW (e:cw):([Value.agg (bc e)].flatMap fun v=>v.cells.toList)=(bc e).toList:=by simp [Value.cells]
theorem Ef (e:cw):∀ v∈([.agg (bc e)]:List Value),v.cells.size=34:=fun v hv=>by
 rw [List.mem_singleton] at hv;subst hv;exact aK e
theorem eN (w:World):eg w aM []:=⟨rfl,.inl ⟨rfl,rfl⟩⟩
theorem x0 {w:World} {K:List O2} {x:Ot} {u:Value} (h:ny K w) (hu:eg w u x.p.1):ny (K++[(x,u)]) w:=fun y hy=>by
 rcases List.mem_append.1 hy with hy|hy
 ·exact h y hy
 ·rw [List.mem_singleton.1 hy];exact hu
theorem wA (w:World):ny [] w:=fun _ h=>by cases h
theorem vg {w:World} {x:Ot} {u:Value} (hu:eg w u x.p.1):ny [(x,u)] w:=fun y hy=>by rw [List.mem_singleton.1 hy];exact hu
theorem xO (K:List O2) (x:O2):eL (K++[x])=eL K++[x.1]:=by unfold eL;rw [List.map_append];rfl
theorem gG (K:List O2):(eL K).length=K.length:=List.length_map ..
theorem lI {t:List Tg} {p:Pk} (h:decide ((bo p).1=2)=true):cO t p=[iR p]:=by unfold cO;rw [h];rfl
theorem lE {t:List Tg} {p:Pk} (h:decide ((bo p).1=2)=false) (h1:decide (p.2.1=0)=true):cO t p=[fw 9]:=by unfold cO;rw [h,h1];rfl
theorem nK {t:List Tg} {p:Pk} (h:decide ((bo p).1=2)=false) (h1:decide (p.2.1=0)=false) (h2:decide ((ju t (bo p).2.1).length=0)=false):cO t p=(ju t (bo p).2.1).map (iu p):=by unfold cO;rw [h,h1,h2];rfl
theorem jC {t:List Tg} {p:Pk} (h:decide ((bo p).1=2)=false) (h1:decide (p.2.1=0)=false) (h2:decide ((ju t (bo p).2.1).length=0)=true) (h3:decide (1<p.1.length)=true):cO t p=[yE p aN []]:=by unfold cO;rw [h,h1,h2,h3];rfl
theorem lG {t:List Tg} {p:Pk} (h:decide ((bo p).1=2)=false) (h1:decide (p.2.1=0)=false) (h2:decide ((ju t (bo p).2.1).length=0)=true) (h3:decide (1<p.1.length)=false):cO t p=[fw 6]:=by unfold cO;rw [h,h1,h2,h3];rfl
theorem yK {K:List O2} {p:Pk} {M:List Tg} {k:Nat} {u:Value} (hk:k<M.length) (h:eL K=(M.take k).map (iu p)):eL (K++[(iu p (M.getD k aN),u)])=(M.take (k+1)).map (iu p):=by
 rw [xO,h,gP hk,List.map_append];rfl
def KJ (w:World) (N:TypeId) (vs:Value) (p:Pk) (R:List Ot):bY:=fun v w'=>∃ K ks,eL K=R∧St w [.sl v N 73 K.length (ct K),.grp ks fun w9=>eg w9 vs p.1→ny K w9] w'
theorem pf (K:List O2) (x:O2):ct K++([Value.agg (co x.1.k x.1.h x.2 x.1.p.2.1 x.1.p.2.2 x.1.t x.1.y)].flatMap fun v=>v.cells.toList)=ct (K++[x]):=by rw [E7,C0]
theorem Fm (K:List O2) (x:O2):K.length+1=(K++[x]).length:=by rw [List.length_append];rfl
theorem ny.keep {w w':World} {K:List O2} (h:ny K w) (e:Ext w w'):ny K w':=fun x hx=>(h x hx).keep e
theorem xS.keep {w w':World} {v:Value} {K:List O2} (h:xS w v K) (e:Ext w w'):xS w' v K:=⟨h.1.keep e,h.2.keep e⟩
theorem Br {K:List O2} {j:Nat} (hj:j<K.length):(eL K)[j]? = some (K.getD j bw).1:=by
 unfold eL
 rw [List.getElem?_map,List.getElem?_eq_getElem hj,Jx hj];rfl
theorem KI:bp []=true:=by decide
theorem zA {t:List Tg} {p:Pk} (h:dT p=true) (h2:bp t=true):Fz t p=0∧Gr t p=cO t p:=by unfold Fz Gr;rw [h,h2];exact ⟨rfl,rfl⟩
theorem wx {p:Pk} (t:List Tg) (h:dT p=false):Fz t p=1∧Gr t p=[]:=by unfold Fz Gr;rw [h];exact ⟨rfl,rfl⟩
theorem uE {t:List Tg} (p:Pk) (h:bp t=false):Fz t p=1∧Gr t p=[]:=by unfold Fz Gr;rw [h,Bool.and_false];exact ⟨rfl,rfl⟩
def G1 (w:World) (vs:Value) (p:Pk) (E:Int) (R:List Ot):bY:=fun v w'=>∃ u K ks,v=.tuple #[u,.int .i64 E]∧eL K=R∧St w [.grp ks fun w9=>eg w9 vs p.1→xS w9 u K] w'
theorem An {t:List Tg} {p:Pk}:1≤(cO t p).length∧(cO t p).length≤max t.length 1:=by
 unfold cO
 cases h1:decide ((bo p).1=2)
 ·cases h2:decide (p.2.1=0)
  ·cases h3:decide ((ju t (bo p).2.1).length=0)
   ·have:=of_decide_eq_false h3
    have:=AC t (bo p).2.1
    show 1≤((ju t (bo p).2.1).map (iu p)).length∧((ju t (bo p).2.1).map (iu p)).length≤_
    rw [List.length_map];omega
   ·cases h4:decide (1<p.1.length)
    ·exact ⟨Nat.le_refl _,Nat.le_max_right _ _⟩
    ·exact ⟨Nat.le_refl _,Nat.le_max_right _ _⟩
  ·exact ⟨Nat.le_refl _,Nat.le_max_right _ _⟩
 ·exact ⟨Nat.le_refl _,Nat.le_max_right _ _⟩
abbrev Jy:cw:=(0,0#256,0)
theorem wl {l:List Tg} {x:Id} {y:Tg} (h:y∈ju l x):y∈l:=by
 rcases qd l x with ⟨h1,_⟩|⟨n,_,_,h1,_,_⟩
 ·rw [h1] at h;cases h
 ·rw [h1] at h;exact(pi h).1
theorem rH {t:List Tg} {p:Pk} {x:Ot} (hx:x∈cO t p):
 ((bo p).1=2∧cO t p=[iR p]∧x=iR p)∨((bo p).1≠2∧p.2.1=0∧cO t p=[fw 9]∧x=fw 9) ∨
 ((bo p).1≠2∧p.2.1≠0∧cO t p=(ju t (bo p).2.1).map (iu p)∧∃ y∈ju t (bo p).2.1,x=iu p y) ∨
 ((bo p).1≠2∧p.2.1≠0∧ju t (bo p).2.1=[]∧1<p.1.length∧cO t p=[yE p aN []]∧x=yE p aN []) ∨
 ((bo p).1≠2∧p.2.1≠0∧ju t (bo p).2.1=[]∧¬ 1<p.1.length∧cO t p=[fw 6]∧x=fw 6):=by
 cases h0:decide ((bo p).1=2) with
 |true=>
  have e:=lI (t:=t) h0
  rw [e] at hx
  exact .inl ⟨of_decide_eq_true h0,e,List.mem_singleton.1 hx⟩
 |false=>
  have n0:=of_decide_eq_false h0
  cases h1:decide (p.2.1=0) with
  |true=>
   have e:=lE (t:=t) h0 h1
   rw [e] at hx
   exact .inr (.inl ⟨n0,of_decide_eq_true h1,e,List.mem_singleton.1 hx⟩)
  |false=>
   have n1:=of_decide_eq_false h1
   cases h2:decide ((ju t (bo p).2.1).length=0) with
   |false=>
    have e:=nK h0 h1 h2
    rw [e] at hx
    obtain ⟨y,hy,rfl⟩:=List.mem_map.1 hx
    exact .inr (.inr (.inl ⟨n0,n1,e,y,hy,rfl⟩))
   |true=>
    have z:=List.length_eq_zero_iff.1 (of_decide_eq_true h2)
    cases h3:decide (1<p.1.length) with
    |true=>
     have e:=jC h0 h1 h2 h3
     rw [e] at hx
     exact .inr (.inr (.inr (.inl ⟨n0,n1,z,of_decide_eq_true h3,e,List.mem_singleton.1 hx⟩)))
    |false=>
     have e:=lG h0 h1 h2 h3
     rw [e] at hx
     exact .inr (.inr (.inr (.inr ⟨n0,n1,z,of_decide_eq_false h3,e,List.mem_singleton.1 hx⟩)))
def Kr (p:Pk) (x:Ot):Prop:=dT x.p=true∧x.p.2.2=p.2.2∧x.p.2.1=p.2.1 - 1∧x.p.1.length≤p.1.length∧p.1.length - 1≤x.p.1.length∧∀ i,i+1<x.p.1.length→x.p.1.getD (x.p.1.length - 1 - i) Jy=p.1.getD (p.1.length - 1 - i) Jy
theorem Ej {p:Pk} (hr:dT p=true) (h0:p.2.1≠0) (b:Tg) (fr:List cw) (hf:fr.length≤1) (he:∀ e∈fr,eR e=true) (hl:1≤fr.length+(p.1.length - 1)):Kr p (yE p b fr):=by
 obtain ⟨⟨h1,h2,h3⟩,h4,h5,h6⟩:=dO.1 hr
 have ll:(fr++p.1.drop 1).length=fr.length+(p.1.length - 1):=by rw [List.length_append,List.length_drop]
 refine ⟨?_,rfl,rfl,?_,?_,fun i hi=>?_⟩
 ·rw [dO]
  refine ⟨⟨?_,?_,fun e h=>?_⟩,?_,?_,h6⟩
  ·show 0<(fr++p.1.drop 1).length;omega
  ·show (fr++p.1.drop 1).length≤4;omega
  ·have h:e∈fr++p.1.drop 1:=h
   rcases List.mem_append.1 h with h|h
   ·exact he e h
   ·exact h3 e (List.mem_of_mem_drop h)
  ·show 0≤p.2.1 - 1;omega
  ·show p.2.1 - 1≤64;omega
 ·show (fr++p.1.drop 1).length≤_;omega
 ·show _≤(fr++p.1.drop 1).length;omega
 ·have hi:i+1<(fr++p.1.drop 1).length:=hi
  show (fr++p.1.drop 1).getD ((fr++p.1.drop 1).length - 1 - i) Jy=_
  rw [List.getD_eq_getElem?_getD,List.getD_eq_getElem?_getD,List.getElem?_append_right (by omega),List.getElem?_drop,ll]
  congr 2;omega
theorem Cp {t:List Tg} {p:Pk} {x:Ot} (hr:dT p=true) (ht:bp t=true) (hx:x∈cO t p) (h:x.k=2):Kr p x:=by
 obtain ⟨⟨h1,_,_⟩,_⟩:=dO.1 hr
 rcases rH hx with ⟨_,_,rfl⟩|⟨_,_,_,rfl⟩|⟨_,n1,_,y,hy,rfl⟩|⟨_,n1,_,hl,_,rfl⟩|⟨_,_,_,_,_,rfl⟩
 ·exact absurd (show (1:Int)=2 from h) (by decide)
 ·exact absurd (show (3:Int)=2 from h) (by decide)
 ·refine Ej hr n1 y [y.2.1] (Nat.le_refl _) (fun e he=>?_) (by show 1≤1+_;omega)
  rw [List.mem_singleton.1 he]
  exact(fv.1 ((dK.1 ht).may y (wl hy))).1
 ·exact Ej hr n1 aN [] (Nat.zero_le _) (fun e he=>by cases he) (by show 1≤0+_;omega)
 ·exact absurd (show (3:Int)=2 from h) (by decide)
def Jg:Option Value→Value
 |some (.slice a n c)=>.slice a n c
 |_=>.slice none 0 0
def ka:Value→Value
 |.agg a=>Jg (a[0]?)
 |_=>.slice none 0 0
theorem yu (o:Option Value):∃ a n c,Jg o=.slice a n c:=by
 unfold Jg
 split
 ·exact ⟨_,_,_,rfl⟩
 ·exact ⟨_,_,_,rfl⟩
theorem Ai (v:Value):∃ a n c,ka v=.slice a n c:=by
 unfold ka
 split
 ·exact yu _
 ·exact ⟨_,_,_,rfl⟩
theorem w6 (v:Value):(ka v).cells.toList=[ka v]:=by obtain ⟨a,n,c,h⟩:=Ai v;rw [h];rfl
theorem zH {w:World} {v:Value} {sz n:Nat} {xs:List Value} (h:bK w v sz n xs) (k:Int) (d:ByteArray):ka (.agg (bP v k d))=v:=by
 obtain ⟨a,c,rfl⟩:=h.len
 rfl
theorem y7 {p:Pk} (h:1≤p.1.length):[bo p]++p.1.drop 1=p.1:=by
 obtain ⟨l,n,d⟩:=p
 match l,h with
 |e::l,_=>rfl
theorem BA {p:Pk} (h:1≤p.1.length):bo p∈p.1:=by
 obtain ⟨l,n,d⟩:=p
 match l,h with
 |e::l,_=>exact List.mem_cons_self
theorem FW {l:List cw} (h:∀ e∈l,eR e=true):l.all eR=true:=List.all_eq_true.2 h
theorem qw {l:List cw} (h:l.all eR=true) (k:Nat):(l.drop k).all eR=true:=List.all_eq_true.2 fun e he=>List.all_eq_true.1 h e (List.mem_of_mem_drop he)
theorem uM {e:cw} (h:eR e=true):([e]:List cw).all eR=true:=by rw [List.all_cons,h];rfl
theorem C7 {t:List Tg} (h:bp t=true) {x:Id}:∀ y∈ju t x,eR y.2.1=true:=fun y hy=>(fv.1 ((dK.1 h).may y (wl hy))).1
theorem Gb {M:List Tg} (h:∀ y∈M,eR y.2.1=true) {k:Nat} (hk:k<M.length):eR (M.getD k aN).2.1=true:=h _ (fC hk)
theorem CF {t:List Tg} (h:bp t=true) {x:Id} (he:Cj t x=0):decide ((ju t x).length=0)=false:=by
 rw [(Cy h x).1] at he
 cases g:decide ((ju t x).length=0) with
 |false=>rfl
 |true=>rw [g] at he;exact absurd he (by decide)
theorem B2 {t:List Tg} (h:bp t=true) {x:Id} (he:¬ Cj t x=0):decide ((ju t x).length=0)=true:=by
 rw [(Cy h x).1] at he
 cases g:decide ((ju t x).length=0) with
 |true=>rfl
 |false=>rw [g] at he;exact absurd rfl he
theorem vz {w w':World} {vs:Value} {p:Pk} {E:Int} {R:List Ot} (hE:E=1) (hR:R=[]) (s:St w [] w'):G1 w vs p E R (.tuple #[.slice none 0 0,.int .i64 1]) w':=by
 subst hE;subst hR
 exact ⟨_,[],[],rfl,rfl,s.grp0 (S:=fun w9=>eg w9 vs p.1→xS w9 aM []) (fun w9 _=>⟨⟨rfl,.inl ⟨rfl,rfl⟩⟩,wA w9⟩)⟩
theorem py {w w':World} {v vs:Value} {p:Pk} {N:TypeId} {E:Int} {R:List Ot} {K:List O2} {ks:List Nat} (hE:E=0) (hR:eL K=R) (s:St w [.sl v N 73 K.length (ct K),.grp ks fun w9=>eg w9 vs p.1→ny K w9] w'):G1 w vs p E R (.tuple #[v,.int .i64 0]) w':=by
 subst hE
 obtain ⟨kn,s⟩:=s.grp1 (S':=fun w9=>eg w9 vs p.1→xS w9 v K) (fun w9 h1 h2 h3=>⟨h1,h2 h3⟩)
 exact ⟨v,K,kn,rfl,hR,s⟩
theorem sk {w w':World} {v vs:Value} {p:Pk} {N:TypeId} {E y:Int} {R:List Ot} (hE:E=0) (hR:R=[fw y]) (s:St w [.sl v N 73 1 (ct [(fw y,aM)])] w'):G1 w vs p E R (.tuple #[v,.int .i64 0]) w':=
 py (K:=[(fw y,aM)]) (ks:=[]) hE hR.symm ((s.grp0 (S:=fun w9=>eg w9 vs p.1→ny [(fw y,aM)] w9) (fun w9 _=>vg (eN w9))).perm (List.Perm.swap ..))
theorem um {w w':World} {v u vs:Value} {p:Pk} {N M:TypeId} {E:Int} {R:List Ot} {x:Ot} {L:List cw} (hE:E=0) (hR:R=[x]) (hL:x.p.1=L) (s:St w [.sl v N 73 1 (ct [(x,u)]),.sl u M 34 L.length (bB L)] w'):G1 w vs p E R (.tuple #[v,.int .i64 0]) w':=by
 subst hL
 have s0:=(s.perm (List.Perm.swap ..)).grp0 (S:=fun _=>True) (fun _=>trivial)
 obtain ⟨kn,s1⟩:=(s0.perm (List.Perm.swap ..)).grp1 (S':=fun w9=>eg w9 vs p.1→ny [(x,u)] w9) (fun w9 h _ _=>vg h)
 exact py (K:=[(x,u)]) hE hR.symm (s1.perm (List.Perm.swap ..))
end Go.Proofs.YtobfeflheaobiaaGreatDoor
namespace Go.Proofs.YtobfeflheaobiaaGreatDoor
open Go.RowKit Go.ChangeShapes Go.WideShapes Go.ChangeAt
end Go.Proofs.YtobfeflheaobiaaGreatDoor
