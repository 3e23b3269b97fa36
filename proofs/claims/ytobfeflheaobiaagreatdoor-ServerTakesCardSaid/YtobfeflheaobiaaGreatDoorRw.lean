/- Packets and what becomes of them: which may be, which are the same, what goes on and by which triggers, of other data and more hops; packets that come in; no Go in it. -/
import Derived.Test.YtobfeflheaobiaaGreatDoorTb
set_option linter.unusedVariables false
set_option linter.unusedSimpArgs false
set_option linter.unusedSectionVars false
namespace Go.Proofs.YtobfeflheaobiaaGreatDoor
open Go.RowKit
abbrev Pk:=List cU × Int × ByteArray
abbrev dM (w:World) (v:Value) (l:List cU):Prop:=bI w v 34 l.length (br l)
def La (v:Value) (h:Int) (d:ByteArray):List Value:=[v,.int .i64 h,.string d]
def bO (v:Value) (h:Int) (d:ByteArray):Array Value:=(La v h d).toArray
theorem cf (v:Value) (h:Int) (d:ByteArray):(bO v h d).size=3:=rfl
theorem kR {v:Value} (h:Int) (d:ByteArray) (hv:v.oneCell'=true):∀ u∈(bO v h d).toList,u.oneCell'=true:=fun u hu=>by
 have hu:u∈La v h d:=hu
 unfold La at hu
 simp only [List.mem_cons,List.not_mem_nil,or_false] at hu
 rcases hu with rfl|rfl|rfl
 ·exact hv
 ·rfl
 ·rfl
structure Ot where
 k:Int
 h:Int
 p:Pk
 t:Tg
 y:Int
deriving DecidableEq
abbrev O2:=Ot × Value
def Pn:Ot:=⟨0,0,([],0,ByteArray.empty),aW,0⟩
def aX:O2:=(Pn,aI)
def EV (k h:Int) (v:Value) (n:Int) (d:ByteArray) (t:Tg) (y:Int):List Value:=.int .i64 k::.int .i64 h::(La v n d++(lH t++[.int .i64 y]))
def cu (k h:Int) (v:Value) (n:Int) (d:ByteArray) (t:Tg) (y:Int):Array Value:=(EV k h v n d t y).toArray
theorem yq (k h:Int) (v:Value) (n:Int) (d:ByteArray) (t:Tg) (y:Int):(EV k h v n d t y).length=73:=by simp [EV,La,fQ]
theorem dH (k h:Int) (v:Value) (n:Int) (d:ByteArray) (t:Tg) (y:Int):(cu k h v n d t y).size=73:=by simp [cu,yq]
theorem eE {v:Value} (k h n:Int) (d:ByteArray) (t:Tg) (y:Int) (hv:v.oneCell'=true):∀ u∈(cu k h v n d t y).toList,u.oneCell'=true:=fun u hu=>by
 have hu:u∈EV k h v n d t y:=hu
 unfold EV at hu
 rcases List.mem_cons.1 hu with rfl|hu
 ·rfl
 ·rcases List.mem_cons.1 hu with rfl|hu
  ·rfl
  ·rcases List.mem_append.1 hu with hu|hu
   ·exact kR n d hv u hu
   ·rcases List.mem_append.1 hu with hu|hu
    ·exact nB t u hu
    ·rw [List.mem_singleton.1 hu];rfl
section
variable (k h:Int) (v:Value) (n:Int) (d:ByteArray) (t:Tg) (y:Int)
theorem oc:(cu k h v n d t y)[0]? = some (.int .i64 k):=rfl
theorem Ls:(cu k h v n d t y)[1]? = some (.int .i64 h):=rfl
theorem z4:(cu k h v n d t y)[2]? = some v:=rfl
theorem Cw:(cu k h v n d t y).extract 2 (2+3)=bO v n d:=je _ _ _ _ rfl
theorem Jc:(cu k h v n d t y).extract 5 (5+67)=aB t:=je _ _ _ _ (by
 show (lH t++[Value.int .i64 y]).take 67=lH t
 rw [List.take_left' (fQ t)])
theorem MJ:(cu k h v n d t y)[72]? = some (.int .i64 y):=by
 unfold cu
 rw [List.getElem?_toArray]
 show (lH t++[Value.int .i64 y])[67]? = _
 rw [List.getElem?_append_right (by rw [fQ];exact Nat.le_refl _),fQ];rfl
theorem rK:(bO v n d)[0]? = some v:=rfl
theorem rJ:(bO v n d)[1]? = some (.int .i64 n):=rfl
theorem A9:(bO v n d)[2]? = some (.string d):=rfl
end
def O7:List (List Value):=[[.slice none 0 0],[.int .i64 0],[.string ByteArray.empty]]
def MK:List (List Value):=[[.int .i64 0],[.int .i64 0],[.slice none 0 0,.int .i64 0,.string ByteArray.empty],Bk.flatten,[.int .i64 0]]
theorem lu:lH aW=Bk.flatten:=by
 have:=congrArg Array.toList tZ
 exact this
theorem FV:cu 0 0 aI 0 ByteArray.empty aW 0=MK.flatten.toArray:=by
 unfold cu EV
 rw [lu];rfl
def MC (x:O2):List Value:=EV x.1.k x.1.h x.2 x.1.p.2.1 x.1.p.2.2 x.1.t x.1.y
theorem Fv (x:O2):(MC x).length=73:=yq ..
def cb (l:List O2):List Value:=l.flatMap MC
theorem vY (l r:List O2):cb (l++r)=cb l++cb r:=List.flatMap_append
theorem Oi {l:List O2} {j:Nat} (hj:j<l.length):l[j]=l.getD j aX:=by
 rw [List.getD_eq_getElem?_getD,List.getElem?_eq_getElem hj];rfl
theorem Ia (l:List O2) (j:Nat) (hj:j<l.length):(((cb l).drop (j*73)).take 73).toArray=cu (l.getD j aX).1.k (l.getD j aX).1.h (l.getD j aX).2 (l.getD j aX).1.p.2.1 (l.getD j aX).1.p.2.2 (l.getD j aX).1.t (l.getD j aX).1.y:=by
 unfold cb
 rw [lS _ 73 Fv l j hj,Oi hj];rfl
theorem cO {l:List O2} {j:Nat} (hj:j<l.length):l.getD j aX∈l:=by rw [← Oi hj];exact List.getElem_mem hj
theorem Ju (x:O2):([Value.agg (cu x.1.k x.1.h x.2 x.1.p.2.1 x.1.p.2.2 x.1.t x.1.y)].flatMap fun v=>v.cells.toList)=MC x:=by simp [Value.cells,cu,MC]
theorem FJ (l:List O2) (x:O2):cb l++MC x=cb (l++[x]):=by rw [vY];simp [cb]
theorem n4 (x:O2):∀ v∈([.agg (cu x.1.k x.1.h x.2 x.1.p.2.1 x.1.p.2.2 x.1.t x.1.y)]:List Value),v.cells.size=73:=fun v hv=>by
 rw [List.mem_singleton] at hv;subst hv;exact dH ..
def kM (K:List O2) (w:World):Prop:=∀ x∈K,dM w x.2 x.1.p.1
def Bi (w:World) (v:Value) (K:List O2):Prop:=bI w v 73 K.length (cb K)∧kM K w
def eN (K:List O2):List Ot:=K.map (·.1)
def eK (p:Pk):Bool:=gi p.1 && (decide (0≤p.2.1) && (decide (p.2.1≤64) && decide (p.2.2.size≤64)))
def sJ (p:Pk) (b:Tg) (f:List cU):Ot:=⟨2,0,(f++p.1.drop 1,p.2.1 - 1,p.2.2),b,0⟩
def bk (p:Pk):cU:=p.1.getD 0 (0,0#256,0)
def gu (p:Pk):Ot:=⟨1,(bk p).2.2,p,aW,0⟩
def dU (y:Int):Ot:=⟨3,0,([],0,ByteArray.empty),aW,y⟩
def io (p:Pk) (x:Tg):Ot:=sJ p x [x.2.1]
noncomputable def cL (t:List Tg) (p:Pk):List Ot:=
 bif decide ((bk p).1=2) then [gu p] else bif decide (p.2.1=0) then [dU 9] else
  bif decide ((jU t (bk p).2.1).length=0) then (bif decide (1<p.1.length) then [sJ p aW []] else [dU 6]) else (jU t (bk p).2.1).map (io p)
def Jk (t:List Tg) (p:Pk):Int:=bif eK p && ce t then 0 else 1
noncomputable def KM (t:List Tg) (p:Pk):List Ot:=bif eK p && ce t then cL t p else []
theorem dI {p:Pk}:eK p=true↔(0<p.1.length∧p.1.length≤4∧∀ e∈p.1,fK e=true)∧0≤p.2.1∧p.2.1≤64∧p.2.2.size≤64:=by
 unfold eK
 rw [Bool.and_eq_true,Bool.and_eq_true,Bool.and_eq_true,kx,decide_eq_true_eq,decide_eq_true_eq,decide_eq_true_eq]
section
variable {P:Program} {ρ:Operand→Value} {d:Option Tmp} {ty:TypeId} {pos:String} {af:Array Edge} {g:Option (Nat × Bool)} {x y z:Operand} {t:TypeId}
theorem iD {v:Value} {n:Int} {s:ByteArray} (S:Stt P t O7) (hv:v.cells.size=1) (hc:v.cells.toList=[v]) (hx:ρ x=v) (hy:ρ y=.int .i64 n) (hz:ρ z=.string s):aM P ⟨d,.build t #[(0,x),(1,y),(2,z)],ty,pos,af,g⟩ ρ (.agg (bO v n s)):=by
 have:=bb (P:=P) (ρ:=ρ) (d:=d) (ty:=ty) (pos:=pos) (af:=af) (g:=g) (parts:=#[(0,x),(1,y),(2,z)]) S [(0,v),(1,.int .i64 n),(2,.string s)] (by simp [hx,hy,hz]) (fun i u hm=>by
  simp only [List.mem_cons,Prod.mk.injEq,List.not_mem_nil,or_false] at hm
  rcases hm with ⟨rfl,rfl⟩|⟨rfl,rfl⟩|⟨rfl,rfl⟩
  ·exact ⟨_,rfl,hv⟩
  ·exact ⟨_,rfl,rfl⟩
  ·exact ⟨_,rfl,rfl⟩) (D:=La v n s) (by
   show v.cells.toList++([Value.int .i64 n]++([Value.string s]++[]))=_
   rw [hc];rfl)
 exact this
theorem lT {k:Int} {v:Value} {n:Int} {s:ByteArray} {b:Tg} (S:Stt P t MK) (_hc:v.cells.toList=[v]) (hx:ρ x=.int .i64 k) (hy:ρ y=.agg (bO v n s)) (hz:ρ z=.agg (aB b)):aM P ⟨d,.build t #[(0,x),(2,y),(3,z)],ty,pos,af,g⟩ ρ (.agg (cu k 0 v n s b 0)):=by
 have:=bb (P:=P) (ρ:=ρ) (d:=d) (ty:=ty) (pos:=pos) (af:=af) (g:=g) (parts:=#[(0,x),(2,y),(3,z)]) S [(0,.int .i64 k),(2,.agg (bO v n s)),(3,.agg (aB b))] (by simp [hx,hy,hz]) (fun i u hm=>by
  simp only [List.mem_cons,Prod.mk.injEq,List.not_mem_nil,or_false] at hm
  rcases hm with ⟨rfl,rfl⟩|⟨rfl,rfl⟩|⟨rfl,rfl⟩
  ·exact ⟨_,rfl,rfl⟩
  ·exact ⟨_,rfl,rfl⟩
  ·exact ⟨_,rfl,by show (aB b).size=_;rw [ao,← lu,fQ]⟩) (D:=EV k 0 v n s b 0) (by
   show [Value.int .i64 k]++([Value.int .i64 0]++((bO v n s).toList++((aB b).toList++([Value.int .i64 0]++[]))))=_
   rfl)
 exact this
theorem jJ {k h:Int} {v:Value} {n:Int} {s:ByteArray} (S:Stt P t MK) (hx:ρ x=.int .i64 k) (hy:ρ y=.int .i64 h) (hz:ρ z=.agg (bO v n s)):aM P ⟨d,.build t #[(0,x),(1,y),(2,z)],ty,pos,af,g⟩ ρ (.agg (cu k h v n s aW 0)):=by
 have:=bb (P:=P) (ρ:=ρ) (d:=d) (ty:=ty) (pos:=pos) (af:=af) (g:=g) (parts:=#[(0,x),(1,y),(2,z)]) S [(0,.int .i64 k),(1,.int .i64 h),(2,.agg (bO v n s))] (by simp [hx,hy,hz]) (fun i u hm=>by
  simp only [List.mem_cons,Prod.mk.injEq,List.not_mem_nil,or_false] at hm
  rcases hm with ⟨rfl,rfl⟩|⟨rfl,rfl⟩|⟨rfl,rfl⟩
  ·exact ⟨_,rfl,rfl⟩
  ·exact ⟨_,rfl,rfl⟩
  ·exact ⟨_,rfl,rfl⟩) (D:=EV k h v n s aW 0) (by
   show [Value.int .i64 k]++([Value.int .i64 h]++((bO v n s).toList++(Bk.flatten++([Value.int .i64 0]++[]))))=_
   rw [← lu];rfl)
 exact this
theorem gX {k w:Int} (S:Stt P t MK) (hx:ρ x=.int .i64 k) (hy:ρ y=.int .i64 w):aM P ⟨d,.build t #[(0,x),(4,y)],ty,pos,af,g⟩ ρ (.agg (cu k 0 aI 0 ByteArray.empty aW w)):=by
 have:=bb (P:=P) (ρ:=ρ) (d:=d) (ty:=ty) (pos:=pos) (af:=af) (g:=g) (parts:=#[(0,x),(4,y)]) S [(0,.int .i64 k),(4,.int .i64 w)] (by simp [hx,hy]) (fun i u hm=>by
  simp only [List.mem_cons,Prod.mk.injEq,List.not_mem_nil,or_false] at hm
  rcases hm with ⟨rfl,rfl⟩|⟨rfl,rfl⟩
  ·exact ⟨_,rfl,rfl⟩
  ·exact ⟨_,rfl,rfl⟩) (D:=EV k 0 aI 0 ByteArray.empty aW w) (by
   show [Value.int .i64 k]++([Value.int .i64 0]++([Value.slice none 0 0,.int .i64 0,.string ByteArray.empty]++(Bk.flatten++([Value.int .i64 w]++[]))))=_
   rw [← lu];rfl)
 exact this
end
theorem oh {w:World} {v:Value} {l:List cU} (h:dM w v l) (k:Nat) (hk:k≤l.length):dM w (eg v 34 k) (l.drop k):=by
 have:=h.drop k hk
 unfold br at this
 rw [mU _ 34 (fun x=>by rw [Array.length_toList,aC])] at this
 rw [← List.length_drop] at this
 exact this
theorem pX (l:List cU) (j:Nat) (hj:j<l.length):(((br l).drop (j*34)).take 34).toArray=bg (l.getD j (0,0#256,0)):=by
 rw [CZ l j hj,List.getD_eq_getElem?_getD,List.getElem?_eq_getElem hj];rfl
theorem De (e:cU):([Value.agg (bg e)].flatMap fun v=>v.cells.toList)=(bg e).toList:=by simp [Value.cells]
theorem Ey (e:cU):∀ v∈([.agg (bg e)]:List Value),v.cells.size=34:=fun v hv=>by
 rw [List.mem_singleton] at hv;subst hv;exact aC e
theorem fk (w:World):dM w aI []:=⟨rfl,.inl ⟨rfl,rfl⟩⟩
theorem ni {w:World} {K:List O2} {x:Ot} {u:Value} (h:kM K w) (hu:dM w u x.p.1):kM (K++[(x,u)]) w:=fun y hy=>by
 rcases List.mem_append.1 hy with hy|hy
 ·exact h y hy
 ·rw [List.mem_singleton.1 hy];exact hu
theorem tC (w:World):kM [] w:=fun _ h=>by cases h
theorem pz {w:World} {x:Ot} {u:Value} (hu:dM w u x.p.1):kM [(x,u)] w:=fun y hy=>by rw [List.mem_singleton.1 hy];exact hu
theorem Bb (K:List O2) (x:O2):eN (K++[x])=eN K++[x.1]:=by unfold eN;rw [List.map_append];rfl
theorem fi (K:List O2):(eN K).length=K.length:=List.length_map ..
theorem jI {t:List Tg} {p:Pk} (h:decide ((bk p).1=2)=true):cL t p=[gu p]:=by unfold cL;rw [h];rfl
theorem mv {t:List Tg} {p:Pk} (h:decide ((bk p).1=2)=false) (h1:decide (p.2.1=0)=true):cL t p=[dU 9]:=by unfold cL;rw [h,h1];rfl
theorem ng {t:List Tg} {p:Pk} (h:decide ((bk p).1=2)=false) (h1:decide (p.2.1=0)=false) (h2:decide ((jU t (bk p).2.1).length=0)=false):cL t p=(jU t (bk p).2.1).map (io p):=by unfold cL;rw [h,h1,h2];rfl
theorem kH {t:List Tg} {p:Pk} (h:decide ((bk p).1=2)=false) (h1:decide (p.2.1=0)=false) (h2:decide ((jU t (bk p).2.1).length=0)=true) (h3:decide (1<p.1.length)=true):cL t p=[sJ p aW []]:=by unfold cL;rw [h,h1,h2,h3];rfl
theorem mg {t:List Tg} {p:Pk} (h:decide ((bk p).1=2)=false) (h1:decide (p.2.1=0)=false) (h2:decide ((jU t (bk p).2.1).length=0)=true) (h3:decide (1<p.1.length)=false):cL t p=[dU 6]:=by unfold cL;rw [h,h1,h2,h3];rfl
theorem vJ {K:List O2} {p:Pk} {M:List Tg} {k:Nat} {u:Value} (hk:k<M.length) (h:eN K=(M.take k).map (io p)):eN (K++[(io p (M.getD k aW),u)])=(M.take (k+1)).map (io p):=by
 rw [Bb,h,gB hk,List.map_append];rfl
def OV (w:World) (N:TypeId) (vs:Value) (p:Pk) (R:List Ot):cW:=fun v w'=>∃ K ks,eN K=R∧St w [.sl v N 73 K.length (cb K),.grp ks fun w9=>dM w9 vs p.1→kM K w9] w'
theorem yR {w w':World} {N:TypeId} {v vs:Value} {p:Pk} {K:List O2} {R:List Ot} (hK:eN K=R) (hu:∀ w9,dM w9 vs p.1→kM K w9) (s:St w [.sl v N 73 K.length (cb K)] w'):OV w N vs p R v w':=⟨K,[],hK,(s.grp0 hu).sel [1,0] rfl (by decide)⟩
theorem kG (K:List O2) (x:O2):cb K++([Value.agg (cu x.1.k x.1.h x.2 x.1.p.2.1 x.1.p.2.2 x.1.t x.1.y)].flatMap fun v=>v.cells.toList)=cb (K++[x]):=by rw [Ju,FJ]
theorem oI (K:List O2) (x:O2):K.length+1=(K++[x]).length:=by rw [List.length_append];rfl
theorem DN {K:List O2} (h0:K.length=0) (x:O2):eN (K++[x])=[x.1]:=by rw [List.length_eq_zero_iff.1 h0];rfl
theorem kM.keep {w w':World} {K:List O2} (h:kM K w) (e:Ext w w'):kM K w':=fun x hx=>(h x hx).keep e
theorem Bi.keep {w w':World} {v:Value} {K:List O2} (h:Bi w v K) (e:Ext w w'):Bi w' v K:=⟨h.1.keep e,h.2.keep e⟩
theorem GJ {K:List O2} {j:Nat} (hj:j<K.length):(eN K)[j]? = some (K.getD j aX).1:=by
 unfold eN
 rw [List.getElem?_map,List.getElem?_eq_getElem hj,Oi hj];rfl
theorem IL {w:World} {v:Value} {l:List cU} (h:dM w v l) (k:Nat) (hk:k≤l.length):dM w (dQ v k) (l.take k):=by
 have:=h.cut k hk
 unfold br at this
 rw [kA _ 34 (fun x=>by rw [Array.length_toList,aC])] at this
 unfold dM
 rw [List.length_take,Nat.min_eq_left hk]
 exact this
theorem PP:ce []=true:=by decide
theorem CE {t:List Tg} {p:Pk} (h:eK p=true) (h2:ce t=true):Jk t p=0∧KM t p=cL t p:=by unfold Jk KM;rw [h,h2];exact ⟨rfl,rfl⟩
theorem ze {p:Pk} (t:List Tg) (h:eK p=false):Jk t p=1∧KM t p=[]:=by unfold Jk KM;rw [h];exact ⟨rfl,rfl⟩
theorem zq {t:List Tg} (p:Pk) (h:ce t=false):Jk t p=1∧KM t p=[]:=by unfold Jk KM;rw [h,Bool.and_false];exact ⟨rfl,rfl⟩
def LB (w:World) (vs:Value) (p:Pk) (E:Int) (R:List Ot):cW:=fun v w'=>∃ u K ks,v=.tuple #[u,.int .i64 E]∧eN K=R∧St w [.grp ks fun w9=>dM w9 vs p.1→Bi w9 u K] w'
theorem qs {t:List Tg} {p:Pk}:1≤(cL t p).length∧(cL t p).length≤max t.length 1:=by
 unfold cL
 cases h1:decide ((bk p).1=2)
 ·cases h2:decide (p.2.1=0)
  ·cases h3:decide ((jU t (bk p).2.1).length=0)
   ·have:=of_decide_eq_false h3
    have:=wY t (bk p).2.1
    show 1≤((jU t (bk p).2.1).map (io p)).length∧((jU t (bk p).2.1).map (io p)).length≤_
    rw [List.length_map];omega
   ·cases h4:decide (1<p.1.length)
    ·exact ⟨Nat.le_refl _,Nat.le_max_right _ _⟩
    ·exact ⟨Nat.le_refl _,Nat.le_max_right _ _⟩
  ·exact ⟨Nat.le_refl _,Nat.le_max_right _ _⟩
 ·exact ⟨Nat.le_refl _,Nat.le_max_right _ _⟩
abbrev L5:cU:=(0,0#256,0)
theorem yD {l:List Tg} {x:Id} {y:Tg} (h:y∈jU l x):y∈l:=by
 rcases sU l x with ⟨h1,_⟩|⟨n,_,_,h1,_,_⟩
 ·rw [h1] at h;cases h
 ·rw [h1] at h;exact(t4 h).1
theorem qH {t:List Tg} {p:Pk} {x:Ot} (hx:x∈cL t p):
 ((bk p).1=2∧cL t p=[gu p]∧x=gu p)∨((bk p).1≠2∧p.2.1=0∧cL t p=[dU 9]∧x=dU 9) ∨
 ((bk p).1≠2∧p.2.1≠0∧cL t p=(jU t (bk p).2.1).map (io p)∧∃ y∈jU t (bk p).2.1,x=io p y) ∨
 ((bk p).1≠2∧p.2.1≠0∧jU t (bk p).2.1=[]∧1<p.1.length∧cL t p=[sJ p aW []]∧x=sJ p aW []) ∨
 ((bk p).1≠2∧p.2.1≠0∧jU t (bk p).2.1=[]∧¬ 1<p.1.length∧cL t p=[dU 6]∧x=dU 6):=by
 cases h0:decide ((bk p).1=2) with
 |true=>
  have e:=jI (t:=t) h0
  rw [e] at hx
  exact .inl ⟨of_decide_eq_true h0,e,List.mem_singleton.1 hx⟩
 |false=>
  have n0:=of_decide_eq_false h0
  cases h1:decide (p.2.1=0) with
  |true=>
   have e:=mv (t:=t) h0 h1
   rw [e] at hx
   exact .inr (.inl ⟨n0,of_decide_eq_true h1,e,List.mem_singleton.1 hx⟩)
  |false=>
   have n1:=of_decide_eq_false h1
   cases h2:decide ((jU t (bk p).2.1).length=0) with
   |false=>
    have e:=ng h0 h1 h2
    rw [e] at hx
    obtain ⟨y,hy,rfl⟩:=List.mem_map.1 hx
    exact .inr (.inr (.inl ⟨n0,n1,e,y,hy,rfl⟩))
   |true=>
    have z:=List.length_eq_zero_iff.1 (of_decide_eq_true h2)
    cases h3:decide (1<p.1.length) with
    |true=>
     have e:=kH h0 h1 h2 h3
     rw [e] at hx
     exact .inr (.inr (.inr (.inl ⟨n0,n1,z,of_decide_eq_true h3,e,List.mem_singleton.1 hx⟩)))
    |false=>
     have e:=mg h0 h1 h2 h3
     rw [e] at hx
     exact .inr (.inr (.inr (.inr ⟨n0,n1,z,of_decide_eq_false h3,e,List.mem_singleton.1 hx⟩)))
theorem EL {t:List Tg} {p:Pk} {x:Ot} (hx:x∈cL t p) (h:x.k≠2):(cL t p).length=1:=by
 rcases qH hx with ⟨_,e,_⟩|⟨_,_,e,_⟩|⟨_,_,e,y,_,rfl⟩|⟨_,_,_,_,_,rfl⟩|⟨_,_,_,_,e,_⟩
 ·rw [e];rfl
 ·rw [e];rfl
 ·exact absurd rfl h
 ·exact absurd rfl h
 ·rw [e];rfl
def O3 (p:Pk) (x:Ot):Prop:=eK x.p=true∧x.p.2.2=p.2.2∧x.p.2.1=p.2.1 - 1∧x.p.1.length≤p.1.length∧p.1.length - 1≤x.p.1.length∧∀ i,i+1<x.p.1.length→x.p.1.getD (x.p.1.length - 1 - i) L5=p.1.getD (p.1.length - 1 - i) L5
theorem Ig {p:Pk} (hr:eK p=true) (h0:p.2.1≠0) (b:Tg) (fr:List cU) (hf:fr.length≤1) (he:∀ e∈fr,fK e=true) (hl:1≤fr.length+(p.1.length - 1)):O3 p (sJ p b fr):=by
 obtain ⟨⟨h1,h2,h3⟩,h4,h5,h6⟩:=dI.1 hr
 have ll:(fr++p.1.drop 1).length=fr.length+(p.1.length - 1):=by rw [List.length_append,List.length_drop]
 refine ⟨?_,rfl,rfl,?_,?_,fun i hi=>?_⟩
 ·rw [dI]
  refine ⟨⟨?_,?_,fun e h=>?_⟩,?_,?_,h6⟩
  ·show 0<(fr++p.1.drop 1).length;omega
  ·show (fr++p.1.drop 1).length≤4;omega
  ·have h:e∈fr++p.1.drop 1:=h
   rcases List.mem_append.1 h with h|h
   ·exact he e h
   ·exact h3 e (List.mem_of_mem_drop h)
  ·show 0≤p.2.1 - 1;omega
  ·show p.2.1 - 1≤64;omega
 ·show (fr++p.1.drop 1).length≤_;omega
 ·show _≤(fr++p.1.drop 1).length;omega
 ·have hi:i+1<(fr++p.1.drop 1).length:=hi
  show (fr++p.1.drop 1).getD ((fr++p.1.drop 1).length - 1 - i) L5=_
  rw [List.getD_eq_getElem?_getD,List.getD_eq_getElem?_getD,List.getElem?_append_right (by omega),List.getElem?_drop,ll]
  congr 2;omega
theorem j6 {t:List Tg} {p:Pk} {x:Ot} (hr:eK p=true) (ht:ce t=true) (hx:x∈cL t p) (h:x.k=2):O3 p x:=by
 obtain ⟨⟨h1,_,_⟩,_⟩:=dI.1 hr
 rcases qH hx with ⟨_,_,rfl⟩|⟨_,_,_,rfl⟩|⟨_,n1,_,y,hy,rfl⟩|⟨_,n1,_,hl,_,rfl⟩|⟨_,_,_,_,_,rfl⟩
 ·exact absurd (show (1:Int)=2 from h) (by decide)
 ·exact absurd (show (3:Int)=2 from h) (by decide)
 ·refine Ig hr n1 y [y.2.1] (Nat.le_refl _) (fun e he=>?_) (by show 1≤1+_;omega)
  rw [List.mem_singleton.1 he]
  exact(ie.1 ((fa.1 ht).may y (yD hy))).1
 ·exact Ig hr n1 aW [] (Nat.zero_le _) (fun e he=>by cases he) (by show 1≤0+_;omega)
 ·exact absurd (show (3:Int)=2 from h) (by decide)
theorem mi {l:List cU} (h:0<l.length):(br l)[0*34+0]? = some (.int .i64 (l.getD 0 L5).1):=by
 match l,h with
 |e::l,_=>rfl
def Oe:Option Value→Value
 |some (.slice a n c)=>.slice a n c
 |_=>.slice none 0 0
def nY:Value→Value
 |.agg a=>Oe (a[0]?)
 |_=>.slice none 0 0
theorem Do (o:Option Value):∃ a n c,Oe o=.slice a n c:=by
 unfold Oe
 split
 ·exact ⟨_,_,_,rfl⟩
 ·exact ⟨_,_,_,rfl⟩
theorem Eo (v:Value):∃ a n c,nY v=.slice a n c:=by
 unfold nY
 split
 ·exact Do _
 ·exact ⟨_,_,_,rfl⟩
theorem A7 (v:Value):(nY v).cells.toList=[nY v]:=by obtain ⟨a,n,c,h⟩:=Eo v;rw [h];rfl
theorem CF {w:World} {v:Value} {sz n:Nat} {xs:List Value} (h:bI w v sz n xs) (k:Int) (d:ByteArray):nY (.agg (bO v k d))=v:=by
 obtain ⟨a,c,rfl⟩:=h.len
 rfl
theorem Es {p:Pk} (h:1≤p.1.length):[bk p]++p.1.drop 1=p.1:=by
 obtain ⟨l,n,d⟩:=p
 match l,h with
 |e::l,_=>rfl
theorem Hj {p:Pk} (h:1≤p.1.length):bk p∈p.1:=by
 obtain ⟨l,n,d⟩:=p
 match l,h with
 |e::l,_=>exact List.mem_cons_self
theorem Kd {l:List cU} (h:∀ e∈l,fK e=true):l.all fK=true:=List.all_eq_true.2 h
theorem ud {l:List cU} (h:l.all fK=true) (k:Nat):(l.drop k).all fK=true:=List.all_eq_true.2 fun e he=>List.all_eq_true.1 h e (List.mem_of_mem_drop he)
theorem yW {e:cU} (h:fK e=true):([e]:List cU).all fK=true:=by rw [List.all_cons,h];rfl
theorem FI {t:List Tg} (h:ce t=true) {x:Id}:∀ y∈jU t x,fK y.2.1=true:=fun y hy=>(ie.1 ((fa.1 h).may y (yD hy))).1
theorem JD {M:List Tg} (h:∀ y∈M,fK y.2.1=true) {k:Nat} (hk:k<M.length):fK (M.getD k aW).2.1=true:=h _ (jy hk)
theorem Fm {t:List Tg} (h:ce t=true) {x:Id} (he:Gb t x=0):decide ((jU t x).length=0)=false:=by
 rw [(G0 h x).1] at he
 cases g:decide ((jU t x).length=0) with
 |false=>rfl
 |true=>rw [g] at he;exact absurd he (by decide)
theorem GK {t:List Tg} (h:ce t=true) {x:Id} (he:¬ Gb t x=0):decide ((jU t x).length=0)=true:=by
 rw [(G0 h x).1] at he
 cases g:decide ((jU t x).length=0) with
 |true=>rfl
 |false=>rw [g] at he;exact absurd rfl he
theorem zl {w w':World} {vs:Value} {p:Pk} {E:Int} {R:List Ot} (hE:E=1) (hR:R=[]) (s:St w [] w'):LB w vs p E R (.tuple #[.slice none 0 0,.int .i64 1]) w':=by
 subst hE;subst hR
 exact ⟨_,[],[],rfl,rfl,s.grp0 (S:=fun w9=>dM w9 vs p.1→Bi w9 aI []) (fun w9 _=>⟨⟨rfl,.inl ⟨rfl,rfl⟩⟩,tC w9⟩)⟩
theorem sT {w w':World} {v vs:Value} {p:Pk} {N:TypeId} {E:Int} {R:List Ot} {K:List O2} {ks:List Nat} (hE:E=0) (hR:eN K=R) (s:St w [.sl v N 73 K.length (cb K),.grp ks fun w9=>dM w9 vs p.1→kM K w9] w'):LB w vs p E R (.tuple #[v,.int .i64 0]) w':=by
 subst hE
 obtain ⟨kn,s⟩:=s.grp1 (S':=fun w9=>dM w9 vs p.1→Bi w9 v K) (fun w9 h1 h2 h3=>⟨h1,h2 h3⟩)
 exact ⟨v,K,kn,rfl,hR,s⟩
theorem uL {w w':World} {v vs:Value} {p:Pk} {N:TypeId} {E y:Int} {R:List Ot} (hE:E=0) (hR:R=[dU y]) (s:St w [.sl v N 73 1 (cb [(dU y,aI)])] w'):LB w vs p E R (.tuple #[v,.int .i64 0]) w':=
 sT (K:=[(dU y,aI)]) (ks:=[]) hE hR.symm ((s.grp0 (S:=fun w9=>dM w9 vs p.1→kM [(dU y,aI)] w9) (fun w9 _=>pz (fk w9))).perm (List.Perm.swap ..))
theorem zb {w w':World} {v u vs:Value} {p:Pk} {N M:TypeId} {E:Int} {R:List Ot} {x:Ot} {L:List cU} (hE:E=0) (hR:R=[x]) (hL:x.p.1=L) (s:St w [.sl v N 73 1 (cb [(x,u)]),.sl u M 34 L.length (br L)] w'):LB w vs p E R (.tuple #[v,.int .i64 0]) w':=by
 subst hL
 have s0:=(s.perm (List.Perm.swap ..)).grp0 (S:=fun _=>True) (fun _=>trivial)
 obtain ⟨kn,s1⟩:=(s0.perm (List.Perm.swap ..)).grp1 (S':=fun w9=>dM w9 vs p.1→kM [(x,u)] w9) (fun w9 h _ _=>pz h)
 exact sT (K:=[(x,u)]) hE hR.symm (s1.perm (List.Perm.swap ..))
end Go.Proofs.YtobfeflheaobiaaGreatDoor
namespace Go.Proofs.YtobfeflheaobiaaGreatDoor
open Go.RowKit Go.ChangeShapes Go.WideShapes Go.ChangeAt
end Go.Proofs.YtobfeflheaobiaaGreatDoor
