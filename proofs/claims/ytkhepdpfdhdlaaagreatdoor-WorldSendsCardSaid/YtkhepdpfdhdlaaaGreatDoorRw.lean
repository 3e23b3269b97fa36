/- Packets and what becomes of them: which may be, which are the same, what goes on and by which triggers, of other data and more hops; packets that come in; no Go in it. -/
import Derived.Test.YtkhepdpfdhdlaaaGreatDoorTb
set_option linter.unusedVariables false
set_option linter.unusedSimpArgs false
set_option linter.unusedSectionVars false
namespace Go.Proofs.YtkhepdpfdhdlaaaGreatDoor
open Go.RowKit
abbrev Pk:=List cO × Int × ByteArray
abbrev ez (w:World) (v:Value) (l:List cO):Prop:=bp w v 34 l.length (db l)
def Yf (v:Value) (h:Int) (d:ByteArray):List Value:=[v,.int .i64 h,.string d]
structure Ot where
 k:Int
 h:Int
 p:Pk
 t:Tg
 y:Int
deriving DecidableEq
abbrev O2:=Ot × Value
def X6 (k h:Int) (v:Value) (n:Int) (d:ByteArray) (t:Tg) (y:Int):List Value:=.int .i64 k::.int .i64 h::(Yf v n d++(oF t++[.int .i64 y]))
section
variable (k h:Int) (v:Value) (n:Int) (d:ByteArray) (t:Tg) (y:Int)
end
theorem pg:oF eg=LA.flatten:=by
 have:=Yu Array.toList tQ
 exact this
def X2 (x:O2):List Value:=X6 x.1.k x.1.h x.2 x.1.p.2.1 x.1.p.2.2 x.1.t x.1.y
def LM (l:List O2):List Value:=l.flatMap X2
def Qe (K:List O2) (w:World):Prop:=∀ x∈K,ez w x.2 x.1.p.1
def VU (w:World) (v:Value) (K:List O2):Prop:=bp w v 73 K.length (LM K)/\Qe K w
def t2 (p:Pk):Bool:=cZ p.1 && (decide (0<=p.2.1) && (decide (p.2.1<=64) && decide (p.2.2.size<=64)))
def W0 (p:Pk) (b:Tg) (f:List cO):Ot:=⟨2,0,(f++p.1.drop 1,p.2.1 - 1,p.2.2),b,0⟩
def vH (p:Pk):cO:=p.1.getD 0 (0,0#256,0)
def RY (p:Pk):Ot:=⟨1,(vH p).2.2,p,eg,0⟩
def L7 (y:Int):Ot:=⟨3,0,([],0,ByteArray.empty),eg,y⟩
def Vo (p:Pk) (x:Tg):Ot:=W0 p x [x.2.1]
noncomputable def LX (t:List Tg) (p:Pk):List Ot:=
 bif decide ((vH p).1=2) then [RY p] else bif decide (p.2.1=0) then [L7 9] else
  bif decide ((Xo t (vH p).2.1).length=0) then (bif decide (1<p.1.length) then [W0 p eg []] else [L7 6]) else (Xo t (vH p).2.1).map (Vo p)
theorem iO {p:Pk}:t2 p=true↔(0<p.1.length/\p.1.length<=4/\∀ e∈p.1,lY e=true)/\0<=p.2.1/\p.2.1<=64/\p.2.2.size<=64:=by
 unfold t2
 rw [Yw,Yw,Yw,ee,YB,YB,YB]
section
variable {P:Program} {ρ:Operand->Value} {d:Option Tmp} {ty:TypeId} {pos:String} {af:Array Edge} {g:Option (Nat × Bool)} {x y z:Operand} {t:TypeId}
end
theorem R0 (l:List cO) (j:Nat) (hj:j<l.length):(((db l).drop (j*34)).take 34).toArray=co (l.getD j (0,0#256,0)):=by
 rw [Nv l j hj,YR,Yz hj];rfl
theorem Ue (e:cO):([Value.agg (co e)].flatMap λv=>v.cells.toList)=(co e).toList:=by simp [Value.cells]
theorem Ro (e:cO):∀ v∈([.agg (co e)]:List Value),v.cells.size=34:=λv hv=>by
 rw [YF] at hv;subst hv;exact br e
theorem bU (w:World):ez w aj []:=⟨rfl,.inl ⟨rfl,rfl⟩⟩
theorem Qe.keep {w w':World} {K:List O2} (h:Qe K w) (e:Ext w w'):Qe K w':=λx hx=>(h x hx).keep e
theorem VU.keep {w w':World} {v:Value} {K:List O2} (h:VU w v K) (e:Ext w w'):VU w' v K:=⟨h.1.keep e,h.2.keep e⟩
theorem NT {w:World} {v:Value} {l:List cO} (h:ez w v l) (k:Nat) (hk:k<=l.length):ez w (fI v k) (l.take k):=by
 have:=h.cut k hk
 unfold db at this
 rw [fN _ 34 (λx=>by rw [YD,br])] at this
 unfold ez
 rw [Y5,Nat.min_eq_left hk]
 exact this
abbrev XY:cO:=(0,0#256,0)
theorem JJ {l:List cO} (h:0<l.length):(db l)[0*34+0]? = some (.int .i64 (l.getD 0 XY).1):=by
 match l,h with
 |e::l,_=>rfl
end Go.Proofs.YtkhepdpfdhdlaaaGreatDoor
namespace Go.Proofs.YtkhepdpfdhdlaaaGreatDoor
open Go.RowKit Go.ChangeShapes Go.WideShapes Go.ChangeAt
end Go.Proofs.YtkhepdpfdhdlaaaGreatDoor
