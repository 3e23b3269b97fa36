/- Packets and what becomes of them; packets that come in. -/
import Derived.Test.YthmlflaiidhoiaaGreatDoorTb
set_option linter.unusedVariables false
set_option linter.unusedSimpArgs false
set_option linter.unusedSectionVars false
namespace Go.Proofs.YthmlflaiidhoiaaGreatDoor
open Go.RowKit
abbrev Pk:=List dN × Int × ByteArray
abbrev iJ (w:World) (v:Value) (l:List dN):Prop:=bs w v 34 l.length (ed l)
structure Ot where
 k:Int
 h:Int
 p:Pk
 t:Tg
 y:Int
deriving DecidableEq
abbrev O2:=Ot × Value
section
variable (k h:Int) (v:Value) (n:Int) (d:ByteArray) (t:Tg) (y:Int)
end
theorem tA:pX cr=LN.flatten:=by
 have:=aH3 Array.toList xT
 exact this
def DI (p:Pk):Bool:=dQ p.1 && (decide (0<=p.2.1) && (decide (p.2.1<=64) && decide (p.2.2.size<=64)))
def onO (p:Pk) (b:Tg) (f:List dN):Ot:=⟨2,0,(f++p.1.drop 1,p.2.1 - 1,p.2.2),b,0⟩
def BG (p:Pk):dN:=p.1.getD 0 (0,0#256,0)
def YX (p:Pk):Ot:=⟨1,(BG p).2.2,p,cr,0⟩
def ST (y:Int):Ot:=⟨3,0,([],0,ByteArray.empty),cr,y⟩
def au9 (p:Pk) (x:Tg):Ot:=onO p x [x.2.1]
noncomputable def T7 (t:List Tg) (p:Pk):List Ot:=
 bif decide ((BG p).1=2) then [YX p] else bif decide (p.2.1=0) then [ST 9] else
  bif decide ((mtF t (BG p).2.1).length=0) then (bif decide (1<p.1.length) then [onO p cr []] else [ST 6]) else (mtF t (BG p).2.1).map (au9 p)
theorem uL {p:Pk}:DI p=true↔(0<p.1.length/\p.1.length<=4/\∀ e∈p.1,pZ e=true)/\0<=p.2.1/\p.2.1<=64/\p.2.2.size<=64:=by
 unfold DI
 rw [aH5,aH5,aH5,fN,aI0,aI0,aI0]
section
variable {P:Program} {ρ:Operand->Value} {d:Option Tmp} {ty:TypeId} {pos:String} {af:Array Edge} {g:Option (Nat × Bool)} {x y z:Operand} {t:TypeId}
end
theorem ag1 (l:List dN) (j:Nat) (hj:j<l.length):(((ed l).drop (j*34)).take 34).toArray=cG (l.getD j (0,0#256,0)):=by
 rw [W4 l j hj,aJ6,aH8 hj];rfl
theorem ac6 (e:dN):([Value.agg (cG e)].flatMap λv=>v.cells.toList)=(cG e).toList:=by simp [Value.cells]
theorem ZZ (e:dN):∀ v∈([.agg (cG e)]:List Value),v.cells.size=34:=λv hv=>by
 rw [aI4] at hv;subst hv;exact bR e
theorem cT (w:World):iJ w ax []:=⟨rfl,.inl ⟨rfl,rfl⟩⟩
abbrev zEn:dN:=(0,0#256,0)
theorem R2 {l:List dN} (h:0<l.length):(ed l)[0*34+0]? = some (.int .i64 (l.getD 0 zEn).1):=by
 match l,h with
 |e::l,_=>rfl
end Go.Proofs.YthmlflaiidhoiaaGreatDoor
namespace Go.Proofs.YthmlflaiidhoiaaGreatDoor
open Go.RowKit Go.ChangeShapes Go.WideShapes Go.ChangeAt
end Go.Proofs.YthmlflaiidhoiaaGreatDoor
