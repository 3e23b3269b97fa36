/- Packets and what becomes of them: which may be, which are the same, what goes on and by which triggers, of other data and more hops; packets that come in; no Go in it. -/
import Derived.Test.YtkhepdpfdhdlaaaGreatDoorTb
set_option linter.unusedVariables false
set_option linter.unusedSimpArgs false
set_option linter.unusedSectionVars false
namespace Go.Proofs.YtkhepdpfdhdlaaaGreatDoor
open Go.RowKit
abbrev Pk:=List dN × Int × ByteArray
abbrev gf (w:World) (v:Value) (l:List dN):Prop:=br w v 34 l.length (eo l)
def pkL (v:Value) (h:Int) (d:ByteArray):List Value:=[v,.int .i64 h,.string d]
structure Ot where
 k:Int
 h:Int
 p:Pk
 t:Tg
 y:Int
deriving DecidableEq
abbrev O2:=Ot × Value
def otL (k h:Int) (v:Value) (n:Int) (d:ByteArray) (t:Tg) (y:Int):List Value:=.int .i64 k::.int .i64 h::(pkL v n d++(qA t++[.int .i64 y]))
section
variable (k h:Int) (v:Value) (n:Int) (d:ByteArray) (t:Tg) (y:Int)
end
theorem si:qA eA=PK.flatten:=by
 have:=ar8 Array.toList wN
 exact this
def ouL (x:O2):List Value:=otL x.1.k x.1.h x.2 x.1.p.2.1 x.1.p.2.2 x.1.t x.1.y
def N9 (l:List O2):List Value:=l.flatMap ouL
def TK (K:List O2) (w:World):Prop:=∀ x∈K,gf w x.2 x.1.p.1
def RdU (w:World) (v:Value) (K:List O2):Prop:=br w v 73 K.length (N9 K)/\TK K w
def wi (p:Pk):Bool:=dH p.1 && (decide (0<=p.2.1) && (decide (p.2.1<=64) && decide (p.2.2.size<=64)))
def onO (p:Pk) (b:Tg) (f:List dN):Ot:=⟨2,0,(f++p.1.drop 1,p.2.1 - 1,p.2.2),b,0⟩
def y7 (p:Pk):dN:=p.1.getD 0 (0,0#256,0)
def YD (p:Pk):Ot:=⟨1,(y7 p).2.2,p,eA,0⟩
def RM (y:Int):Ot:=⟨3,0,([],0,ByteArray.empty),eA,y⟩
def ad5 (p:Pk) (x:Tg):Ot:=onO p x [x.2.1]
noncomputable def QP (t:List Tg) (p:Pk):List Ot:=
 bif decide ((y7 p).1=2) then [YD p] else bif decide (p.2.1=0) then [RM 9] else
  bif decide ((mtF t (y7 p).2.1).length=0) then (bif decide (1<p.1.length) then [onO p eA []] else [RM 6]) else (mtF t (y7 p).2.1).map (ad5 p)
theorem jZ {p:Pk}:wi p=true↔(0<p.1.length/\p.1.length<=4/\∀ e∈p.1,pk e=true)/\0<=p.2.1/\p.2.1<=64/\p.2.2.size<=64:=by
 unfold wi
 rw [as0,as0,as0,fc,as5,as5,as5]
section
variable {P:Program} {ρ:Operand->Value} {d:Option Tmp} {ty:TypeId} {pos:String} {af:Array Edge} {g:Option (Nat × Bool)} {x y z:Operand} {t:TypeId}
end
theorem Yz (l:List dN) (j:Nat) (hj:j<l.length):(((eo l).drop (j*34)).take 34).toArray=df (l.getD j (0,0#256,0)):=by
 rw [T5 l j hj,au1,as3 hj];rfl
theorem Xi (e:dN):([Value.agg (df e)].flatMap λv=>v.cells.toList)=(df e).toList:=by simp [Value.cells]
theorem Wq (e:dN):∀ v∈([.agg (df e)]:List Value),v.cells.size=34:=λv hv=>by
 rw [as9] at hv;subst hv;exact ce e
theorem bO (w:World):gf w au []:=⟨rfl,.inl ⟨rfl,rfl⟩⟩
theorem TK.keep {w w':World} {K:List O2} (h:TK K w) (e:Ext w w'):TK K w':=λx hx=>(h x hx).keep e
theorem RdU.keep {w w':World} {v:Value} {K:List O2} (h:RdU w v K) (e:Ext w w'):RdU w' v K:=⟨h.1.keep e,h.2.keep e⟩
abbrev zEn:dN:=(0,0#256,0)
theorem PH {l:List dN} (h:0<l.length):(eo l)[0*34+0]? = some (.int .i64 (l.getD 0 zEn).1):=by
 match l,h with
 |e::l,_=>rfl
end Go.Proofs.YtkhepdpfdhdlaaaGreatDoor
namespace Go.Proofs.YtkhepdpfdhdlaaaGreatDoor
open Go.RowKit Go.ChangeShapes Go.WideShapes Go.ChangeAt
end Go.Proofs.YtkhepdpfdhdlaaaGreatDoor
