/- What a server answers, whom a walk asks and where it ends; in an overlay that is stable it ends with the one that it belongs to; maps of numbers to values; regions that draw their order, with something said beside a value; no Go in it. -/
import Derived.Test.YtobfeflheaobiaaGreatDoorOw
set_option linter.unusedVariables false
set_option linter.unusedSimpArgs false
set_option linter.unusedSectionVars false
namespace Go.Proofs.YtobfeflheaobiaaGreatDoor
open Go.RowKit
def PK (l:List Mb) (n:Nd) (x:Id):Bool := !decide ((NV l n).pr=Jo) && Ov x (NV l n).pr.2 (NV l n).me.2
def PD (l:List Mb) (n:Nd) (x:Id):Mb:=bif PK l n x then n.me else PE (NV l n) x
def nowK (L:List N3) (x:Id) (no:Int):Nat→Int
 |0=>no
 |k+1=>(PD (lq L) (He L (nowK L x no k)).1 x).1
section
variable {P:Program} {ρ:Operand→Value} {d:Option Tmp} {ty:TypeId} {pos:String} {af:Array Edge} {g:Option (Nat × Bool)} {x y z:Operand} {t:TypeId}
end
section
variable {P:Program} {ops:Array Oper} {Q:Act→World→Prop} {K:Act→World→Prop} {l:List Oper} {a:Act} {w w0:World} {N:Nat} {L:List (Nat × Value)} {Df:List Deferred} {B:List Own} {d:Tmp} {ty:TypeId} {pos:String} {af:Array Edge} {x y z:Operand} {t kt et:TypeId}
end
section
variable {P:Program} {a:Act} {w w0:World} {N:Nat} {L:List (Nat × Value)} {B:List Own} {fn:Func}
theorem ia {T:cW} {p q r:Tmp} {t:TypeId} {b n:Nat} {C:Array Value} {u:TypeId} {V U:Value} (i:Nat) (hres:fn.results=#[.tmp q,.cell p t,.tmp r]) (h:Sl N a L) (s:St w0 B w) (hr:Row P t n) (hq:lk L q=some V) (hp:lk L p=some (.pointer (some ⟨b,0,none⟩))) (hi:B[i]? = some (.blk b (.cells C u))) (hn:C.size=n)
 (hu:lk L r=some U) (hT:T (.tuple #[V,.agg C,U]) w):bodyPost P fn (cp w0 T) .ret a w:=by
 refine ⟨h.defers,.tuple #[V,.agg C,U],?_,_,rfl,hT,s.ext⟩
 have hp':a.tmps[p]?.getD undef=.pointer (some ⟨b,0,none⟩):=by simpa using h.holds p _ hp
 have hq':a.tmps[q]?.getD undef=V:=by simpa using h.holds q _ hq
 have hu':a.tmps[r]?.getD undef=U:=by simpa using h.holds r _ hu
 simp [results,hres,hp',hq',hu',asAddr,ew hr w b C u (0,0) (s.get i hi) hn]
end
section
variable {P:Program} {fn:Func} {w w0:World} {N:Nat} {a:Act} {L:List (Nat × Value)} {B:List Own}
end
end Go.Proofs.YtobfeflheaobiaaGreatDoor
