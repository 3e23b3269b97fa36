/- Nodes: which may be, what hearing, following, dropping and pointing make of them, and that what may be stays such; nodes that come in; no Go in it. -/
import Derived.Test.YtobfeflheaobiaaGreatDoorRg
set_option linter.unusedVariables false
set_option linter.unusedSimpArgs false
set_option linter.unusedSectionVars false
namespace Go.Proofs.YtobfeflheaobiaaGreatDoor
open Go.RowKit
structure Nd where
 me:Mb
 pr:Mb
 sc:List Mb
 fg:List Mb
def Py:Nd:=⟨yy,yy,[],[]⟩
def aI:Value:=.slice none 0 0
def NT (m p:Mb) (vs vf:Value):List Value:=NG m++(NG p++[vs,vf])
def zG (m p:Mb) (vs vf:Value):Array Value:=(NT m p vs vf).toArray
theorem GV (m p:Mb) (vs vf:Value):(NT m p vs vf).length=68:=by simp [NT,Gu]
theorem bs {w:World} {v:Value} {sz n:Nat} {xs:List Value} (h:bI w v sz n xs):v.oneCell'=true:=by
 obtain ⟨a,c,rfl⟩:=h.len
 rfl
section
variable {P:Program} {ρ:Operand→Value} {d:Option Tmp} {ty:TypeId} {pos:String} {af:Array Edge} {g:Option (Nat × Bool)} {x y z:Operand} {t:TypeId}
end
def I4 (m:Mb):Bool:=decide (0≤m.1) && decide (m.1<16)
def OO (l:List Mb) (no:Int):Bool:=l.any fun x=>decide (x.1=no)
def Oc (l:List Mb) (no:Int) (d:Nat):Bool := !I4 (l.getD d yy) || (decide ((l.getD d yy).1=no) || OO (l.take d) (l.getD d yy).1)
def NH (l:List Mb) (no:Int):Bool:=(List.range l.length).all fun d => !Oc l no d
structure Oth (l:List Mb) (no:Int):Prop where
 may:∀ x∈l,0≤x.1∧x.1<16
 ne:∀ x∈l,x.1≠no
 nd:l.Pairwise fun a b=>a.1≠b.1
def OE (p:Mb) (no:Int):Bool:=decide (p=Jo) || (I4 p && decide (p.1≠no))
def OD (l:List Mb) (m:Mb):Bool:=decide (l=[m]) || (decide (1≤l.length) && (decide (l.length≤4) && NH l m.1))
def OU (l:List Mb) (no:Int):Bool:=decide (l.length≤16) && NH l no
def Dr (n:Nd):Bool:=I4 n.me && (OE n.pr n.me.1 && (OD n.sc n.me && OU n.fg n.me.1))
structure RN (n:Nd):Prop where
 me:0≤n.me.1∧n.me.1<16
 pr:n.pr=Jo∨((0≤n.pr.1∧n.pr.1<16)∧n.pr.1≠n.me.1)
 sc:n.sc=[n.me]∨(1≤n.sc.length∧n.sc.length≤4∧Oth n.sc n.me.1)
 fg:n.fg.length≤16∧Oth n.fg n.me.1
theorem RN.len {n:Nd} (h:RN n):1≤n.sc.length∧n.sc.length≤4:=by
 rcases h.sc with h|h
 ·rw [h];exact ⟨Nat.le_refl _,by show 1≤4;omega⟩
 ·exact ⟨h.1,h.2.1⟩
def PO (n:Nd) (x:Id):Bool:=Ov x n.me.2 (n.sc.getD 0 yy).2
def PC (n:Nd) (x:Id):Mb:=bif decide (PJ n.me.2 x (n.fg++n.sc)=0) then Pw n.me.2 x (n.fg++n.sc) else n.sc.getD 0 yy
def PE (n:Nd) (x:Id):Mb:=bif Dr n then (bif PO n x then n.sc.getD 0 yy else PC n x) else yy
def PG (l:List Mb) (me:Mb):List Mb:=bif decide (l.length=0) then [me] else l
def NA (nos:List Int) (no:Int) (x:Mb):Bool:=nos.any fun k=>decide (k=x.1) && decide (k≠no)
def Cm (l:List Mb) (nos:List Int) (no:Int):List Mb:=l.filter fun x => !NA nos no x
def PS (n:Nd) (nos:List Int):Mb:=bif !decide (n.pr=Jo) && decide ((Cm [n.pr] nos n.me.1).length=0) then Jo else n.pr
theorem Oth.filter {l:List Mb} {no:Int} (h:Oth l no) (p:Mb→Bool):Oth (l.filter p) no:=
 ⟨fun x hx=>h.may x ((List.mem_filter.1 hx).1),fun x hx=>h.ne x ((List.mem_filter.1 hx).1),h.nd.filter p⟩
theorem St.add {w0 w w':World} {B C:List Own} (s:St w0 B w) (t:St w C w'):St w0 (C++B) w':=by
 refine s.join t.ext C (fun p hp=>?_) (fun p hp k hk=>t.own p hp k hk) t.nd
 have h:=t.has p hp
 cases p with
 |blk b o=>exact h
 |sl v e sz n xs=>exact cB.low h s.ext.le
 |grp ks S=>exact h
section
variable {P:Program} {ρ:Operand→Value} {d:Option Tmp} {ty:TypeId} {pos:String} {af:Array Edge} {g:Option (Nat × Bool)} {x y z:Operand} {t:TypeId}
end
theorem gx {w:World} {v:Value} {sz n:Nat} {xs:List Value} (h:bI w v sz n xs):v.cells.size=1:=by obtain ⟨a,c,rfl⟩:=h.len;rfl
theorem eR {w:World} {v:Value} {sz n:Nat} {xs:List Value} (h:bI w v sz n xs):v.cells.toList=[v]:=by obtain ⟨a,c,rfl⟩:=h.len;rfl
section
variable {P:Program} {a:Act} {w w0:World} {N:Nat} {L:List (Nat × Value)} {B:List Own} {fn:Func} {T:cW}
end
structure FldT (P:Program) (t:TypeId) (f off:Nat) (tf:TypeId):Prop where
 has:∃ fields fd,P.underlying t=some (.struct fields)∧fields[f]? = some fd∧fd.type=tf∧fd.offset=off
theorem AI {P:Program} {ρ:Operand→Value} {d:Option Tmp} {ty:TypeId} {pos:String} {af:Array Edge} {g:Option (Nat × Bool)} {x:Operand} {t tf:TypeId} {f off:Nat} {C:Array Value} {V:Value} (F:FldT P t f off tf) (ho:One P tf) (hx:ρ x=.agg C) (hC:C[off]? = some V):
 aM P ⟨d,.field t x f,ty,pos,af,g⟩ ρ V:=fun w=>by
 obtain ⟨fields,fd,h1,h2,h3,h4⟩:=F.has
 simp [execOp,hx,Instr.field,Sem.run_bind,run_underlying h1,h2,asAgg,part,h3,h4,mE ho w,hC]
def MT (w:World) (M:TypeId) (a p:Mb) (l:List Mb) (vf:Value):cW:=fun v w'=>∃ vo,v=.agg (zG a p vo vf)∧cB w' w.heap.size M 33 vo l.length (jd l)
def Pe (w:World) (M:TypeId) (a p:Mb) (s f:List Mb):cW:=fun v w'=>∃ vs vf,v=.agg (zG a p vs vf)∧St w [.sl vs M 33 s.length (jd s),.sl vf M 33 f.length (jd f)] w'
def JN (a p:Mb) (l:List Mb) (vf:Value):cW:=fun v w=>∃ vo,v=.agg (zG a p vo vf)∧bI w vo 33 l.length (jd l)
theorem JN.mono (a p:Mb) (l:List Mb) (vf:Value):my (JN a p l vf):=fun _ _ _ ⟨vo,h1,h2⟩ hE=>⟨vo,h1,h2.keep hE⟩
theorem MT.d {w w':World} {M:TypeId} {a p:Mb} {l:List Mb} {vf v:Value} (h:MT w M a p l vf v w'):JN a p l vf v w':=by obtain ⟨vo,h1,h2⟩:=h;exact ⟨vo,h1,bI.of_own h2⟩
def OL (a p:Mb) (s f:List Mb):cW:=fun v w=>∃ vs vf,v=.agg (zG a p vs vf)∧bI w vs 33 s.length (jd s)∧bI w vf 33 f.length (jd f)
theorem OL.mono (a p:Mb) (s f:List Mb):my (OL a p s f):=fun _ _ _ ⟨vs,vf,h1,h2,h3⟩ hE=>⟨vs,vf,h1,h2.keep hE,h3.keep hE⟩
theorem Pe.d {w w':World} {M:TypeId} {a p:Mb} {s f:List Mb} {v:Value} (h:Pe w M a p s f v w'):OL a p s f v w':=by
 obtain ⟨vs,vf,h1,h2⟩:=h
 exact ⟨vs,vf,h1,bI.of_own (h2.getSl 0 rfl),bI.of_own (h2.getSl 1 rfl)⟩
abbrev N3:=Nd × Value × Value
def z3:N3:=(Py,aI,aI)
def O9 (x:N3):List Value:=NT x.1.me x.1.pr x.2.1 x.2.2
def gC (l:List N3):List Value:=l.flatMap O9
theorem FX (x:N3):(O9 x).length=68:=GV _ _ _ _
def HX (w:World) (x:N3):Prop:=bI w x.2.1 33 x.1.sc.length (jd x.1.sc)∧bI w x.2.2 33 x.1.fg.length (jd x.1.fg)
end Go.Proofs.YtobfeflheaobiaaGreatDoor
namespace Go.Proofs.YtobfeflheaobiaaGreatDoor
open Go.RowKit Go.ChangeShapes Go.WideShapes Go.ChangeAt
end Go.Proofs.YtobfeflheaobiaaGreatDoor
