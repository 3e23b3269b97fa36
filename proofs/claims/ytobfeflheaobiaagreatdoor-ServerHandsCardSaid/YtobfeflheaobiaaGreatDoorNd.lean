/- Nodes: which may be, what hearing, following, dropping and pointing make of them, and that what may be stays such; nodes that come in; no Go in it. -/
import Derived.Test.YtobfeflheaobiaaGreatDoorRg
set_option linter.unusedVariables false
set_option linter.unusedSimpArgs false
set_option linter.unusedSectionVars false
namespace Go.Proofs.YtobfeflheaobiaaGreatDoor
open Go.RowKit
structure Nd where
 me:Mb
 pr:Mb
 sc:List Mb
 fg:List Mb
def La:Nd:=⟨uD,uD,[],[]⟩
def aM:Value:=.slice none 0 0
def IS (m p:Mb) (vs vf:Value):List Value:=H8 m++(H8 p++[vs,vf])
def wh (m p:Mb) (vs vf:Value):Array Value:=(IS m p vs vf).toArray
theorem CT (m p:Mb) (vs vf:Value):(IS m p vs vf).length=68:=by simp [IS,Bo]
theorem bV {w:World} {v:Value} {sz n:Nat} {xs:List Value} (h:bK w v sz n xs):v.oneCell'=true:=by
 obtain ⟨a,c,rfl⟩:=h.len
 rfl
section
variable {P:Program} {ρ:Operand→Value} {d:Option Tmp} {ty:TypeId} {pos:String} {af:Array Edge} {g:Option (Nat × Bool)} {x y z:Operand} {t:TypeId}
end
def Gn (m:Mb):Bool:=decide (0≤m.1) && decide (m.1<16)
def Jz (l:List Mb) (no:Int):Bool:=l.any fun x=>decide (x.1=no)
def Jd (l:List Mb) (no:Int) (d:Nat):Bool := !Gn (l.getD d uD) || (decide ((l.getD d uD).1=no) || Jz (l.take d) (l.getD d uD).1)
def II (l:List Mb) (no:Int):Bool:=(List.range l.length).all fun d => !Jd l no d
structure Oth (l:List Mb) (no:Int):Prop where
 may:∀ x∈l,0≤x.1∧x.1<16
 ne:∀ x∈l,x.1≠no
 nd:l.Pairwise fun a b=>a.1≠b.1
def I9 (p:Mb) (no:Int):Bool:=decide (p=Fe) || (Gn p && decide (p.1≠no))
def I5 (l:List Mb) (m:Mb):Bool:=decide (l=[m]) || (decide (1≤l.length) && (decide (l.length≤4) && II l m.1))
def JO (l:List Mb) (no:Int):Bool:=decide (l.length≤16) && II l no
def zc (n:Nd):Bool:=Gn n.me && (I9 n.pr n.me.1 && (I5 n.sc n.me && JO n.fg n.me.1))
structure RN (n:Nd):Prop where
 me:0≤n.me.1∧n.me.1<16
 pr:n.pr=Fe∨((0≤n.pr.1∧n.pr.1<16)∧n.pr.1≠n.me.1)
 sc:n.sc=[n.me]∨(1≤n.sc.length∧n.sc.length≤4∧Oth n.sc n.me.1)
 fg:n.fg.length≤16∧Oth n.fg n.me.1
theorem RN.len {n:Nd} (h:RN n):1≤n.sc.length∧n.sc.length≤4:=by
 rcases h.sc with h|h
 ·rw [h];exact ⟨Nat.le_refl _,by show 1≤4;omega⟩
 ·exact ⟨h.1,h.2.1⟩
def KL (n:Nd) (x:Id):Bool:=jz x n.me.2 (n.sc.getD 0 uD).2
def KY (n:Nd) (x:Id):Mb:=bif decide (Ld n.me.2 x (n.fg++n.sc)=0) then KZ n.me.2 x (n.fg++n.sc) else n.sc.getD 0 uD
def KG (n:Nd) (x:Id):Mb:=bif zc n then (bif KL n x then n.sc.getD 0 uD else KY n x) else uD
def KC (l:List Mb) (me:Mb):List Mb:=bif decide (l.length=0) then [me] else l
def Il (nos:List Int) (no:Int) (x:Mb):Bool:=nos.any fun k=>decide (k=x.1) && decide (k≠no)
def A0 (l:List Mb) (nos:List Int) (no:Int):List Mb:=l.filter fun x => !Il nos no x
def KT (n:Nd) (nos:List Int):Mb:=bif !decide (n.pr=Fe) && decide ((A0 [n.pr] nos n.me.1).length=0) then Fe else n.pr
theorem Oth.filter {l:List Mb} {no:Int} (h:Oth l no) (p:Mb→Bool):Oth (l.filter p) no:=
 ⟨fun x hx=>h.may x ((List.mem_filter.1 hx).1),fun x hx=>h.ne x ((List.mem_filter.1 hx).1),h.nd.filter p⟩
theorem St.add {w0 w w':World} {B C:List Own} (s:St w0 B w) (t:St w C w'):St w0 (C++B) w':=by
 refine s.join t.ext C (fun p hp=>?_) (fun p hp k hk=>t.own p hp k hk) t.nd
 have h:=t.has p hp
 cases p with
 |blk b o=>exact h
 |sl v e sz n xs=>exact cb.low h s.ext.le
 |grp ks S=>exact h
section
variable {P:Program} {ρ:Operand→Value} {d:Option Tmp} {ty:TypeId} {pos:String} {af:Array Edge} {g:Option (Nat × Bool)} {x y z:Operand} {t:TypeId}
end
theorem f8 {w:World} {v:Value} {sz n:Nat} {xs:List Value} (h:bK w v sz n xs):v.cells.size=1:=by obtain ⟨a,c,rfl⟩:=h.len;rfl
theorem fq {w:World} {v:Value} {sz n:Nat} {xs:List Value} (h:bK w v sz n xs):v.cells.toList=[v]:=by obtain ⟨a,c,rfl⟩:=h.len;rfl
section
variable {P:Program} {a:Act} {w w0:World} {N:Nat} {L:List (Nat × Value)} {B:List Own} {fn:Func} {T:bY}
end
structure FldT (P:Program) (t:TypeId) (f off:Nat) (tf:TypeId):Prop where
 has:∃ fields fd,P.underlying t=some (.struct fields)∧fields[f]? = some fd∧fd.type=tf∧fd.offset=off
def GG (w:World) (M:TypeId) (a p:Mb) (l:List Mb) (vf:Value):bY:=fun v w'=>∃ vo,v=.agg (wh a p vo vf)∧cb w' w.heap.size M 33 vo l.length (ga l)
def Ky (w:World) (M:TypeId) (a p:Mb) (s f:List Mb):bY:=fun v w'=>∃ vs vf,v=.agg (wh a p vs vf)∧St w [.sl vs M 33 s.length (ga s),.sl vf M 33 f.length (ga f)] w'
def FI (a p:Mb) (l:List Mb) (vf:Value):bY:=fun v w=>∃ vo,v=.agg (wh a p vo vf)∧bK w vo 33 l.length (ga l)
theorem FI.mono (a p:Mb) (l:List Mb) (vf:Value):jM (FI a p l vf):=fun _ _ _ ⟨vo,h1,h2⟩ hE=>⟨vo,h1,h2.keep hE⟩
theorem GG.d {w w':World} {M:TypeId} {a p:Mb} {l:List Mb} {vf v:Value} (h:GG w M a p l vf v w'):FI a p l vf v w':=by obtain ⟨vo,h1,h2⟩:=h;exact ⟨vo,h1,bK.of_own h2⟩
def Ke (a p:Mb) (s f:List Mb):bY:=fun v w=>∃ vs vf,v=.agg (wh a p vs vf)∧bK w vs 33 s.length (ga s)∧bK w vf 33 f.length (ga f)
theorem Ke.mono (a p:Mb) (s f:List Mb):jM (Ke a p s f):=fun _ _ _ ⟨vs,vf,h1,h2,h3⟩ hE=>⟨vs,vf,h1,h2.keep hE,h3.keep hE⟩
theorem Ky.d {w w':World} {M:TypeId} {a p:Mb} {s f:List Mb} {v:Value} (h:Ky w M a p s f v w'):Ke a p s f v w':=by
 obtain ⟨vs,vf,h1,h2⟩:=h
 exact ⟨vs,vf,h1,bK.of_own (h2.getSl 0 rfl),bK.of_own (h2.getSl 1 rfl)⟩
abbrev N3:=Nd × Value × Value
def z3:N3:=(La,aM,aM)
def Kn (x:N3):List Value:=IS x.1.me x.1.pr x.2.1 x.2.2
def eO (l:List N3):List Value:=l.flatMap Kn
theorem BE (x:N3):(Kn x).length=68:=CT _ _ _ _
def DK (w:World) (x:N3):Prop:=bK w x.2.1 33 x.1.sc.length (ga x.1.sc)∧bK w x.2.2 33 x.1.fg.length (ga x.1.fg)
end Go.Proofs.YtobfeflheaobiaaGreatDoor
namespace Go.Proofs.YtobfeflheaobiaaGreatDoor
open Go.RowKit Go.ChangeShapes Go.WideShapes Go.ChangeAt
end Go.Proofs.YtobfeflheaobiaaGreatDoor
