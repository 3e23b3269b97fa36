/- What a server answers, whom a walk asks and where it ends; in an overlay that is stable it ends with the one that it belongs to; maps of numbers to values; regions that draw their order, with something said beside a value; no Go in it. -/
import Derived.Test.YthmlflaiidhoiaaGreatDoorOw
set_option linter.unusedVariables false
set_option linter.unusedSimpArgs false
set_option linter.unusedSectionVars false
namespace Go.Proofs.YthmlflaiidhoiaaGreatDoor
open Go.RowKit
def anO (l:List Mb) (n:Nd) (x:Id):Bool := !decide ((cD l n).pr=fj) && xq x (cD l n).pr.2 (cD l n).me.2
def anM (l:List Mb) (n:Nd) (x:Id):Mb:=bif anO l n x then n.me else nxM (cD l n) x
def anB (l:List Mb) (n:Nd) (x:Id):Bool:=anO l n x || nxB (cD l n) x
def nowK (L:List N3) (x:Id) (no:Int):Nat->Int
 |0=>no
 |k+1=>(anM (av L) (br L (nowK L x no k)).1 x).1
def Xn (L:List N3) (x:Id) (no:Int) (k:Nat):Mb:=anM (av L) (br L (nowK L x no k)).1 x
def XF (L:List N3) (x:Id) (no:Int) (k:Nat):Bool:=anB (av L) (br L (nowK L x no k)).1 x
def ae5 (L:List N3) (x:Id) (no:Int) (k:Nat):Bool:=XF L x no k || decide ((Xn L x no k).1=nowK L x no k)
def Yt (L:List N3) (x:Id) (no:Int) (hops:Nat):Option Nat:=(List.range (hops+1)).find? (ae5 L x no)
def wlE (L:List N3) (x:Id) (no:Int) (hops:Nat):Int:=
 bif bu (av L) no then (match Yt L x no hops with|some k=>bif XF L x no k then 0 else 13|none=>9) else 10
def wlM (L:List N3) (x:Id) (no:Int) (hops:Nat):Mb:=bif decide (wlE L x no hops=0) then Xn L x no ((Yt L x no hops).getD 0) else aS
def Xh (L:List N3) (hops:Int):Bool:=iv L && (decide (0<=hops) && decide (hops<=16))
def VW (L:List N3) (x:Id) (no hops:Int):Int:=bif Xh L hops then wlE L x no hops.toNat else 1
def MI (L:List N3) (x:Id) (no hops:Int):Mb:=bif Xh L hops then wlM L x no hops.toNat else aS
theorem Iw {l:List Mb} (h:Rg l) {m:Mb} (hm:m∈l):bu l m.1=true:=(gD λy hy=>(h.nos y hy).1).2 ⟨m,hm,rfl⟩
theorem RY {l:List Mb} (h:Rg l) {no:Int} (hl:bu l no=true):∃ m∈l,m.1=no:=(gD λy hy=>(h.nos y hy).1).1 hl
theorem jg {L:List N3} (h:cV L=true):iv L=true:=by
 cases ho:iv L with
 |true=>rfl
 |false=>rw [QV ho] at h;cases h
theorem iB {L:List N3} (h:cV L=true) (h1:L.length≠1) {y:N3} (hy:y∈L):y.1.pr=oI (av L) y.1.me/\y.1.sc=eV (av L) y.1.me (min (L.length - 1) 4):=by
 obtain ⟨k,hk,rfl⟩:=yD hy
 have h2:=h
 unfold cV at h2
 rw [aq1 h1,aq5] at h2
 have h3:=aq6.1 h2.2 k (ar7.2 hk)
 unfold pS at h3
 simp only [aq5,ar0] at h3
 exact h3
theorem iT {L:List N3} (h:cV L=true) (h1:L.length=1) {y:N3} (hy:y∈L):y.1.pr=fj/\y.1.sc=[y.1.me]:=by
 obtain ⟨k,hk,rfl⟩:=yD hy
 rw [BP (jg h) hk h1] at h
 unfold Bt at h
 simp only [aq5,ar0] at h
 exact ⟨h.1,tj.2 h.2⟩
section
variable {P:Program} {ρ:Operand->Value} {d:Option Tmp} {ty:TypeId} {pos:String} {af:Array Edge} {g:Option (Nat × Bool)} {x y z:Operand} {t:TypeId}
end
def kvE (es:List (Int × Value)):Array MapEntry:=(es.zipIdx.map λp=>{key:=Value.int .i64 p.1.1,val:=p.1.2,born:=p.2}).toArray
abbrev KvO (es:List (Int × Value)):Obj:=.map (kvE es) es.length
section
variable {P:Program} {ops:Array Oper} {Q:Act->World->Prop} {K:Act->World->Prop} {l:List Oper} {a:Act} {w w0:World} {N:Nat} {L:List (Nat × Value)} {Df:List Deferred} {B:List Own} {d:Tmp} {ty:TypeId} {pos:String} {af:Array Edge} {x y z:Operand} {t kt et:TypeId}
end
theorem O6 {L:List N3} (ho:iv L=true) (h1:L.length=1->∀ y∈L,y.1.pr=fj/\y.1.sc=[y.1.me]) (hn:L.length≠1->∀ y∈L,y.1.pr=oI (av L) y.1.me/\y.1.sc=eV (av L) y.1.me (min (L.length - 1) 4)):cV L=true:=by
 unfold cV
 rw [ho]
 by_cases h:L.length=1
 ·rw [aq2 h]
  have:=h1 h _ (bE (L:=L) (j:=0) (by omega))
  show Bt (L.getD 0 z3).1=true
  unfold Bt
  rw [aq2 this.1,this.2]
  simp
 ·rw [aq1 h]
  show (List.range L.length).all (pS L)=true
  refine aq6.2 λk hk=>?_
  have:=hn h _ (bE (L:=L) (j:=k) (ar7.1 hk))
  unfold pS
  rw [aq2 this.1,aq2 this.2];rfl
theorem aa3 (m:Int) {N:Int} (h:1<=N) : -N<m.tmod N/\m.tmod N<N:=⟨Int.lt_tmod_of_pos m (by omega),Int.tmod_lt_of_pos m (by omega)⟩
section
variable {P:Program} {a:Act} {w w0:World} {N:Nat} {L:List (Nat × Value)} {B:List Own} {fn:Func}
end
end Go.Proofs.YthmlflaiidhoiaaGreatDoor
