/- Where a packet comes to in the end: links that do not come back, counts, copy by copy, more hops, fewer entries, one more trigger; no Go in it. -/
import Derived.Test.YthmlflaiidhoiaaGreatDoorRw
set_option linter.unusedVariables false
set_option linter.unusedSimpArgs false
set_option linter.unusedSectionVars false
namespace Go.Proofs.YthmlflaiidhoiaaGreatDoor
open Go.RowKit
@[ext] structure Cn where
  hs:Nat->Nat
  lost:Nat
  hops:Nat
  work:Nat
namespace Cn
def zero:Cn:=⟨λ_=>0,0,0,0⟩
def add (a b:Cn):Cn:=⟨λh=>a.hs h+b.hs h,a.lost+b.lost,a.hops+b.hops,a.work+b.work⟩
theorem add_zero (a:Cn):a.add zero=a:=rfl
theorem zero_add (a:Cn):zero.add a=a:=by
 unfold add zero;cases a;simp
theorem add_assoc (a b c:Cn):(a.add b).add c=a.add (b.add c):=by
 unfold add;simp [Nat.add_assoc]
end Cn
def Zx:Cn:=⟨λ_=>0,0,0,1⟩
def OT (f:Pk->Cn) (o:Ot):Cn:=if o.k=1 then ⟨λh=>if h=o.h.toNat then 1 else 0,0,0,0⟩ else if o.k=2 then f o.p else if o.y=9 then ⟨λ_=>0,0,1,0⟩ else ⟨λ_=>0,1,0,0⟩
end Go.Proofs.YthmlflaiidhoiaaGreatDoor
namespace Go.Proofs.YthmlflaiidhoiaaGreatDoor
open Go.RowKit
noncomputable def goF (t:List Tg):Nat->Cn->Pk->Cn
 |0,c,_=>c
 |n+1,c,p=>if 1000<c.work then c else (di t p).foldl (λs o=>if o.k=2 then goF t n s o.p else s.add (OT (λ_=>.zero) o)) (c.add Zx)
def stC (f:Cn->Pk->Cn) (s:Cn) (o:Ot):Cn:=if o.k=2 then f s o.p else s.add (OT (λ_=>.zero) o)
theorem Cn.add_comm (a b:Cn):a.add b=b.add a:=by
 unfold Cn.add
 simp only [Nat.add_comm]
structure COk (c:Cn):Prop where
 hs:∀ h,c.hs h<=c.work
 lost:c.lost<=c.work
 hops:c.hops<=c.work
 work:c.work<=1001
theorem COk.wk {c:Cn} (h:COk c) (hw:¬ 1000<c.work):COk (c.add Zx):=
 ⟨λx=>by have:=h.hs x;show c.hs x+0<=c.work+1;omega,by have:=h.lost;show c.lost+0<=c.work+1;omega,by have:=h.hops;show c.hops+0<=c.work+1;omega,by show c.work+1<=1001;omega⟩
theorem zo {t:List Tg} {p:Pk}:(∀ o∈di t p,o.k=2)∨∃ o,di t p=[o]/\o.k≠2:=by
 by_cases h:∃ o∈di t p,o.k≠2
 ·obtain ⟨o,ho,hk⟩:=h
  have:=Jg ho hk
  match hl:di t p,this with
  |[x],_=>
   rw [hl] at ho
   exact .inr ⟨x,rfl,by rw [← ar4.1 ho];exact hk⟩
 ·exact .inl λo ho=>Classical.byContradiction λhk=>h ⟨o,ho,hk⟩
noncomputable def goK (t:List Tg) (n:Nat) (c:Cn) (p:Pk) (k:Nat):Cn:=((di t p).take k).foldl (stC (goF t n)) (c.add Zx)
theorem CZ {t:List Tg} {p:Pk} {o:Ot} (hr:jD p=true) (ho:o∈di t p) (hk:o.k=1):0<=o.h/\o.h<16:=by
 have hl:=(ey.1 hr).1
 rcases tK ho with ⟨h2,_,rfl⟩|⟨_,_,_,rfl⟩|⟨_,_,_,y,_,rfl⟩|⟨_,_,_,_,_,rfl⟩|⟨_,_,_,_,_,rfl⟩
 ·have hm:eG p∈p.1:=by
   obtain ⟨l,m,d⟩:=p
   match l,hl.1 with
   |e::l,_=>exact ar5
  have:=hl.2.2 _ hm
  unfold kR at this
  simp only [Bool.or_eq_true,aq5,ar0] at this
  rcases this with ⟨a,_⟩|⟨⟨_,b⟩,c⟩
  ·rw [h2] at a;exact ax7 a (by decide)
  ·exact ⟨b,c⟩
 ·exact ax7 (show (3:Int)=1 from hk) (by decide)
 ·exact ax7 (show (2:Int)=1 from hk) (by decide)
 ·exact ax7 (show (2:Int)=1 from hk) (by decide)
 ·exact ax7 (show (3:Int)=1 from hk) (by decide)
section
variable {P:Program} {ρ:Operand->Value} {d:Option Tmp} {ty:TypeId} {pos:String} {af:Array Edge} {g:Option (Nat × Bool)} {x y z:Operand} {t:TypeId}
end
structure Sd where
 hosts:List Int
 lost:Int
 hops:Int
 work:Int
deriving DecidableEq
theorem y9 {v:Value} (h:v.oneCell'=true):v.cells.size=1/\v.cells.toList=[v]:=by cases v<;>first|exact ⟨rfl,rfl⟩|cases h
def jq (w:World) (base:Nat) (e:TypeId) (sz:Nat) (v:Value) (n:Nat) (xs:List Value):Prop:=
 xs.length=n*sz/\
 ((v=.slice none 0 0/\n=0) ∨
  ∃ g o cap cur fz,v=.slice (some ⟨g,o,none⟩) n cap/\base<=g/\w.heap[g]? = some (.cells cur e fz)/\(fz.2=0∨cur.size<=fz.1)/\n<=cap/\cap<=maxLen/\o+cap*sz<=cur.size/\(cur.toList.drop o).take (n*sz)=xs)
theorem jq.of_owns {w:World} {base:Nat} {e:TypeId} {sz:Nat} {v:Value} {n:Nat} {xs:List Value} (h:cd w base e sz v n xs):jq w base e sz v n xs:=by
 refine ⟨h.1,h.2.imp id ?_⟩
 rintro ⟨g,cap,cur,fz,hv,hb,hg,hz,hn,hc,hs,ht⟩
 exact ⟨g,0,cap,cur,fz,hv,hb,hg,hz,hn,hc,by omega,by simpa using ht⟩
theorem jq.rd {w:World} {base:Nat} {e:TypeId} {sz:Nat} {v:Value} {n:Nat} {xs:List Value} (h:jq w base e sz v n xs):a7 w v sz n xs:=by
 refine ⟨h.1,h.2.imp id ?_⟩
 rintro ⟨g,o,cap,cur,fz,hv,hb,hg,hz,hn,hc,hs,ht⟩
 refine ⟨⟨g,o,none⟩,cap,hv,hn,λj x hx=>?_⟩
 have hadd:(⟨g,o,none⟩:Addr).add j=⟨g,o+j,none⟩:=by unfold Addr.add;split<;>simp_all
 rw [as8] at hx
 rw [hadd,cell_of_row w g (o+j) cur e fz hg]
 rw [← ht,List.getElem?_take] at hx
 split at hx
 ·rw [aw8] at hx;simpa using hx
 ·cases hx
theorem jq.at {w w':World} {base:Nat} {e:TypeId} {sz:Nat} {v:Value} {n:Nat} {xs:List Value} (h:jq w base e sz v n xs) (hk:∀ k∈v.ownBlock.toList,w'.heap[k]? = w.heap[k]?):jq w' base e sz v n xs:=by
 refine ⟨h.1,h.2.imp id ?_⟩
 rintro ⟨g,o,cap,cur,fz,hv,hb,hg,r⟩
 exact ⟨g,o,cap,cur,fz,hv,hb,by rw [hk g (by rw [hv];simp [Value.ownBlock])];exact hg,r⟩
theorem jq.drop {w:World} {base:Nat} {e:TypeId} {sz:Nat} {v:Value} {n:Nat} {xs:List Value} (h:jq w base e sz v n xs) (k:Nat) (hk:k<=n):jq w base e sz (hQ v sz k) (n - k) (xs.drop (k*sz)):=by
 refine ⟨by rw [at2,h.1,Nat.sub_mul],?_⟩
 rcases h.2 with ⟨rfl,rfl⟩|⟨g,o,cap,cur,fz,rfl,hb,hg,hz,hn,hc,hs,ht⟩
 ·obtain rfl:k=0:=by omega
  exact .inl ⟨rfl,rfl⟩
 ·right
  have hmul:k*sz<=cap*sz:=Nat.mul_le_mul_right _ (by omega)
  by_cases hck:cap=k
  ·refine ⟨g,o,cap - k,cur,fz,by simp [hQ,hck],hb,hg,hz,by omega,by omega,?_,?_⟩
   ·rw [Nat.sub_mul];omega
   ·obtain rfl:n=k:=by omega
    rw [Nat.sub_self,Nat.zero_mul,List.take_zero,← h.1,List.drop_length]
  ·have hadd:(⟨g,o,none⟩:Addr).add (k*sz)=⟨g,o+k*sz,none⟩:=by unfold Addr.add;split<;>simp_all
   refine ⟨g,o+k*sz,cap - k,cur,fz,by simp [hQ,hck,hadd],hb,hg,hz,by omega,by omega,?_,?_⟩
   ·rw [Nat.sub_mul];omega
   ·rw [← ht,List.drop_take,List.drop_drop,Nat.sub_mul]
def tlO (base:Nat) (v:Value) (e:TypeId) (sz n:Nat) (xs:List Value):Own:=.grp v.ownBlock.toList λw9=>jq w9 base e sz v n xs
theorem I7 {w0 w:World} {base:Nat} {v:Value} {e:TypeId} {sz n:Nat} {xs:List Value} (h:jq w base e sz v n xs):(tlO base v e sz n xs).holds w0 w:=by
 refine ⟨λk hk=>?_,λw' hw=>h.at hw⟩
 rcases h.2 with ⟨rfl,_⟩|⟨g,o,cap,cur,fz,rfl,_,hg,_⟩
 ·simp [Value.ownBlock] at hk
 ·simp [Value.ownBlock] at hk
  subst hk
  exact(ax1.1 hg).1
theorem YH {base:Nat} {v:Value} {e:TypeId} {sz n:Nat} {xs:List Value} {k:Nat}:(tlO base v e sz n xs).at k↔v.ownBlock=some k:=by
 show k∈v.ownBlock.toList↔_
 simp
theorem St.said {w0 w:World} {B:List Own} (s:St w0 B w) (i:Nat) {p q:Own} (hi:B[i]? = some p) (hold:q.holds w0 w) (hk:∀ k,q.at k->p.at k):St w0 (B.set i q) w:=
 s.upd i hi rfl rfl rfl (as1 _) hold (λk h=>.inl (hk k h)) λ_ _ _=>rfl
theorem St.tail {w0 w:World} {B:List Own} {v:Value} {e:TypeId} {sz n:Nat} {xs:List Value} (s:St w0 B w) (i:Nat) (hi:B[i]? = some (.sl v e sz n xs)):St w0 (B.set i (tlO w0.heap.size v e sz n xs)) w:=
 s.said i hi (I7 (.of_owns (s.getSl i hi))) λk h=>Own.at_sl.2 (YH.1 h)
section
variable {ro:Option Nat} {P:Program} {ops:Array Oper} {Q:Act->World->Prop} {l:List Oper} {a:Act} {w w0:World} {N:Nat} {L:List (Nat × Value)} {Df:List Deferred} {B:List Own} {d:Tmp} {ty:TypeId} {pos:String} {af:Array Edge} {x y:Operand} {t e:TypeId}
end
section
variable {ro:Option Nat} {P:Program} {ops:Array Oper} {Q:Act->World->Prop} {l:List Oper} {a:Act} {w w0:World} {N:Nat} {L:List (Nat × Value)} {Df:List Deferred} {B:List Own} {d:Tmp} {ty:TypeId} {pos:String} {af:Array Edge} {x y:Operand} {t t' e:TypeId}
end
theorem jq.one {w:World} {base:Nat} {e:TypeId} {sz:Nat} {v:Value} {n:Nat} {xs:List Value} (h:jq w base e sz v n xs):v.oneCell'=true:=by
 rcases h.2 with ⟨rfl,_⟩|⟨g,o,cap,cur,fz,rfl,_⟩<;>rfl
theorem S6.take {K:List O2} {w:World} (h:S6 K w) (k:Nat):S6 (K.take k) w:=λx hx=>h x (List.mem_of_mem_take hx)
structure CB (c:Cn) (m:Nat):Prop where
 hs:∀ h,c.hs h<=m
 lost:c.lost<=m
 hops:c.hops<=m
theorem CB.mono {c:Cn} {m n:Nat} (h:CB c m) (hm:m<=n):CB c n:=⟨λx=>av5 (h.hs x) hm,av5 h.lost hm,av5 h.hops hm⟩
theorem CB.zero:CB .zero 0:=⟨λ_=>as1 _,as1 _,as1 _⟩
theorem CB.wk {c:Cn} {m:Nat} (h:CB c m):CB (c.add Zx) m:=⟨λx=>h.hs x,h.lost,h.hops⟩
theorem CB.one {c:Cn} {m:Nat} (h:CB c m) (o:Ot):CB (c.add (OT (λ_=>.zero) o)) (m+1):=by
 have h1:=h.hs;have h2:=h.lost;have h3:=h.hops
 unfold OT
 split
 ·refine ⟨λx=>?_,?_,?_⟩
  ·have:=h1 x;show c.hs x+(if x=o.h.toNat then 1 else 0)<=m+1;split<;>omega
  ·show c.lost+0<=m+1;omega
  ·show c.hops+0<=m+1;omega
 ·split
  ·refine ⟨λx=>?_,?_,?_⟩
   ·have:=h1 x;show c.hs x+0<=m+1;omega
   ·show c.lost+0<=m+1;omega
   ·show c.hops+0<=m+1;omega
  ·split
   ·refine ⟨λx=>?_,?_,?_⟩
    ·have:=h1 x;show c.hs x+0<=m+1;omega
    ·show c.lost+0<=m+1;omega
    ·show c.hops+1<=m+1;omega
   ·refine ⟨λx=>?_,?_,?_⟩
    ·have:=h1 x;show c.hs x+0<=m+1;omega
    ·show c.lost+1<=m+1;omega
    ·show c.hops+0<=m+1;omega
theorem St.o3 {w0 w:World} {a b c:Own} {B:List Own} (s:St w0 (a::b::c::B) w):St w0 (c::a::B) w:=
 (s.perm (ax2 (l₁:=[a,b]))).pick _ (ap7 _ (ap7 _ (as2 _ _)))
section
variable {P:Program} {ρ:Operand->Value} {d:Option Tmp} {ty:TypeId} {pos:String} {af:Array Edge} {g:Option (Nat × Bool)} {x y z u:Operand} {t:TypeId}
end
end Go.Proofs.YthmlflaiidhoiaaGreatDoor
