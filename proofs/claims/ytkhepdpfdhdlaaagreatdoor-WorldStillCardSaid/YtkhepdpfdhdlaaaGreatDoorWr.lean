/- Messages: which may be, their parts and bytes; no Go in it. -/
import Derived.Test.YtkhepdpfdhdlaaaGreatDoorSp
set_option linter.unusedVariables false
set_option linter.unusedSimpArgs false
set_option linter.unusedSectionVars false
namespace Go.Proofs.YtkhepdpfdhdlaaaGreatDoor
structure Mg where
 k:Int
 i:Id
 t:dN
 l:List dN
 n:Int
 o:ByteArray
 d:ByteArray
theorem So {a b:Mg} (hk:a.k=b.k) (hi:a.i=b.i) (ht:a.t=b.t) (hl:a.l=b.l) (hn:a.n=b.n) (ho:a.o=b.o) (hd:a.d=b.d):a=b:=by
 cases a;cases b;simp_all
def Ut (a b:Mg):Bool:=decide (a.k=b.k) && decide (a.i=b.i) && decide (a.t=b.t) && decide (a.l=b.l) && decide (a.n=b.n) && decide (a.o=b.o) && decide (a.d=b.d)
theorem JN (a b:Mg):Ut a b=true↔a=b:=by
 unfold Ut
 simp only [as0,as5]
 constructor
 ·rintro ⟨⟨⟨⟨⟨⟨h1,h2⟩,h3⟩,h4⟩,h5⟩,h6⟩,h7⟩;exact So h1 h2 h3 h4 h5 h6 h7
 ·rintro rfl;simp
def mZ:Mg:=⟨0,0#256,(0,0#256,0),[],0,⟨#[]⟩,⟨#[]⟩⟩
def eh (m:Mg) (v:Value):Array Value:=(Value.int .i64 m.k::((aI m.i).toList++((df m.t).toList++[v,.int .i64 m.n,.string m.o,.string m.d]))).toArray
theorem kz (a:Id):(aI a).toList.length=32:=by rw [as7,aC]
theorem LX (e:dN):(df e).toList.length=34:=by rw [as7,ce]
@[simp] theorem eJ (m:Mg) (v:Value):(eh m v).size=71:=by
  simp only [eh,List.size_toArray,av0,as2,kz,LX,av1]
theorem lJ (m:Mg) (v:Value):(eh m v).toList=Value.int .i64 m.k::((aI m.i).toList++((df m.t).toList++[v,.int .i64 m.n,.string m.o,.string m.d])):=rfl
theorem CL (m:Mg) (v:Value):(eh m v)[0]? = some (.int .i64 m.k):=rfl
theorem l4 (m:Mg) (v:Value) (j:Nat):(eh m v)[67+j]? = ([v,.int .i64 m.n,.string m.o,.string m.d]:List Value)[j]? := by
 rw [← ay4,lJ,show 67+j=(66+j)+1 from by omega,ax4,av2 (by rw [kz];omega),kz,av2 (by rw [LX];omega),LX]
 congr 1;omega
theorem iJ (m:Mg) (v:Value):(eh m v)[67]? = some v:=l4 m v 0
theorem gz (m:Mg) (v:Value):(eh m v)[68]? = some (.int .i64 m.n):=l4 m v 1
theorem m6 (m:Mg) (v:Value):(eh m v)[69]? = some (.string m.o):=l4 m v 2
theorem qQ (m:Mg) (v:Value):(eh m v)[70]? = some (.string m.d):=l4 m v 3
theorem oH {C:Array Value} {a n:Nat} {D:Array Value} (h:(C.toList.drop a).take n=D.toList):C.extract a (a+n)=D:=by
 apply Array.ext'
 rw [← h,Array.toList_extract,List.extract_eq_take_drop,Nat.add_sub_cancel_left]
theorem lu (m:Mg) (v:Value):(eh m v).extract 1 (1+32)=aI m.i:=oH (by
 rw [lJ,List.drop_succ_cons,List.drop_zero,List.take_append_of_le_length (by rw [kz];omega),au4 (by rw [kz];omega)])
theorem gO (m:Mg) (v:Value):(eh m v).extract 33 (33+34)=df m.t:=oH (by
 rw [lJ,show (33:Nat)=32+1 from rfl,List.drop_succ_cons,List.drop_append_of_le_length (by rw [kz];omega),List.drop_of_length_le (by rw [kz];omega),List.nil_append,List.take_append_of_le_length (by rw [LX];omega),au4 (by rw [LX];omega)])
theorem pc (m:Mg) (v:Value) (hv:v.oneCell'=true):∀ u∈(eh m v).toList,u.oneCell'=true:=by
 intro u hu
 rw [lJ] at hu
 simp only [at1,av4,at4,or_false] at hu
 rcases hu with rfl|hu|hu|rfl|rfl|rfl|rfl
 ·rfl
 ·exact mz _ _ hu
 ·exact jp _ _ hu
 ·exact hv
 ·rfl
 ·rfl
 ·rfl
def C5 (k:Int):Bool:=decide (1<=k) && decide (k<=10)
def qg (k:Int):Bool:=decide (2<=k) && decide (k<=10)
def oY (k:Int):Bool:=decide (2<=k) && decide (k<=6)
def mS (k:Int):Bool:=decide (k=1)
def li (k:Int):Bool:=decide (k=1) || decide (k=2) || decide (k=4) || (decide (8<=k) && decide (k<=10))
def sV (k:Int):Bool:=decide (k=3) || decide (k=4) || decide (k=6)
def tu (k:Int):Bool:=decide (k=1)
def eH (k:Int):Array Value:=#[.bool (qg k),.bool (oY k),.bool (mS k),.bool (li k),.bool (sV k),.bool (tu k)]
def c1 (m:Mg):Bool:=bif qg m.k then true else decide (m.i=0#256)
def c2 (m:Mg):Bool:=bif oY m.k then pk m.t else decide (m.t=(0,0#256,0))
def c3 (m:Mg):Bool:=bif mS m.k then dH m.l else decide (m.l.length=0)
def c4 (m:Mg):Bool:=bif li m.k then (decide (0<=m.n) && decide (m.n<=1099511627776)) else decide (m.n=0)
def c5 (m:Mg):Bool:=bif sV m.k then decide (m.o.size=16) else decide (m.o=⟨#[]⟩)
def c6 (m:Mg):Bool:=bif tu m.k then decide (m.d.size<=64) else decide (m.d=⟨#[]⟩)
def dI (m:Mg):Bool:=C5 m.k && c1 m && c2 m && c3 m && c4 m && c5 m && c6 m
def qZ (n:Int):List Nat:=(List.range 8).map λi=>n.toNat / 256 ^ i % 256
theorem pG (n:Int):(qZ n).length=8:=by simp [qZ]
theorem NU (n:Int):∀ x∈qZ n,x<256:=λx hx=>by
 obtain ⟨i,_,rfl⟩:=aw4.1 hx;exact az1 _ (by omega)
def Xp (r:ByteArray):Nat->Nat
 |0=>0
 |k+1=>Xp r k+sb r k*256 ^ k
def YH (r:ByteArray):Nat:=Xp r 8
def FG (k:Int) (i:Id):List Nat:=bif qg k then RF i else []
def FB (k:Int) (t:dN):List Nat:=bif oY k then 1::jh t else []
def Fd (k:Int) (l:List dN):List Nat:=bif mS k then kv l else []
def Fm (k:Int) (n:Int):List Nat:=bif li k then qZ n else []
def YK (m:Mg):List Nat:=[m.k.toNat]++FG m.k m.i++FB m.k m.t++Fd m.k m.l++Fm m.k m.n
def cL (m:Mg):ByteArray:=nM (YK m)++m.o++m.d
def okI (k:Int) (r:ByteArray):Bool := !qg k || decide (32<=r.size)
def vI (k:Int) (r:ByteArray):Id:=bif qg k then yr (sb r) else 0#256
def rI (k:Int) (r:ByteArray):ByteArray:=bif qg k then tJ r 32 else r
def okT (k:Int) (r:ByteArray):Bool := !oY k || (decide ((sm r).1=0) && decide ((sm r).2.1.length=1))
def vT (k:Int) (r:ByteArray):dN:=bif oY k then (sm r).2.1.getD 0 (0,0#256,0) else (0,0#256,0)
def rT (k:Int) (r:ByteArray):ByteArray:=bif oY k then tJ r (sm r).2.2 else r
def okS (k:Int) (r:ByteArray):Bool := !mS k || decide ((sm r).1=0)
def vS (k:Int) (r:ByteArray):List dN:=bif mS k then (sm r).2.1 else []
def rS (k:Int) (r:ByteArray):ByteArray:=bif mS k then tJ r (sm r).2.2 else r
def okN (k:Int) (r:ByteArray):Bool := !li k || (decide (8<=r.size) && decide (YH r<=1099511627776))
def vN (k:Int) (r:ByteArray):Int:=bif li k then (YH r:Int) else 0
def rN (k:Int) (r:ByteArray):ByteArray:=bif li k then tJ r 8 else r
def ag1 (k:Int) (r:ByteArray):Bool := !sV k || decide (16<=r.size)
def vO (k:Int) (r:ByteArray):ByteArray:=bif sV k then r.extract 0 16 else ⟨#[]⟩
def rO (k:Int) (r:ByteArray):ByteArray:=bif sV k then tJ r 16 else r
def okD (k:Int) (r:ByteArray):Bool := !tu k || decide (r.size<=64)
def vD (k:Int) (r:ByteArray):ByteArray:=bif tu k then r else ⟨#[]⟩
def rDw (k:Int) (r:ByteArray):ByteArray:=bif tu k then ⟨#[]⟩ else r
def kS (s:ByteArray):Int:=((sb s 0:Nat):Int)
def q0 (s:ByteArray):ByteArray:=tJ s 1
def q1 (s:ByteArray):ByteArray:=rI (kS s) (q0 s)
def q2 (s:ByteArray):ByteArray:=rT (kS s) (q1 s)
def q3 (s:ByteArray):ByteArray:=rS (kS s) (q2 s)
def q4 (s:ByteArray):ByteArray:=rN (kS s) (q3 s)
def q5 (s:ByteArray):ByteArray:=rO (kS s) (q4 s)
def q6 (s:ByteArray):ByteArray:=rDw (kS s) (q5 s)
def okP (s:ByteArray):Bool:=decide (1<=s.size) && C5 (kS s) && okI (kS s) (q0 s) && okT (kS s) (q1 s) && okS (kS s) (q2 s) && okN (kS s) (q3 s) && ag1 (kS s) (q4 s) && okD (kS s) (q5 s) && decide (q6 s=⟨#[]⟩)
def mP (s:ByteArray):Mg:=⟨kS s,vI (kS s) (q0 s),vT (kS s) (q1 s),vS (kS s) (q2 s),vN (kS s) (q3 s),vO (kS s) (q4 s),vD (kS s) (q5 s)⟩
def Y7 (s:ByteArray):Mg:=bif okP s then mP s else mZ
def ah0 (s:ByteArray):Int:=bif okP s then 0 else 5
theorem i9 {m:Mg} (h:dI m=true):C5 m.k=true/\c1 m=true/\c2 m=true/\c3 m=true/\c4 m=true/\c5 m=true/\c6 m=true:=by
 unfold dI at h
 simp only [as0] at h
 obtain ⟨⟨⟨⟨⟨⟨h0,h1⟩,h2⟩,h3⟩,h4⟩,h5⟩,h6⟩:=h
 exact ⟨h0,h1,h2,h3,h4,h5,h6⟩
theorem xN (k:Int):C5 k=true↔1<=k/\k<=10:=by simp [C5]
theorem lY (k:Int):∀ v∈(eH k).toList,v.oneCell'=true:=by
 intro v hv
 simp only [eH,at1,at4,or_false] at hv
 rcases hv with rfl|rfl|rfl|rfl|rfl|rfl<;>rfl
theorem Ip {k:Int} (h:C5 k=false):¬ (1<=k/\k<=10):=λhk=>by
 rw [(xN k).2 hk] at h;cases h
theorem MM {k:Int} (h:C5 k=false):eH k=eH 0:=by
 have hk:=Ip h
 have h1:qg k=false:=by unfold qg;simp;omega
 have h2:oY k=false:=by unfold oY;simp;omega
 have h3:mS k=false:=by unfold mS;simp;omega
 have h4:li k=false:=by unfold li;simp;omega
 have h5:sV k=false:=by unfold sV;simp;omega
 have h6:tu k=false:=by unfold tu;simp;omega
 unfold eH;rw [h1,h2,h3,h4,h5,h6];rfl
theorem fp (k:Int) (n:Int) (v:Value) (b:Nat) (r:List MapEntry) (i:Nat):Instr.findNow (.int .i64) (.int .i64 k) ({key:=.int .i64 n,val:=v,born:=b}::r) i=if k=n then some (some (i,v)) else Instr.findNow (.int .i64) (.int .i64 k) r (i+1):=by
 rw [Instr.findNow]
 show (match (if IntKind.i64=IntKind.i64 then some (k == n) else none) with|some true=>some (some (i,v))|some false=>Instr.findNow (.int .i64) (.int .i64 k) r (i+1)|none=>none)=_
 rw [if_pos rfl]
 by_cases h:k=n
 ·subst h;simp
 ·have:(k == n)=false:=by simpa using h
  rw [this,if_neg h]
def Eb:List MapEntry:=[⟨.int .i64 1,.agg (eH 1),0⟩,⟨.int .i64 2,.agg (eH 2),1⟩,⟨.int .i64 3,.agg (eH 3),2⟩,⟨.int .i64 4,.agg (eH 4),3⟩,⟨.int .i64 5,.agg (eH 5),4⟩,⟨.int .i64 6,.agg (eH 6),5⟩,⟨.int .i64 7,.agg (eH 7),6⟩,⟨.int .i64 8,.agg (eH 8),7⟩,⟨.int .i64 9,.agg (eH 9),8⟩,⟨.int .i64 10,.agg (eH 10),9⟩]
theorem zM (k:Int):Instr.findNow (.int .i64) (.int .i64 k) Eb 0=if k=1 then some (some (0,.agg (eH 1))) else if k=2 then some (some (1,.agg (eH 2))) else if k=3 then some (some (2,.agg (eH 3))) else if k=4 then some (some (3,.agg (eH 4))) else if k=5 then some (some (4,.agg (eH 5)))
 else if k=6 then some (some (5,.agg (eH 6))) else if k=7 then some (some (6,.agg (eH 7))) else if k=8 then some (some (7,.agg (eH 8))) else if k=9 then some (some (8,.agg (eH 9))) else if k=10 then some (some (9,.agg (eH 10))) else some none:=by
 unfold Eb
 rw [fp,fp,fp,fp,fp,fp,fp,fp,fp,fp,Instr.findNow]
theorem Ax (k:Int):(∃ j,Instr.findNow (.int .i64) (.int .i64 k) Eb 0=some (some (j,.agg (eH k)))/\C5 k=true)∨(Instr.findNow (.int .i64) (.int .i64 k) Eb 0=some none/\Value.agg (eH k)=.agg (eH 0)/\C5 k=false):=by
 rw [zM]
 cases h:C5 k
 ·have hk:=Ip h
  refine .inr ⟨?_,ar8 Value.agg (MM h),rfl⟩
  rw [if_neg (by omega),if_neg (by omega),if_neg (by omega),if_neg (by omega),if_neg (by omega),if_neg (by omega),if_neg (by omega),if_neg (by omega),if_neg (by omega),if_neg (by omega)]
 ·have hk:=(xN k).1 h
  have:k=1∨k=2∨k=3∨k=4∨k=5∨k=6∨k=7∨k=8∨k=9∨k=10:=by omega
  rcases this with rfl|rfl|rfl|rfl|rfl|rfl|rfl|rfl|rfl|rfl
  ·exact .inl ⟨0,by simp,rfl⟩
  ·exact .inl ⟨1,by simp,rfl⟩
  ·exact .inl ⟨2,by simp,rfl⟩
  ·exact .inl ⟨3,by simp,rfl⟩
  ·exact .inl ⟨4,by simp,rfl⟩
  ·exact .inl ⟨5,by simp,rfl⟩
  ·exact .inl ⟨6,by simp,rfl⟩
  ·exact .inl ⟨7,by simp,rfl⟩
  ·exact .inl ⟨8,by simp,rfl⟩
  ·exact .inl ⟨9,by simp,rfl⟩
theorem tT:eh mZ (.slice none 0 0)=(Value.int .i64 0::(List.replicate 32 (Value.int .u8 0)++(Value.int .i64 0::(List.replicate 32 (Value.int .u8 0)++[Value.int .i64 0])++[Value.slice none 0 0,.int .i64 0,.string ⟨#[]⟩,.string ⟨#[]⟩]))).toArray:=by
 unfold eh
 show (Value.int .i64 0::((aI 0#256).toList++((df (0,0#256,0)).toList++_))).toArray=_
 rw [iy]
 have:(aI 0#256).toList=List.replicate 32 (Value.int .u8 0):=by
  have:=iy
  unfold df at this
  have h2:=ar8 Array.toList this
  simp only [List.cons.injEq,true_and] at h2
  exact List.append_cancel_right h2
 rw [this];rfl
def fZ:List (List Value):=[[.bool false],[.bool false],[.bool false],[.bool false],[.bool false],[.bool false]]
theorem Ff {m:Mg} (h:c4 m=true):0<=m.n:=by
 unfold c4 at h
 cases hk:li m.k
 ·rw [hk] at h;have:=ar4 h;omega
 ·rw [hk] at h;simp only [cond_true,as0,as5] at h;exact h.1
def E7 (n:Int) (k i:Nat):Nat:=if i<k then n.toNat / 256 ^ i % 256 else 0
theorem GK (n:Int):cG (λ_=>0) 8=cG (E7 n 0) 8:=rfl
theorem MG (n:Int) (h0:0<=n) (k:Nat) (hk:k<8):(n.fdiv (2 ^ (min (8*(k:Int)).toNat IntKind.i64.bits))) % 256=((n.toNat / 256 ^ k % 256:Nat):Int):=by
 have e:min (8*(k:Int)).toNat IntKind.i64.bits=8*k:=by
  have h64:IntKind.i64.bits=64:=rfl
  rw [h64];omega
 obtain ⟨m,rfl⟩:=Int.eq_ofNat_of_zero_le h0
 rw [e,show (2:Int) ^ (8*k)=((256 ^ k:Nat):Int) from by rw [Int.pow_mul,Int.natCast_pow];rfl,Int.toNat_natCast,Int.fdiv_eq_ediv_of_nonneg _ (Int.natCast_nonneg _)]
 omega
theorem Fn (n:Int) (k:Nat):(cG (E7 n k) 8).setIfInBounds k (.int .u8 ((n.toNat / 256 ^ k % 256:Nat):Int))=cG (E7 n (k+1)) 8:=by
 rw [B2]
 refine xw λi hi=>?_
 unfold E7
 by_cases h:i=k
 ·subst h;simp
 ·by_cases h2:i<k
  ·rw [if_neg h,if_pos h2,if_pos (by omega)]
  ·rw [if_neg h,if_neg h2,if_neg (by omega)]
theorem Hb (n:Int):qh (E7 n 8) 8=nM (qZ n):=by
 unfold qh nM qZ
 rw [List.map_map]
 congr 2
def mW (m:Mg):List Nat:=[m.k.toNat]
def yb (m:Mg):List Nat:=mW m++FG m.k m.i
def Cd (m:Mg):List Nat:=yb m++FB m.k m.t
def Du (m:Mg):List Nat:=Cd m++Fd m.k m.l
def J5 (m:Mg):List Nat:=Du m++Fm m.k m.n
theorem JO (k:Int) (i:Id):(FG k i).length<=32:=by unfold FG;cases qg k<;>simp [mK]
theorem Ja (k:Int) (t:dN):(FB k t).length<=34:=by
 unfold FB;have:=(kW t).1
 cases oY k
 ·simp
 ·simp only [cond_true,av0];omega
theorem HE (k n:Int):(Fm k n).length<=8:=by unfold Fm;cases li k<;>simp [pG]
theorem KB (k:Int) (l:List dN) (h:l.length<=4):(Fd k l).length<=133:=by
 unfold Fd;have:=oC l
 cases mS k
 ·simp
 ·simp only [cond_true,kv,av0];omega
theorem L7 {m:Mg} (h:c3 m=true):m.l.length<=4:=by
 unfold c3 at h
 cases hk:mS m.k
 ·rw [hk] at h;have:=ar4 h;omega
 ·rw [hk] at h;exact((fc _).1 h).2.1
theorem KX {m:Mg} (h:dI m=true):(J5 m).length<=208/\(Du m).length<=200/\(Cd m).length<=67/\(yb m).length<=33/\m.o.size<=16/\m.d.size<=64:=by
 obtain ⟨h0,h1,h2,h3,h4,h5,h6⟩:=i9 h
 have a1:=JO m.k m.i;have a2:=Ja m.k m.t;have a3:=KB m.k m.l (L7 h3);have a4:=HE m.k m.n
 refine ⟨?_,?_,?_,?_,?_,?_⟩
 ·simp only [J5,Du,Cd,yb,mW,as2,av0,av1];omega
 ·simp only [Du,Cd,yb,mW,as2,av0,av1];omega
 ·simp only [Cd,yb,mW,as2,av0,av1];omega
 ·simp only [yb,mW,as2,av0,av1];omega
 ·unfold c5 at h5
  cases hk:sV m.k
  ·rw [hk] at h5;rw [ar4 h5];decide
  ·rw [hk] at h5;have:=ar4 h5;omega
 ·unfold c6 at h6
  cases hk:tu m.k
  ·rw [hk] at h6;rw [ar4 h6];decide
  ·rw [hk] at h6;exact ar4 h6
theorem xj (ns:List Nat) (h:∀ n∈ns,n<256):Lib.strCells (nM ns)=je ns:=by
 unfold Lib.strCells nM je
 simp only [List.map_map]
 refine List.map_congr_left λn hn=>?_
 have:=h n hn
 show Value.int .u8 ((UInt8.ofNat n).toNat:Int)=_
 rw [UInt8.toNat_ofNat',Nat.mod_eq_of_lt (by omega)]
theorem Qr {m:Mg} (h:qg m.k=true):je (mW m)++(cG (bQ m.i) 32).toList=je (yb m)/\(mW m).length+32=(yb m).length:=by
 have e:(cG (bQ m.i) 32).toList=je (RF m.i):=by rw [← dU,t6]
 unfold yb FG;rw [h,e,gV];exact ⟨rfl,by simp [mK]⟩
theorem Q0 {m:Mg} (h:qg m.k=false):mW m=yb m:=by unfold yb FG;rw [h];simp
theorem Qp {m:Mg} (h:oY m.k=true):je (yb m)++je (1::jh m.t)=je (Cd m)/\(yb m).length+(1::jh m.t).length=(Cd m).length:=by
 unfold Cd FB;rw [h,gV];exact ⟨rfl,by simp⟩
theorem QV {m:Mg} (h:oY m.k=false):yb m=Cd m:=by unfold Cd FB;rw [h];simp
theorem QD {m:Mg} (h:mS m.k=true):je (Cd m)++je (kv m.l)=je (Du m)/\(Cd m).length+(kv m.l).length=(Du m).length:=by
 unfold Du Fd;rw [h,gV];exact ⟨rfl,by simp⟩
theorem Rl {m:Mg} (h:mS m.k=false):Cd m=Du m:=by unfold Du Fd;rw [h];simp
theorem RE {m:Mg} (h:li m.k=true):je (Du m)++je (qZ m.n)=je (J5 m)/\(Du m).length+(qZ m.n).length=(J5 m).length:=by
 unfold J5 Fm;rw [h,gV];exact ⟨rfl,by simp⟩
theorem Rt {m:Mg} (h:li m.k=false):Du m=J5 m:=by unfold J5 Fm;rw [h];simp
theorem XP {m:Mg} (h:c2 m=true) (hk:oY m.k=true):pk m.t=true:=by unfold c2 at h;rw [hk] at h;exact h
theorem Yq {m:Mg} (h:c3 m=true) (hk:mS m.k=true):dH m.l=true:=by unfold c3 at h;rw [hk] at h;exact h
theorem Wa {m:Mg} (h:c4 m=true) (hk:li m.k=true):0<=m.n/\m.n<=1099511627776:=by unfold c4 at h;rw [hk] at h;simpa using h
theorem FF {t:dN} (h:pk t=true):nP [t]=nM (1::jh t):=by
 have hr:dH [t]=true:=(fc _).2 ⟨by simp,by simp,by simpa using h⟩
 rw [CY hr];simp [zu,kv]
theorem NC {t:dN} (h:pk t=true):∀ n∈(1::jh t),n<256:=λn hn=>by
 rcases at1.1 hn with rfl|hn
 ·decide
 ·exact C7 t h n hn
theorem G5 {l:List dN} (h:dH l=true):∀ n∈kv l,n<256:=λn hn=>by
 obtain ⟨h1,h2,h3⟩:=(fc l).1 h
 rcases at1.1 hn with rfl|hn
 ·omega
 ·obtain ⟨e,he,hn⟩:=List.mem_flatMap.1 hn;exact C7 e (h3 e he) n hn
def VC:List (List Value):=[[.int .i64 0],List.replicate 32 (.int .u8 0),.int .i64 0::(List.replicate 32 (.int .u8 0)++[.int .i64 0]),[.slice none 0 0],[.int .i64 0],[.string ⟨#[]⟩],[.string ⟨#[]⟩]]
theorem z34:(Value.int .i64 0::(List.replicate 32 (Value.int .u8 0)++[Value.int .i64 0]))=(df (0,0#256,0)).toList:=by rw [iy]
variable {P:Program} {ρ:Operand->Value} {d:Option Tmp} {ty:TypeId} {pos:String} {af:Array Edge} {g:Option (Nat × Bool)} {x y:Operand} {t:TypeId}
def Pch (t:TypeId):List PanicEntry:=[{v:=.iface t (.int .i64 5),recovered:=false}]
def MR (t:TypeId) (ok:Bool) (T:Value->World->Prop) (F:World->Prop):Ending->World->Prop:=λe w=>(ok=true/\∃ v,e=.returned v/\T v w)∨(ok=false/\∃ ch,e=.panicked ch/\ch=Pch t/\F w)
theorem MR.no {t:TypeId} {ok:Bool} {T:Value->World->Prop} {F:World->Prop} {f:FuncId} {a:Array Value} {w:World} (h:Calls P f a w (MR t ok T F)) (hok:ok=false):Calls P f a w (λe w'=>∃ ch,e=.panicked ch/\(ch=Pch t/\F w')):=
 h.mono λe w' hx=>by
  rcases hx with ⟨h0,_⟩|⟨_,ch,r⟩
  ·rw [hok] at h0;cases h0
  ·exact ⟨ch,r⟩
def p1 (s:ByteArray):Mg:={mZ with k:=kS s}
def p2 (s:ByteArray):Mg:={p1 s with i:=vI (kS s) (q0 s)}
def p3 (s:ByteArray):Mg:={p2 s with t:=vT (kS s) (q1 s)}
def p4 (s:ByteArray):Mg:={p3 s with l:=vS (kS s) (q2 s)}
section
variable {s:ByteArray}
end
end Go.Proofs.YtkhepdpfdhdlaaaGreatDoor
namespace Go.Proofs.YtkhepdpfdhdlaaaGreatDoor
def t5 (m:Mg) (v:Value) (r:ByteArray) (ok:Bool):Array Value:=((eh m v).toList++([.string r,.bool ok]:List Value)).toArray
theorem ZT (m:Mg) (v:Value):(eh m v).toList.length=71:=by rw [as7,eJ]
@[simp] theorem Zh (m:Mg) (v:Value) (r:ByteArray) (ok:Bool):(t5 m v r ok).size=73:=by
  simp only [t5,List.size_toArray,as2,ZT,av0,av1]
section
variable {P:Program} {ρ:Operand->Value} {d:Option Tmp} {ty:TypeId} {pos:String} {af:Array Edge} {g:Option (Nat × Bool)} {x y:Operand} {t:TypeId}
end
section
variable {s:ByteArray}
end
def hN (r:ByteArray):Nat->Nat
 |0=>0
 |d+1=>256*hN r d+sb r (5 - d)
def nd (s:ByteArray):Nat:=(bif li (kS s) then 8 else 0)+(bif sV (kS s) then 16 else 0)
section
variable {s:ByteArray}
end
section
variable {s:ByteArray}
end
section
variable {s:ByteArray}
end
end Go.Proofs.YtkhepdpfdhdlaaaGreatDoor
namespace Go.Proofs.YtkhepdpfdhdlaaaGreatDoor
open Go.RowKit Go.ChangeShapes Go.WideShapes Go.ChangeAt
end Go.Proofs.YtkhepdpfdhdlaaaGreatDoor
