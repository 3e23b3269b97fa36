/- Messages: which may be, their parts and bytes; no Go in it. -/
import Derived.Test.YtkhepdpfdhdlaaaGreatDoorSp
set_option linter.unusedVariables false
set_option linter.unusedSimpArgs false
set_option linter.unusedSectionVars false
namespace Go.Proofs.YtkhepdpfdhdlaaaGreatDoor
structure Mg where
 k:Int
 i:Id
 t:cO
 l:List cO
 n:Int
 o:ByteArray
 d:ByteArray
theorem OP {a b:Mg} (hk:a.k=b.k) (hi:a.i=b.i) (ht:a.t=b.t) (hl:a.l=b.l) (hn:a.n=b.n) (ho:a.o=b.o) (hd:a.d=b.d):a=b:=by
 cases a;cases b;simp_all
def Qh (a b:Mg):Bool:=decide (a.k=b.k) && decide (a.i=b.i) && decide (a.t=b.t) && decide (a.l=b.l) && decide (a.n=b.n) && decide (a.o=b.o) && decide (a.d=b.d)
theorem Ii (a b:Mg):Qh a b=true↔a=b:=by
 unfold Qh
 simp only [Yw,YB]
 constructor
 ·rintro ⟨⟨⟨⟨⟨⟨h1,h2⟩,h3⟩,h4⟩,h5⟩,h6⟩,h7⟩;exact OP h1 h2 h3 h4 h5 h6 h7
 ·rintro rfl;simp
def mZ:Mg:=⟨0,0#256,(0,0#256,0),[],0,⟨#[]⟩,⟨#[]⟩⟩
def cW (m:Mg) (v:Value):Array Value:=(Value.int .i64 m.k::((aA m.i).toList++((co m.t).toList++[v,.int .i64 m.n,.string m.o,.string m.d]))).toArray
theorem i4 (a:Id):(aA a).toList.length=32:=by rw [YD,aF]
theorem Hi (e:cO):(co e).toList.length=34:=by rw [YD,br]
@[simp] theorem dp (m:Mg) (v:Value):(cW m v).size=71:=by
  simp only [cW,List.size_toArray,Y0,Yy,i4,Hi,Y1]
theorem ki (m:Mg) (v:Value):(cW m v).toList=Value.int .i64 m.k::((aA m.i).toList++((co m.t).toList++[v,.int .i64 m.n,.string m.o,.string m.d])):=rfl
theorem yN (m:Mg) (v:Value):(cW m v)[0]? = some (.int .i64 m.k):=rfl
theorem jW (m:Mg) (v:Value) (j:Nat):(cW m v)[67+j]? = ([v,.int .i64 m.n,.string m.o,.string m.d]:List Value)[j]? := by
 rw [← Zy,ki,show 67+j=(66+j)+1 from by omega,Zo,Y2 (by rw [i4];omega),i4,Y2 (by rw [Hi];omega),Hi]
 congr 1;omega
theorem gu (m:Mg) (v:Value):(cW m v)[67]? = some v:=jW m v 0
theorem fk (m:Mg) (v:Value):(cW m v)[68]? = some (.int .i64 m.n):=jW m v 1
theorem lh (m:Mg) (v:Value):(cW m v)[69]? = some (.string m.o):=jW m v 2
theorem oC (m:Mg) (v:Value):(cW m v)[70]? = some (.string m.d):=jW m v 3
theorem mX {C:Array Value} {a n:Nat} {D:Array Value} (h:(C.toList.drop a).take n=D.toList):C.extract a (a+n)=D:=by
 apply Array.ext'
 rw [← h,Array.toList_extract,List.extract_eq_take_drop,Nat.add_sub_cancel_left]
theorem jU (m:Mg) (v:Value):(cW m v).extract 1 (1+32)=aA m.i:=mX (by
 rw [ki,List.drop_succ_cons,List.drop_zero,List.take_append_of_le_length (by rw [i4];omega),YU (by rw [i4];omega)])
theorem fM (m:Mg) (v:Value):(cW m v).extract 33 (33+34)=co m.t:=mX (by
 rw [ki,show (33:Nat)=32+1 from rfl,List.drop_succ_cons,List.drop_append_of_le_length (by rw [i4];omega),List.drop_of_length_le (by rw [i4];omega),List.nil_append,List.take_append_of_le_length (by rw [Hi];omega),YU (by rw [Hi];omega)])
theorem kl (m:Mg) (v:Value) (hv:v.oneCell'=true):∀ u∈(cW m v).toList,u.oneCell'=true:=by
 intro u hu
 rw [ki] at hu
 simp only [YH,Y4,YK,or_false] at hu
 rcases hu with rfl|hu|hu|rfl|rfl|rfl|rfl
 ·rfl
 ·exact lw _ _ hu
 ·exact go _ _ hu
 ·exact hv
 ·rfl
 ·rfl
 ·rfl
def yF (k:Int):Bool:=decide (1<=k) && decide (k<=10)
def mQ (k:Int):Bool:=decide (2<=k) && decide (k<=10)
def lS (k:Int):Bool:=decide (2<=k) && decide (k<=6)
def kz (k:Int):Bool:=decide (k=1)
def jg (k:Int):Bool:=decide (k=1) || decide (k=2) || decide (k=4) || (decide (8<=k) && decide (k<=10))
def pP (k:Int):Bool:=decide (k=3) || decide (k=4) || decide (k=6)
def qg (k:Int):Bool:=decide (k=1)
def dV (k:Int):Array Value:=#[.bool (mQ k),.bool (lS k),.bool (kz k),.bool (jg k),.bool (pP k),.bool (qg k)]
def c1 (m:Mg):Bool:=bif mQ m.k then true else decide (m.i=0#256)
def c2 (m:Mg):Bool:=bif lS m.k then lY m.t else decide (m.t=(0,0#256,0))
def c3 (m:Mg):Bool:=bif kz m.k then cZ m.l else decide (m.l.length=0)
def c4 (m:Mg):Bool:=bif jg m.k then (decide (0<=m.n) && decide (m.n<=1099511627776)) else decide (m.n=0)
def c5 (m:Mg):Bool:=bif pP m.k then decide (m.o.size=16) else decide (m.o=⟨#[]⟩)
def c6 (m:Mg):Bool:=bif qg m.k then decide (m.d.size<=64) else decide (m.d=⟨#[]⟩)
def cR (m:Mg):Bool:=yF m.k && c1 m && c2 m && c3 m && c4 m && c5 m && c6 m
def oN (n:Int):List Nat:=(List.range 8).map λi=>n.toNat / 256 ^ i % 256
theorem nu (n:Int):(oN n).length=8:=by simp [oN]
theorem LN (n:Int):∀ x∈oN n,x<256:=λx hx=>by
 obtain ⟨i,_,rfl⟩:=Ze.1 hx;exact ZE _ (by omega)
def Rk (r:ByteArray):Nat->Nat
 |0=>0
 |k+1=>Rk r k+sb r k*256 ^ k
def RG (r:ByteArray):Nat:=Rk r 8
def C0 (k:Int) (i:Id):List Nat:=bif mQ k then M9 i else []
def CE (k:Int) (t:cO):List Nat:=bif lS k then 1::g7 t else []
def CY (k:Int) (l:List cO):List Nat:=bif kz k then i6 l else []
def B7 (k:Int) (n:Int):List Nat:=bif jg k then oN n else []
def TF (m:Mg):List Nat:=[m.k.toNat]++C0 m.k m.i++CE m.k m.t++CY m.k m.l++B7 m.k m.n
def cf (m:Mg):ByteArray:=mi (TF m)++m.o++m.d
def Xx (k:Int) (r:ByteArray):Bool := !mQ k || decide (32<=r.size)
def vI (k:Int) (r:ByteArray):Id:=bif mQ k then wH (sb r) else 0#256
def rI (k:Int) (r:ByteArray):ByteArray:=bif mQ k then qM r 32 else r
def XD (k:Int) (r:ByteArray):Bool := !lS k || (decide ((oP r).1=0) && decide ((oP r).2.1.length=1))
def vT (k:Int) (r:ByteArray):cO:=bif lS k then (oP r).2.1.getD 0 (0,0#256,0) else (0,0#256,0)
def rT (k:Int) (r:ByteArray):ByteArray:=bif lS k then qM r (oP r).2.2 else r
def Yj (k:Int) (r:ByteArray):Bool := !kz k || decide ((oP r).1=0)
def vS (k:Int) (r:ByteArray):List cO:=bif kz k then (oP r).2.1 else []
def rS (k:Int) (r:ByteArray):ByteArray:=bif kz k then qM r (oP r).2.2 else r
def XC (k:Int) (r:ByteArray):Bool := !jg k || (decide (8<=r.size) && decide (RG r<=1099511627776))
def vN (k:Int) (r:ByteArray):Int:=bif jg k then (RG r:Int) else 0
def rN (k:Int) (r:ByteArray):ByteArray:=bif jg k then qM r 8 else r
def WQ (k:Int) (r:ByteArray):Bool := !pP k || decide (16<=r.size)
def vO (k:Int) (r:ByteArray):ByteArray:=bif pP k then r.extract 0 16 else ⟨#[]⟩
def rO (k:Int) (r:ByteArray):ByteArray:=bif pP k then qM r 16 else r
def XQ (k:Int) (r:ByteArray):Bool := !qg k || decide (r.size<=64)
def vD (k:Int) (r:ByteArray):ByteArray:=bif qg k then r else ⟨#[]⟩
def Yg (k:Int) (r:ByteArray):ByteArray:=bif qg k then ⟨#[]⟩ else r
def kS (s:ByteArray):Int:=((sb s 0:Nat):Int)
def q0 (s:ByteArray):ByteArray:=qM s 1
def q1 (s:ByteArray):ByteArray:=rI (kS s) (q0 s)
def q2 (s:ByteArray):ByteArray:=rT (kS s) (q1 s)
def q3 (s:ByteArray):ByteArray:=rS (kS s) (q2 s)
def q4 (s:ByteArray):ByteArray:=rN (kS s) (q3 s)
def q5 (s:ByteArray):ByteArray:=rO (kS s) (q4 s)
def q6 (s:ByteArray):ByteArray:=Yg (kS s) (q5 s)
def WV (s:ByteArray):Bool:=decide (1<=s.size) && yF (kS s) && Xx (kS s) (q0 s) && XD (kS s) (q1 s) && Yj (kS s) (q2 s) && XC (kS s) (q3 s) && WQ (kS s) (q4 s) && XQ (kS s) (q5 s) && decide (q6 s=⟨#[]⟩)
def mP (s:ByteArray):Mg:=⟨kS s,vI (kS s) (q0 s),vT (kS s) (q1 s),vS (kS s) (q2 s),vN (kS s) (q3 s),vO (kS s) (q4 s),vD (kS s) (q5 s)⟩
def Tc (s:ByteArray):Mg:=bif WV s then mP s else mZ
def WL (s:ByteArray):Int:=bif WV s then 0 else 5
theorem gV {m:Mg} (h:cR m=true):yF m.k=true/\c1 m=true/\c2 m=true/\c3 m=true/\c4 m=true/\c5 m=true/\c6 m=true:=by
 unfold cR at h
 simp only [Yw] at h
 obtain ⟨⟨⟨⟨⟨⟨h0,h1⟩,h2⟩,h3⟩,h4⟩,h5⟩,h6⟩:=h
 exact ⟨h0,h1,h2,h3,h4,h5,h6⟩
theorem tP (k:Int):yF k=true↔1<=k/\k<=10:=by simp [yF]
theorem j3 (k:Int):∀ v∈(dV k).toList,v.oneCell'=true:=by
 intro v hv
 simp only [dV,YH,YK,or_false] at hv
 rcases hv with rfl|rfl|rfl|rfl|rfl|rfl<;>rfl
theorem DX {k:Int} (h:yF k=false):¬ (1<=k/\k<=10):=λhk=>by
 rw [(tP k).2 hk] at h;cases h
theorem LB {k:Int} (h:yF k=false):dV k=dV 0:=by
 have hk:=DX h
 have h1:mQ k=false:=by unfold mQ;simp;omega
 have h2:lS k=false:=by unfold lS;simp;omega
 have h3:kz k=false:=by unfold kz;simp;omega
 have h4:jg k=false:=by unfold jg;simp;omega
 have h5:pP k=false:=by unfold pP;simp;omega
 have h6:qg k=false:=by unfold qg;simp;omega
 unfold dV;rw [h1,h2,h3,h4,h5,h6];rfl
theorem ek (k:Int) (n:Int) (v:Value) (b:Nat) (r:List MapEntry) (i:Nat):Instr.findNow (.int .i64) (.int .i64 k) ({key:=.int .i64 n,val:=v,born:=b}::r) i=if k=n then some (some (i,v)) else Instr.findNow (.int .i64) (.int .i64 k) r (i+1):=by
 rw [Instr.findNow]
 show (match (if IntKind.i64=IntKind.i64 then some (k == n) else none) with|some true=>some (some (i,v))|some false=>Instr.findNow (.int .i64) (.int .i64 k) r (i+1)|none=>none)=_
 rw [if_pos rfl]
 by_cases h:k=n
 ·subst h;simp
 ·have:(k == n)=false:=by simpa using h
  rw [this,if_neg h]
def AE:List MapEntry:=[⟨.int .i64 1,.agg (dV 1),0⟩,⟨.int .i64 2,.agg (dV 2),1⟩,⟨.int .i64 3,.agg (dV 3),2⟩,⟨.int .i64 4,.agg (dV 4),3⟩,⟨.int .i64 5,.agg (dV 5),4⟩,⟨.int .i64 6,.agg (dV 6),5⟩,⟨.int .i64 7,.agg (dV 7),6⟩,⟨.int .i64 8,.agg (dV 8),7⟩,⟨.int .i64 9,.agg (dV 9),8⟩,⟨.int .i64 10,.agg (dV 10),9⟩]
theorem xF (k:Int):Instr.findNow (.int .i64) (.int .i64 k) AE 0=if k=1 then some (some (0,.agg (dV 1))) else if k=2 then some (some (1,.agg (dV 2))) else if k=3 then some (some (2,.agg (dV 3))) else if k=4 then some (some (3,.agg (dV 4))) else if k=5 then some (some (4,.agg (dV 5)))
 else if k=6 then some (some (5,.agg (dV 6))) else if k=7 then some (some (6,.agg (dV 7))) else if k=8 then some (some (7,.agg (dV 8))) else if k=9 then some (some (8,.agg (dV 9))) else if k=10 then some (some (9,.agg (dV 10))) else some none:=by
 unfold AE
 rw [ek,ek,ek,ek,ek,ek,ek,ek,ek,ek,Instr.findNow]
theorem xz (k:Int):(∃ j,Instr.findNow (.int .i64) (.int .i64 k) AE 0=some (some (j,.agg (dV k)))/\yF k=true)∨(Instr.findNow (.int .i64) (.int .i64 k) AE 0=some none/\Value.agg (dV k)=.agg (dV 0)/\yF k=false):=by
 rw [xF]
 cases h:yF k
 ·have hk:=DX h
  refine .inr ⟨?_,Yu Value.agg (LB h),rfl⟩
  rw [if_neg (by omega),if_neg (by omega),if_neg (by omega),if_neg (by omega),if_neg (by omega),if_neg (by omega),if_neg (by omega),if_neg (by omega),if_neg (by omega),if_neg (by omega)]
 ·have hk:=(tP k).1 h
  have:k=1∨k=2∨k=3∨k=4∨k=5∨k=6∨k=7∨k=8∨k=9∨k=10:=by omega
  rcases this with rfl|rfl|rfl|rfl|rfl|rfl|rfl|rfl|rfl|rfl
  ·exact .inl ⟨0,by simp,rfl⟩
  ·exact .inl ⟨1,by simp,rfl⟩
  ·exact .inl ⟨2,by simp,rfl⟩
  ·exact .inl ⟨3,by simp,rfl⟩
  ·exact .inl ⟨4,by simp,rfl⟩
  ·exact .inl ⟨5,by simp,rfl⟩
  ·exact .inl ⟨6,by simp,rfl⟩
  ·exact .inl ⟨7,by simp,rfl⟩
  ·exact .inl ⟨8,by simp,rfl⟩
  ·exact .inl ⟨9,by simp,rfl⟩
theorem rU:cW mZ (.slice none 0 0)=(Value.int .i64 0::(List.replicate 32 (Value.int .u8 0)++(Value.int .i64 0::(List.replicate 32 (Value.int .u8 0)++[Value.int .i64 0])++[Value.slice none 0 0,.int .i64 0,.string ⟨#[]⟩,.string ⟨#[]⟩]))).toArray:=by
 unfold cW
 show (Value.int .i64 0::((aA 0#256).toList++((co (0,0#256,0)).toList++_))).toArray=_
 rw [gm]
 have:(aA 0#256).toList=List.replicate 32 (Value.int .u8 0):=by
  have:=gm
  unfold co at this
  have h2:=Yu Array.toList this
  simp only [List.cons.injEq,true_and] at h2
  exact List.append_cancel_right h2
 rw [this];rfl
def fZ:List (List Value):=[[.bool false],[.bool false],[.bool false],[.bool false],[.bool false],[.bool false]]
theorem CN {m:Mg} (h:c4 m=true):0<=m.n:=by
 unfold c4 at h
 cases hk:jg m.k
 ·rw [hk] at h;have:=Yq h;omega
 ·rw [hk] at h;simp only [cond_true,Yw,YB] at h;exact h.1
def CQ (n:Int) (k i:Nat):Nat:=if i<k then n.toNat / 256 ^ i % 256 else 0
theorem CR (n:Int):ca (λ_=>0) 8=ca (CQ n 0) 8:=rfl
theorem Lz (n:Int) (h0:0<=n) (k:Nat) (hk:k<8):(n.fdiv (2 ^ (min (8*(k:Int)).toNat IntKind.i64.bits))) % 256=((n.toNat / 256 ^ k % 256:Nat):Int):=by
 have e:min (8*(k:Int)).toNat IntKind.i64.bits=8*k:=by
  have h64:IntKind.i64.bits=64:=rfl
  rw [h64];omega
 obtain ⟨m,rfl⟩:=Int.eq_ofNat_of_zero_le h0
 rw [e,show (2:Int) ^ (8*k)=((256 ^ k:Nat):Int) from by rw [Int.pow_mul,Int.natCast_pow];rfl,Int.toNat_natCast,Int.fdiv_eq_ediv_of_nonneg _ (Int.natCast_nonneg _)]
 omega
theorem Dd (n:Int) (k:Nat):(ca (CQ n k) 8).setIfInBounds k (.int .u8 ((n.toNat / 256 ^ k % 256:Nat):Int))=ca (CQ n (k+1)) 8:=by
 rw [yB]
 refine ta λi hi=>?_
 unfold CQ
 by_cases h:i=k
 ·subst h;simp
 ·by_cases h2:i<k
  ·rw [if_neg h,if_pos h2,if_pos (by omega)]
  ·rw [if_neg h,if_neg h2,if_neg (by omega)]
theorem FV (n:Int):n3 (CQ n 8) 8=mi (oN n):=by
 unfold n3 mi oN
 rw [List.map_map]
 congr 2
def ln (m:Mg):List Nat:=[m.k.toNat]
def uY (m:Mg):List Nat:=ln m++C0 m.k m.i
def zf (m:Mg):List Nat:=uY m++CE m.k m.t
def BL (m:Mg):List Nat:=zf m++CY m.k m.l
def G6 (m:Mg):List Nat:=BL m++B7 m.k m.n
theorem FI (k:Int) (i:Id):(C0 k i).length<=32:=by unfold C0;cases mQ k<;>simp [ll]
theorem Fp (k:Int) (t:cO):(CE k t).length<=34:=by
 unfold CE;have:=(jC t).1
 cases lS k
 ·simp
 ·simp only [cond_true,Y0];omega
theorem Gh (k n:Int):(B7 k n).length<=8:=by unfold B7;cases jg k<;>simp [nu]
theorem Fd (k:Int) (l:List cO) (h:l.length<=4):(CY k l).length<=133:=by
 unfold CY;have:=mV l
 cases kz k
 ·simp
 ·simp only [cond_true,i6,Y0];omega
theorem Fc {m:Mg} (h:c3 m=true):m.l.length<=4:=by
 unfold c3 at h
 cases hk:kz m.k
 ·rw [hk] at h;have:=Yq h;omega
 ·rw [hk] at h;exact((ee _).1 h).2.1
theorem H1 {m:Mg} (h:cR m=true):(G6 m).length<=208/\(BL m).length<=200/\(zf m).length<=67/\(uY m).length<=33/\m.o.size<=16/\m.d.size<=64:=by
 obtain ⟨h0,h1,h2,h3,h4,h5,h6⟩:=gV h
 have a1:=FI m.k m.i;have a2:=Fp m.k m.t;have a3:=Fd m.k m.l (Fc h3);have a4:=Gh m.k m.n
 refine ⟨?_,?_,?_,?_,?_,?_⟩
 ·simp only [G6,BL,zf,uY,ln,Yy,Y0,Y1];omega
 ·simp only [BL,zf,uY,ln,Yy,Y0,Y1];omega
 ·simp only [zf,uY,ln,Yy,Y0,Y1];omega
 ·simp only [uY,ln,Yy,Y0,Y1];omega
 ·unfold c5 at h5
  cases hk:pP m.k
  ·rw [hk] at h5;rw [Yq h5];decide
  ·rw [hk] at h5;have:=Yq h5;omega
 ·unfold c6 at h6
  cases hk:qg m.k
  ·rw [hk] at h6;rw [Yq h6];decide
  ·rw [hk] at h6;exact Yq h6
theorem tj (ns:List Nat) (h:∀ n∈ns,n<256):Lib.strCells (mi ns)=g6 ns:=by
 unfold Lib.strCells mi g6
 simp only [List.map_map]
 refine List.map_congr_left λn hn=>?_
 have:=h n hn
 show Value.int .u8 ((UInt8.ofNat n).toNat:Int)=_
 rw [UInt8.toNat_ofNat',Nat.mod_eq_of_lt (by omega)]
theorem No {m:Mg} (h:mQ m.k=true):g6 (ln m)++(ca (bu m.i) 32).toList=g6 (uY m)/\(ln m).length+32=(uY m).length:=by
 have e:(ca (bu m.i) 32).toList=g6 (M9 m.i):=by rw [← di,rk]
 unfold uY C0;rw [h,e,fJ];exact ⟨rfl,by simp [ll]⟩
theorem M6 {m:Mg} (h:mQ m.k=false):ln m=uY m:=by unfold uY C0;rw [h];simp
theorem L8 {m:Mg} (h:lS m.k=true):g6 (uY m)++g6 (1::g7 m.t)=g6 (zf m)/\(uY m).length+(1::g7 m.t).length=(zf m).length:=by
 unfold zf CE;rw [h,fJ];exact ⟨rfl,by simp⟩
theorem Nh {m:Mg} (h:lS m.k=false):uY m=zf m:=by unfold zf CE;rw [h];simp
theorem MQ {m:Mg} (h:kz m.k=true):g6 (zf m)++g6 (i6 m.l)=g6 (BL m)/\(zf m).length+(i6 m.l).length=(BL m).length:=by
 unfold BL CY;rw [h,fJ];exact ⟨rfl,by simp⟩
theorem MA {m:Mg} (h:kz m.k=false):zf m=BL m:=by unfold BL CY;rw [h];simp
theorem MB {m:Mg} (h:jg m.k=true):g6 (BL m)++g6 (oN m.n)=g6 (G6 m)/\(BL m).length+(oN m.n).length=(G6 m).length:=by
 unfold G6 B7;rw [h,fJ];exact ⟨rfl,by simp⟩
theorem ME {m:Mg} (h:jg m.k=false):BL m=G6 m:=by unfold G6 B7;rw [h];simp
theorem Uu {m:Mg} (h:c2 m=true) (hk:lS m.k=true):lY m.t=true:=by unfold c2 at h;rw [hk] at h;exact h
theorem Rl {m:Mg} (h:c3 m=true) (hk:kz m.k=true):cZ m.l=true:=by unfold c3 at h;rw [hk] at h;exact h
theorem Tu {m:Mg} (h:c4 m=true) (hk:jg m.k=true):0<=m.n/\m.n<=1099511627776:=by unfold c4 at h;rw [hk] at h;simpa using h
theorem Cb {t:cO} (h:lY t=true):lI [t]=mi (1::g7 t):=by
 have hr:cZ [t]=true:=(ee _).2 ⟨by simp,by simp,by simpa using h⟩
 rw [Bz hr];simp [xy,i6]
theorem Jl {t:cO} (h:lY t=true):∀ n∈(1::g7 t),n<256:=λn hn=>by
 rcases YH.1 hn with rfl|hn
 ·decide
 ·exact Bo t h n hn
theorem EB {l:List cO} (h:cZ l=true):∀ n∈i6 l,n<256:=λn hn=>by
 obtain ⟨h1,h2,h3⟩:=(ee l).1 h
 rcases YH.1 hn with rfl|hn
 ·omega
 ·obtain ⟨e,he,hn⟩:=List.mem_flatMap.1 hn;exact Bo e (h3 e he) n hn
def P4:List (List Value):=[[.int .i64 0],List.replicate 32 (.int .u8 0),.int .i64 0::(List.replicate 32 (.int .u8 0)++[.int .i64 0]),[.slice none 0 0],[.int .i64 0],[.string ⟨#[]⟩],[.string ⟨#[]⟩]]
theorem XL:(Value.int .i64 0::(List.replicate 32 (Value.int .u8 0)++[Value.int .i64 0]))=(co (0,0#256,0)).toList:=by rw [gm]
variable {P:Program} {ρ:Operand->Value} {d:Option Tmp} {ty:TypeId} {pos:String} {af:Array Edge} {g:Option (Nat × Bool)} {x y:Operand} {t:TypeId}
def W8 (t:TypeId):List PanicEntry:=[{v:=.iface t (.int .i64 5),recovered:=false}]
def MR (t:TypeId) (ok:Bool) (T:Value->World->Prop) (F:World->Prop):Ending->World->Prop:=λe w=>(ok=true/\∃ v,e=.returned v/\T v w)∨(ok=false/\∃ ch,e=.panicked ch/\ch=W8 t/\F w)
theorem MR.no {t:TypeId} {ok:Bool} {T:Value->World->Prop} {F:World->Prop} {f:FuncId} {a:Array Value} {w:World} (h:Calls P f a w (MR t ok T F)) (hok:ok=false):Calls P f a w (λe w'=>∃ ch,e=.panicked ch/\(ch=W8 t/\F w')):=
 h.mono λe w' hx=>by
  rcases hx with ⟨h0,_⟩|⟨_,ch,r⟩
  ·rw [hok] at h0;cases h0
  ·exact ⟨ch,r⟩
def p1 (s:ByteArray):Mg:={mZ with k:=kS s}
def p2 (s:ByteArray):Mg:={p1 s with i:=vI (kS s) (q0 s)}
def p3 (s:ByteArray):Mg:={p2 s with t:=vT (kS s) (q1 s)}
def p4 (s:ByteArray):Mg:={p3 s with l:=vS (kS s) (q2 s)}
def p5 (s:ByteArray):Mg:={p4 s with n:=vN (kS s) (q3 s)}
def p6 (s:ByteArray):Mg:={p5 s with o:=vO (kS s) (q4 s)}
def p7 (s:ByteArray):Mg:={p6 s with d:=vD (kS s) (q5 s)}
section
variable {s:ByteArray}
end
end Go.Proofs.YtkhepdpfdhdlaaaGreatDoor
namespace Go.Proofs.YtkhepdpfdhdlaaaGreatDoor
def t5 (m:Mg) (v:Value) (r:ByteArray) (ok:Bool):Array Value:=((cW m v).toList++([.string r,.bool ok]:List Value)).toArray
theorem WM (m:Mg) (v:Value):(cW m v).toList.length=71:=by rw [YD,dp]
@[simp] theorem UN (m:Mg) (v:Value) (r:ByteArray) (ok:Bool):(t5 m v r ok).size=73:=by
  simp only [t5,List.size_toArray,Yy,WM,Y0,Y1]
section
variable {P:Program} {ρ:Operand->Value} {d:Option Tmp} {ty:TypeId} {pos:String} {af:Array Edge} {g:Option (Nat × Bool)} {x y:Operand} {t:TypeId}
end
section
variable {s:ByteArray}
end
def hN (r:ByteArray):Nat->Nat
 |0=>0
 |d+1=>256*hN r d+sb r (5 - d)
def nd (s:ByteArray):Nat:=(bif jg (kS s) then 8 else 0)+(bif pP (kS s) then 16 else 0)
section
variable {s:ByteArray}
end
section
variable {s:ByteArray}
end
section
variable {s:ByteArray}
end
end Go.Proofs.YtkhepdpfdhdlaaaGreatDoor
namespace Go.Proofs.YtkhepdpfdhdlaaaGreatDoor
open Go.RowKit Go.ChangeShapes Go.WideShapes Go.ChangeAt
end Go.Proofs.YtkhepdpfdhdlaaaGreatDoor
