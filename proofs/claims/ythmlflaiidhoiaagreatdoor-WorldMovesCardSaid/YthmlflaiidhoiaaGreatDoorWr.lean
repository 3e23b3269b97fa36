/- Messages: which may be, their parts and bytes; no Go in it. -/
import Derived.Test.YthmlflaiidhoiaaGreatDoorSp
set_option linter.unusedVariables false
set_option linter.unusedSimpArgs false
set_option linter.unusedSectionVars false
namespace Go.Proofs.YthmlflaiidhoiaaGreatDoor
structure Mg where
 k:Int
 i:Id
 t:dN
 l:List dN
 n:Int
 o:ByteArray
 d:ByteArray
theorem VW {a b:Mg} (hk:a.k=b.k) (hi:a.i=b.i) (ht:a.t=b.t) (hl:a.l=b.l) (hn:a.n=b.n) (ho:a.o=b.o) (hd:a.d=b.d):a=b:=by
 cases a;cases b;simp_all
def Xf (a b:Mg):Bool:=decide (a.k=b.k) && decide (a.i=b.i) && decide (a.t=b.t) && decide (a.l=b.l) && decide (a.n=b.n) && decide (a.o=b.o) && decide (a.d=b.d)
theorem Lo (a b:Mg):Xf a b=true↔a=b:=by
 unfold Xf
 simp only [aH5,aI0]
 constructor
 ·rintro ⟨⟨⟨⟨⟨⟨h1,h2⟩,h3⟩,h4⟩,h5⟩,h6⟩,h7⟩;exact VW h1 h2 h3 h4 h5 h6 h7
 ·rintro rfl;simp
def mZ:Mg:=⟨0,0#256,(0,0#256,0),[],0,⟨#[]⟩,⟨#[]⟩⟩
def eG (m:Mg) (v:Value):Array Value:=(Value.int .i64 m.k::((aH m.i).toList++((cG m.t).toList++[v,.int .i64 m.n,.string m.o,.string m.d]))).toArray
theorem jc (a:Id):(aH a).toList.length=32:=by rw [aI2,aA]
theorem KE (e:dN):(cG e).toList.length=34:=by rw [aI2,bR]
@[simp] theorem eV (m:Mg) (v:Value):(eG m v).size=71:=by
  simp only [eG,List.size_toArray,aK5,aH7,jc,KE,aK6]
theorem mU (m:Mg) (v:Value):(eG m v).toList=Value.int .i64 m.k::((aH m.i).toList++((cG m.t).toList++[v,.int .i64 m.n,.string m.o,.string m.d])):=rfl
theorem De (m:Mg) (v:Value):(eG m v)[0]? = some (.int .i64 m.k):=rfl
theorem mK (m:Mg) (v:Value) (j:Nat):(eG m v)[67+j]? = ([v,.int .i64 m.n,.string m.o,.string m.d]:List Value)[j]? := by
 rw [← aN9,mU,show 67+j=(66+j)+1 from by omega,aM9,aK7 (by rw [jc];omega),jc,aK7 (by rw [KE];omega),KE]
 congr 1;omega
theorem jC (m:Mg) (v:Value):(eG m v)[67]? = some v:=mK m v 0
theorem ic (m:Mg) (v:Value):(eG m v)[68]? = some (.int .i64 m.n):=mK m v 1
theorem oR (m:Mg) (v:Value):(eG m v)[69]? = some (.string m.o):=mK m v 2
theorem uP (m:Mg) (v:Value):(eG m v)[70]? = some (.string m.d):=mK m v 3
theorem qK {C:Array Value} {a n:Nat} {D:Array Value} (h:(C.toList.drop a).take n=D.toList):C.extract a (a+n)=D:=by
 apply Array.ext'
 rw [← h,Array.toList_extract,List.extract_eq_take_drop,Nat.add_sub_cancel_left]
theorem l8 (m:Mg) (v:Value):(eG m v).extract 1 (1+32)=aH m.i:=qK (by
 rw [mU,List.drop_succ_cons,List.drop_zero,List.take_append_of_le_length (by rw [jc];omega),aJ9 (by rw [jc];omega)])
theorem il (m:Mg) (v:Value):(eG m v).extract 33 (33+34)=cG m.t:=qK (by
 rw [mU,show (33:Nat)=32+1 from rfl,List.drop_succ_cons,List.drop_append_of_le_length (by rw [jc];omega),List.drop_of_length_le (by rw [jc];omega),List.nil_append,List.take_append_of_le_length (by rw [KE];omega),aJ9 (by rw [KE];omega)])
theorem ql (m:Mg) (v:Value) (hv:v.oneCell'=true):∀ u∈(eG m v).toList,u.oneCell'=true:=by
 intro u hu
 rw [mU] at hu
 simp only [aI6,aK9,aI9,or_false] at hu
 rcases hu with rfl|hu|hu|rfl|rfl|rfl|rfl
 ·rfl
 ·exact k6 _ _ hu
 ·exact kw _ _ hu
 ·exact hv
 ·rfl
 ·rfl
 ·rfl
theorem uc {C:Array Value} {j:Nat} {x:Value} {D:Array Value} (h:C.toList.set j x=D.toList):C.setIfInBounds j x=D:=by
 apply Array.ext';rw [← h,Array.toList_setIfInBounds]
def Fv (k:Int):Bool:=decide (1<=k) && decide (k<=10)
def rY (k:Int):Bool:=decide (2<=k) && decide (k<=10)
def qH (k:Int):Bool:=decide (2<=k) && decide (k<=6)
def pq (k:Int):Bool:=decide (k=1)
def oJ (k:Int):Bool:=decide (k=1) || decide (k=2) || decide (k=4) || (decide (8<=k) && decide (k<=10))
def vF (k:Int):Bool:=decide (k=3) || decide (k=4) || decide (k=6)
def yJ (k:Int):Bool:=decide (k=1)
def eW (k:Int):Array Value:=#[.bool (rY k),.bool (qH k),.bool (pq k),.bool (oJ k),.bool (vF k),.bool (yJ k)]
def c1 (m:Mg):Bool:=bif rY m.k then true else decide (m.i=0#256)
def c2 (m:Mg):Bool:=bif qH m.k then pZ m.t else decide (m.t=(0,0#256,0))
def c3 (m:Mg):Bool:=bif pq m.k then dQ m.l else decide (m.l.length=0)
def c4 (m:Mg):Bool:=bif oJ m.k then (decide (0<=m.n) && decide (m.n<=1099511627776)) else decide (m.n=0)
def c5 (m:Mg):Bool:=bif vF m.k then decide (m.o.size=16) else decide (m.o=⟨#[]⟩)
def c6 (m:Mg):Bool:=bif yJ m.k then decide (m.d.size<=64) else decide (m.d=⟨#[]⟩)
def ey (m:Mg):Bool:=Fv m.k && c1 m && c2 m && c3 m && c4 m && c5 m && c6 m
def ua (n:Int):List Nat:=(List.range 8).map λi=>n.toNat / 256 ^ i % 256
theorem qR (n:Int):(ua n).length=8:=by simp [ua]
theorem RX (n:Int):∀ x∈ua n,x<256:=λx hx=>by
 obtain ⟨i,_,rfl⟩:=aL9.1 hx;exact aO6 _ (by omega)
def Z4 (r:ByteArray):Nat->Nat
 |0=>0
 |k+1=>Z4 r k+sb r k*256 ^ k
def ab1 (r:ByteArray):Nat:=Z4 r 8
def HN (k:Int) (i:Id):List Nat:=bif rY k then Tk i else []
def Ip (k:Int) (t:dN):List Nat:=bif qH k then 1::kg t else []
def HP (k:Int) (l:List dN):List Nat:=bif pq k then lD l else []
def HH (k:Int) (n:Int):List Nat:=bif oJ k then ua n else []
def YW (m:Mg):List Nat:=[m.k.toNat]++HN m.k m.i++Ip m.k m.t++HP m.k m.l++HH m.k m.n
def db (m:Mg):ByteArray:=pL (YW m)++m.o++m.d
def okI (k:Int) (r:ByteArray):Bool := !rY k || decide (32<=r.size)
def vI (k:Int) (r:ByteArray):Id:=bif rY k then Co (sb r) else 0#256
def rI (k:Int) (r:ByteArray):ByteArray:=bif rY k then vE r 32 else r
def okT (k:Int) (r:ByteArray):Bool := !qH k || (decide ((sY r).1=0) && decide ((sY r).2.1.length=1))
def vT (k:Int) (r:ByteArray):dN:=bif qH k then (sY r).2.1.getD 0 (0,0#256,0) else (0,0#256,0)
def rT (k:Int) (r:ByteArray):ByteArray:=bif qH k then vE r (sY r).2.2 else r
def okS (k:Int) (r:ByteArray):Bool := !pq k || decide ((sY r).1=0)
def vS (k:Int) (r:ByteArray):List dN:=bif pq k then (sY r).2.1 else []
def rS (k:Int) (r:ByteArray):ByteArray:=bif pq k then vE r (sY r).2.2 else r
def okN (k:Int) (r:ByteArray):Bool := !oJ k || (decide (8<=r.size) && decide (ab1 r<=1099511627776))
def vN (k:Int) (r:ByteArray):Int:=bif oJ k then (ab1 r:Int) else 0
def rN (k:Int) (r:ByteArray):ByteArray:=bif oJ k then vE r 8 else r
def ar6 (k:Int) (r:ByteArray):Bool := !vF k || decide (16<=r.size)
def vO (k:Int) (r:ByteArray):ByteArray:=bif vF k then r.extract 0 16 else ⟨#[]⟩
def rO (k:Int) (r:ByteArray):ByteArray:=bif vF k then vE r 16 else r
def okD (k:Int) (r:ByteArray):Bool := !yJ k || decide (r.size<=64)
def vD (k:Int) (r:ByteArray):ByteArray:=bif yJ k then r else ⟨#[]⟩
def rDw (k:Int) (r:ByteArray):ByteArray:=bif yJ k then ⟨#[]⟩ else r
def kS (s:ByteArray):Int:=((sb s 0:Nat):Int)
def q0 (s:ByteArray):ByteArray:=vE s 1
def q1 (s:ByteArray):ByteArray:=rI (kS s) (q0 s)
def q2 (s:ByteArray):ByteArray:=rT (kS s) (q1 s)
def q3 (s:ByteArray):ByteArray:=rS (kS s) (q2 s)
def q4 (s:ByteArray):ByteArray:=rN (kS s) (q3 s)
def q5 (s:ByteArray):ByteArray:=rO (kS s) (q4 s)
def q6 (s:ByteArray):ByteArray:=rDw (kS s) (q5 s)
def okP (s:ByteArray):Bool:=decide (1<=s.size) && Fv (kS s) && okI (kS s) (q0 s) && okT (kS s) (q1 s) && okS (kS s) (q2 s) && okN (kS s) (q3 s) && ar6 (kS s) (q4 s) && okD (kS s) (q5 s) && decide (q6 s=⟨#[]⟩)
def mP (s:ByteArray):Mg:=⟨kS s,vI (kS s) (q0 s),vT (kS s) (q1 s),vS (kS s) (q2 s),vN (kS s) (q3 s),vO (kS s) (q4 s),vD (kS s) (q5 s)⟩
def YF (s:ByteArray):Mg:=bif okP s then mP s else mZ
def aw7 (s:ByteArray):Int:=bif okP s then 0 else 5
theorem qU {m:Mg} (h:ey m=true):Fv m.k=true/\c1 m=true/\c2 m=true/\c3 m=true/\c4 m=true/\c5 m=true/\c6 m=true:=by
 unfold ey at h
 simp only [aH5] at h
 obtain ⟨⟨⟨⟨⟨⟨h0,h1⟩,h2⟩,h3⟩,h4⟩,h5⟩,h6⟩:=h
 exact ⟨h0,h1,h2,h3,h4,h5,h6⟩
theorem xP (k:Int):Fv k=true↔1<=k/\k<=10:=by simp [Fv]
theorem nl (k:Int):∀ v∈(eW k).toList,v.oneCell'=true:=by
 intro v hv
 simp only [eW,aI6,aI9,or_false] at hv
 rcases hv with rfl|rfl|rfl|rfl|rfl|rfl<;>rfl
theorem OM {k:Int} (h:Fv k=false):¬ (1<=k/\k<=10):=λhk=>by
 rw [(xP k).2 hk] at h;cases h
theorem Sn {k:Int} (h:Fv k=false):eW k=eW 0:=by
 have hk:=OM h
 have h1:rY k=false:=by unfold rY;simp;omega
 have h2:qH k=false:=by unfold qH;simp;omega
 have h3:pq k=false:=by unfold pq;simp;omega
 have h4:oJ k=false:=by unfold oJ;simp;omega
 have h5:vF k=false:=by unfold vF;simp;omega
 have h6:yJ k=false:=by unfold yJ;simp;omega
 unfold eW;rw [h1,h2,h3,h4,h5,h6];rfl
theorem fw (k:Int) (n:Int) (v:Value) (b:Nat) (r:List MapEntry) (i:Nat):Instr.findNow (.int .i64) (.int .i64 k) ({key:=.int .i64 n,val:=v,born:=b}::r) i=if k=n then some (some (i,v)) else Instr.findNow (.int .i64) (.int .i64 k) r (i+1):=by
 rw [Instr.findNow]
 show (match (if IntKind.i64=IntKind.i64 then some (k == n) else none) with|some true=>some (some (i,v))|some false=>Instr.findNow (.int .i64) (.int .i64 k) r (i+1)|none=>none)=_
 rw [if_pos rfl]
 by_cases h:k=n
 ·subst h;simp
 ·have:(k == n)=false:=by simpa using h
  rw [this,if_neg h]
def F9:List MapEntry:=[⟨.int .i64 1,.agg (eW 1),0⟩,⟨.int .i64 2,.agg (eW 2),1⟩,⟨.int .i64 3,.agg (eW 3),2⟩,⟨.int .i64 4,.agg (eW 4),3⟩,⟨.int .i64 5,.agg (eW 5),4⟩,⟨.int .i64 6,.agg (eW 6),5⟩,⟨.int .i64 7,.agg (eW 7),6⟩,⟨.int .i64 8,.agg (eW 8),7⟩,⟨.int .i64 9,.agg (eW 9),8⟩,⟨.int .i64 10,.agg (eW 10),9⟩]
theorem Bb (k:Int):Instr.findNow (.int .i64) (.int .i64 k) F9 0=if k=1 then some (some (0,.agg (eW 1))) else if k=2 then some (some (1,.agg (eW 2))) else if k=3 then some (some (2,.agg (eW 3))) else if k=4 then some (some (3,.agg (eW 4))) else if k=5 then some (some (4,.agg (eW 5)))
 else if k=6 then some (some (5,.agg (eW 6))) else if k=7 then some (some (6,.agg (eW 7))) else if k=8 then some (some (7,.agg (eW 8))) else if k=9 then some (some (8,.agg (eW 9))) else if k=10 then some (some (9,.agg (eW 10))) else some none:=by
 unfold F9
 rw [fw,fw,fw,fw,fw,fw,fw,fw,fw,fw,Instr.findNow]
theorem Bq (k:Int):(∃ j,Instr.findNow (.int .i64) (.int .i64 k) F9 0=some (some (j,.agg (eW k)))/\Fv k=true)∨(Instr.findNow (.int .i64) (.int .i64 k) F9 0=some none/\Value.agg (eW k)=.agg (eW 0)/\Fv k=false):=by
 rw [Bb]
 cases h:Fv k
 ·have hk:=OM h
  refine .inr ⟨?_,aH3 Value.agg (Sn h),rfl⟩
  rw [if_neg (by omega),if_neg (by omega),if_neg (by omega),if_neg (by omega),if_neg (by omega),if_neg (by omega),if_neg (by omega),if_neg (by omega),if_neg (by omega),if_neg (by omega)]
 ·have hk:=(xP k).1 h
  have:k=1∨k=2∨k=3∨k=4∨k=5∨k=6∨k=7∨k=8∨k=9∨k=10:=by omega
  rcases this with rfl|rfl|rfl|rfl|rfl|rfl|rfl|rfl|rfl|rfl
  ·exact .inl ⟨0,by simp,rfl⟩
  ·exact .inl ⟨1,by simp,rfl⟩
  ·exact .inl ⟨2,by simp,rfl⟩
  ·exact .inl ⟨3,by simp,rfl⟩
  ·exact .inl ⟨4,by simp,rfl⟩
  ·exact .inl ⟨5,by simp,rfl⟩
  ·exact .inl ⟨6,by simp,rfl⟩
  ·exact .inl ⟨7,by simp,rfl⟩
  ·exact .inl ⟨8,by simp,rfl⟩
  ·exact .inl ⟨9,by simp,rfl⟩
theorem wj:eG mZ (.slice none 0 0)=(Value.int .i64 0::(List.replicate 32 (Value.int .u8 0)++(Value.int .i64 0::(List.replicate 32 (Value.int .u8 0)++[Value.int .i64 0])++[Value.slice none 0 0,.int .i64 0,.string ⟨#[]⟩,.string ⟨#[]⟩]))).toArray:=by
 unfold eG
 show (Value.int .i64 0::((aH 0#256).toList++((cG (0,0#256,0)).toList++_))).toArray=_
 rw [iH]
 have:(aH 0#256).toList=List.replicate 32 (Value.int .u8 0):=by
  have:=iH
  unfold cG at this
  have h2:=aH3 Array.toList this
  simp only [List.cons.injEq,true_and] at h2
  exact List.append_cancel_right h2
 rw [this];rfl
def fZ:List (List Value):=[[.bool false],[.bool false],[.bool false],[.bool false],[.bool false],[.bool false]]
theorem Ha {m:Mg} (h:c4 m=true):0<=m.n:=by
 unfold c4 at h
 cases hk:oJ m.k
 ·rw [hk] at h;have:=aG9 h;omega
 ·rw [hk] at h;simp only [cond_true,aH5,aI0] at h;exact h.1
def Ii (n:Int) (k i:Nat):Nat:=if i<k then n.toNat / 256 ^ i % 256 else 0
theorem II (n:Int):cS (λ_=>0) 8=cS (Ii n 0) 8:=rfl
theorem Pw (n:Int) (h0:0<=n) (k:Nat) (hk:k<8):(n.fdiv (2 ^ (min (8*(k:Int)).toNat IntKind.i64.bits))) % 256=((n.toNat / 256 ^ k % 256:Nat):Int):=by
 have e:min (8*(k:Int)).toNat IntKind.i64.bits=8*k:=by
  have h64:IntKind.i64.bits=64:=rfl
  rw [h64];omega
 obtain ⟨m,rfl⟩:=Int.eq_ofNat_of_zero_le h0
 rw [e,show (2:Int) ^ (8*k)=((256 ^ k:Nat):Int) from by rw [Int.pow_mul,Int.natCast_pow];rfl,Int.toNat_natCast,Int.fdiv_eq_ediv_of_nonneg _ (Int.natCast_nonneg _)]
 omega
theorem IC (n:Int) (k:Nat):(cS (Ii n k) 8).setIfInBounds k (.int .u8 ((n.toNat / 256 ^ k % 256:Nat):Int))=cS (Ii n (k+1)) 8:=by
 rw [Eu]
 refine yX λi hi=>?_
 unfold Ii
 by_cases h:i=k
 ·subst h;simp
 ·by_cases h2:i<k
  ·rw [if_neg h,if_pos h2,if_pos (by omega)]
  ·rw [if_neg h,if_neg h2,if_neg (by omega)]
theorem MB (n:Int):rM (Ii n 8) 8=pL (ua n):=by
 unfold rM pL ua
 rw [List.map_map]
 congr 2
def oW (m:Mg):List Nat:=[m.k.toNat]
def wh (m:Mg):List Nat:=oW m++HN m.k m.i
def DQ (m:Mg):List Nat:=wh m++Ip m.k m.t
def GT (m:Mg):List Nat:=DQ m++HP m.k m.l
def Nv (m:Mg):List Nat:=GT m++HH m.k m.n
theorem Jr (k:Int) (i:Id):(HN k i).length<=32:=by unfold HN;cases rY k<;>simp [n5]
theorem KB (k:Int) (t:dN):(Ip k t).length<=34:=by
 unfold Ip;have:=(mq t).1
 cases qH k
 ·simp
 ·simp only [cond_true,aK5];omega
theorem Jg (k n:Int):(HH k n).length<=8:=by unfold HH;cases oJ k<;>simp [qR]
theorem Le (k:Int) (l:List dN) (h:l.length<=4):(HP k l).length<=133:=by
 unfold HP;have:=p8 l
 cases pq k
 ·simp
 ·simp only [cond_true,lD,aK5];omega
theorem Nw {m:Mg} (h:c3 m=true):m.l.length<=4:=by
 unfold c3 at h
 cases hk:pq m.k
 ·rw [hk] at h;have:=aG9 h;omega
 ·rw [hk] at h;exact((fN _).1 h).2.1
theorem I8 {m:Mg} (h:ey m=true):(Nv m).length<=208/\(GT m).length<=200/\(DQ m).length<=67/\(wh m).length<=33/\m.o.size<=16/\m.d.size<=64:=by
 obtain ⟨h0,h1,h2,h3,h4,h5,h6⟩:=qU h
 have a1:=Jr m.k m.i;have a2:=KB m.k m.t;have a3:=Le m.k m.l (Nw h3);have a4:=Jg m.k m.n
 refine ⟨?_,?_,?_,?_,?_,?_⟩
 ·simp only [Nv,GT,DQ,wh,oW,aH7,aK5,aK6];omega
 ·simp only [GT,DQ,wh,oW,aH7,aK5,aK6];omega
 ·simp only [DQ,wh,oW,aH7,aK5,aK6];omega
 ·simp only [wh,oW,aH7,aK5,aK6];omega
 ·unfold c5 at h5
  cases hk:vF m.k
  ·rw [hk] at h5;rw [aG9 h5];decide
  ·rw [hk] at h5;have:=aG9 h5;omega
 ·unfold c6 at h6
  cases hk:yJ m.k
  ·rw [hk] at h6;rw [aG9 h6];decide
  ·rw [hk] at h6;exact aG9 h6
theorem zv (ns:List Nat) (h:∀ n∈ns,n<256):Lib.strCells (pL ns)=j6 ns:=by
 unfold Lib.strCells pL j6
 simp only [List.map_map]
 refine List.map_congr_left λn hn=>?_
 have:=h n hn
 show Value.int .u8 ((UInt8.ofNat n).toNat:Int)=_
 rw [UInt8.toNat_ofNat',Nat.mod_eq_of_lt (by omega)]
theorem S4 {m:Mg} (h:rY m.k=true):j6 (oW m)++(cS (bP m.i) 32).toList=j6 (wh m)/\(oW m).length+32=(wh m).length:=by
 have e:(cS (bP m.i) 32).toList=j6 (Tk m.i):=by rw [← eg,xa]
 unfold wh HN;rw [h,e,iI];exact ⟨rfl,by simp [n5]⟩
theorem Um {m:Mg} (h:rY m.k=false):oW m=wh m:=by unfold wh HN;rw [h];simp
theorem TD {m:Mg} (h:qH m.k=true):j6 (wh m)++j6 (1::kg m.t)=j6 (DQ m)/\(wh m).length+(1::kg m.t).length=(DQ m).length:=by
 unfold DQ Ip;rw [h,iI];exact ⟨rfl,by simp⟩
theorem Tp {m:Mg} (h:qH m.k=false):wh m=DQ m:=by unfold DQ Ip;rw [h];simp
theorem Uf {m:Mg} (h:pq m.k=true):j6 (DQ m)++j6 (lD m.l)=j6 (GT m)/\(DQ m).length+(lD m.l).length=(GT m).length:=by
 unfold GT HP;rw [h,iI];exact ⟨rfl,by simp⟩
theorem Tu {m:Mg} (h:pq m.k=false):DQ m=GT m:=by unfold GT HP;rw [h];simp
theorem TN {m:Mg} (h:oJ m.k=true):j6 (GT m)++j6 (ua m.n)=j6 (Nv m)/\(GT m).length+(ua m.n).length=(Nv m).length:=by
 unfold Nv HH;rw [h,iI];exact ⟨rfl,by simp⟩
theorem TI {m:Mg} (h:oJ m.k=false):GT m=Nv m:=by unfold Nv HH;rw [h];simp
theorem Zn {m:Mg} (h:c2 m=true) (hk:qH m.k=true):pZ m.t=true:=by unfold c2 at h;rw [hk] at h;exact h
theorem ab0 {m:Mg} (h:c3 m=true) (hk:pq m.k=true):dQ m.l=true:=by unfold c3 at h;rw [hk] at h;exact h
theorem ai1 {m:Mg} (h:c4 m=true) (hk:oJ m.k=true):0<=m.n/\m.n<=1099511627776:=by unfold c4 at h;rw [hk] at h;simpa using h
theorem G1 {t:dN} (h:pZ t=true):pT [t]=pL (1::kg t):=by
 have hr:dQ [t]=true:=(fN _).2 ⟨by simp,by simp,by simpa using h⟩
 rw [Fj hr];simp [An,lD]
theorem PP {t:dN} (h:pZ t=true):∀ n∈(1::kg t),n<256:=λn hn=>by
 rcases aI6.1 hn with rfl|hn
 ·decide
 ·exact E7 t h n hn
theorem NJ {l:List dN} (h:dQ l=true):∀ n∈lD l,n<256:=λn hn=>by
 obtain ⟨h1,h2,h3⟩:=(fN l).1 h
 rcases aI6.1 hn with rfl|hn
 ·omega
 ·obtain ⟨e,he,hn⟩:=List.mem_flatMap.1 hn;exact E7 e (h3 e he) n hn
def Yh:List (List Value):=[[.int .i64 0],List.replicate 32 (.int .u8 0),.int .i64 0::(List.replicate 32 (.int .u8 0)++[.int .i64 0]),[.slice none 0 0],[.int .i64 0],[.string ⟨#[]⟩],[.string ⟨#[]⟩]]
theorem z34:(Value.int .i64 0::(List.replicate 32 (Value.int .u8 0)++[Value.int .i64 0]))=(cG (0,0#256,0)).toList:=by rw [iH]
variable {P:Program} {ρ:Operand->Value} {d:Option Tmp} {ty:TypeId} {pos:String} {af:Array Edge} {g:Option (Nat × Bool)} {x y:Operand} {t:TypeId}
def p1 (s:ByteArray):Mg:={mZ with k:=kS s}
def p2 (s:ByteArray):Mg:={p1 s with i:=vI (kS s) (q0 s)}
section
variable {s:ByteArray}
end
end Go.Proofs.YthmlflaiidhoiaaGreatDoor
namespace Go.Proofs.YthmlflaiidhoiaaGreatDoor
def t5 (m:Mg) (v:Value) (r:ByteArray) (ok:Bool):Array Value:=((eG m v).toList++([.string r,.bool ok]:List Value)).toArray
theorem au1 (m:Mg) (v:Value):(eG m v).toList.length=71:=by rw [aI2,eV]
@[simp] theorem an6 (m:Mg) (v:Value) (r:ByteArray) (ok:Bool):(t5 m v r ok).size=73:=by
  simp only [t5,List.size_toArray,aH7,au1,aK5,aK6]
section
variable {P:Program} {ρ:Operand->Value} {d:Option Tmp} {ty:TypeId} {pos:String} {af:Array Edge} {g:Option (Nat × Bool)} {x y:Operand} {t:TypeId}
end
section
variable {s:ByteArray}
end
def hN (r:ByteArray):Nat->Nat
 |0=>0
 |d+1=>256*hN r d+sb r (5 - d)
def nd (s:ByteArray):Nat:=(bif oJ (kS s) then 8 else 0)+(bif vF (kS s) then 16 else 0)
section
variable {s:ByteArray}
end
section
variable {s:ByteArray}
end
section
variable {s:ByteArray}
end
end Go.Proofs.YthmlflaiidhoiaaGreatDoor
namespace Go.Proofs.YthmlflaiidhoiaaGreatDoor
open Go.RowKit Go.ChangeShapes Go.WideShapes Go.ChangeAt
end Go.Proofs.YthmlflaiidhoiaaGreatDoor
