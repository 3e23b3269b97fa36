/- Identifiers: rows of 32 bytes as numbers of 256 bits; sums, ways, bits and digits of them; no Go in it. -/
import Derived.WalkKit
import Derived.ProofKit
import Derived.Laws.Rows
import Derived.Laws.BytesString
import Derived.Laws.Strings
import Derived.OpenShut
import Derived.Laws.AppendOwn
import Derived.Laws.StructEq
import Derived.Laws.Externs
import Derived.Lib.Bytealg
import Derived.Test.YthmlflaiidhoiaaGreatDoorEng
set_option linter.unusedVariables false
set_option linter.unusedSimpArgs false
set_option linter.unusedSectionVars false
namespace Go.Proofs.YthmlflaiidhoiaaGreatDoor
open Go.RowKit
abbrev Id:=BitVec 256
def kG (x:Nat) (i:Nat):Nat:=x / 256 ^ (31 - i) % 256
def bA (x:Id) (i:Nat):Nat:=kG x.toNat i
def eY (x:Id):List Value:=(List.range 32).map λi=>.int .u8 (bA x i:Int)
def aJ (x:Id):Array Value:=(eY x).toArray
abbrev kL (x:Id):Value:=.agg (aJ x)
theorem f4 (x:Id) (i:Nat):bA x i<256:=ax6 _ (by omega)
@[simp] theorem lK (x:Id):(eY x).length=32:=by simp [eY]
@[simp] theorem az (x:Id):(aJ x).size=32:=by simp [aJ]
theorem qN (x:Id) (i:Nat) (h:i<32):(eY x)[i]? = some (.int .u8 (bA x i:Int)):=by
 simp [eY,h]
theorem ed (x:Id) (i:Nat) (h:i<32):(aJ x)[i]? = some (.int .u8 (bA x i:Int)):=by
 simpa [aJ] using qN x i h
theorem j6 (x k:Nat):x / 256 ^ k=(x / 256 ^ (k+1))*256+x / 256 ^ k % 256:=by
 rw [Nat.pow_succ,← Nat.div_div_eq_div_mul];omega
theorem GT {x y:Nat} (hx:x<2 ^ 256) (hy:y<2 ^ 256) (h:∀ i,i<32->kG x i=kG y i):x=y:=by
 have key:∀ k,k<=32->x / 256 ^ (32 - k)=y / 256 ^ (32 - k):=by
  intro k
  induction k with
  |zero=>intro _;rw [Nat.div_eq_of_lt (by simpa using hx),Nat.div_eq_of_lt (by simpa using hy)]
  |succ k ih=>
   intro hk
   have h1:=ih (by omega)
   have h2:=h k (by omega)
   unfold kG at h2
   rw [show 32 - (k+1)=31 - k from by omega,j6 x,j6 y,show 31 - k+1=32 - k from by omega,h1,h2]
 simpa using key 32 (as1 _)
theorem rP {x y:Id} (h:∀ i,i<32->bA x i=bA y i):x=y:=
 BitVec.eq_of_toNat_eq (GT x.isLt y.isLt h)
theorem pI {x y:Id} (h:aJ x=aJ y):x=y:=rP λi hi=>by
 have h1:=ed x i hi
 have h2:=ed y i hi
 rw [h,h2] at h1
 simp at h1
 omega
def rb (f:Nat->Nat):Nat->Nat
 |0=>0
 |n+1=>rb f n*256+f n
theorem Eb (f:Nat->Nat) (hf:∀ i,f i<256):∀ n,rb f n<256 ^ n
 |0=>by simp [rb]
 |n+1=>by have:=Eb f hf n;have:=hf n;rw [rb,Nat.pow_succ];omega
theorem KY (f:Nat->Nat) (hf:∀ i,f i<256) (n:Nat):∀ k,k<=n->rb f n / 256 ^ (n - k)=rb f k:=by
 intro k hk
 induction n with
 |zero=>obtain rfl:k=0:=(by omega);simp
 |succ n ih=>
  by_cases h:k=n+1
  ·subst h;simp
  ·have:=ih (by omega)
   rw [show n+1 - k=(n - k)+1 from by omega,Nat.pow_succ,Nat.mul_comm,← Nat.div_div_eq_div_mul,rb]
   have h2:=hf n
   rw [show (rb f n*256+f n) / 256=rb f n from by omega]
   exact this
theorem CX (f:Nat->Nat) (hf:∀ i,f i<256) (i:Nat) (hi:i<32):kG (rb f 32) i=f i:=by
 unfold kG
 rw [show 31 - i=32 - (i+1) from by omega,KY f hf 32 (i+1) (by omega),rb]
 have:=hf i
 omega
def nk (f:Nat->Nat):Id:=BitVec.ofNat 256 (rb f 32)
theorem gb (f:Nat->Nat) (hf:∀ i,f i<256) (i:Nat) (hi:i<32):bA (nk f) i=f i:=by
 unfold bA nk
 have:=Eb f hf 32
 rw [BitVec.toNat_ofNat,Nat.mod_eq_of_lt (by simpa using this)]
 exact CX f hf i hi
def NO (x:Id) (j v:Nat):Id:=nk λi=>if i=j then v % 256 else bA x i
theorem qq (x:Id) (j v i:Nat) (hi:i<32):bA (NO x j v) i=if i=j then v % 256 else bA x i:=by
 unfold NO
 rw [gb _ (λi=>by split;exact ax6 _ (by omega);exact f4 _ _) i hi]
theorem Fo (x:Id) (j v:Nat) (hv:v<256):(aJ x).setIfInBounds j (.int .u8 (v:Int))=aJ (NO x j v):=by
 apply Array.ext_getElem?
 intro i
 by_cases hi:i<32
 ·rw [ed _ i hi,qq x j v i hi]
  by_cases hij:j=i
  ·subst hij;simp [hi,Nat.mod_eq_of_lt hv]
  ·rw [at1 hij,ed _ i hi,if_neg (λe=>hij e.symm)]
 ·rw [at0 (by simp;omega),at0 (by simp;omega)]
theorem ze (i:Nat):bA 0#256 i=0:=by simp [bA,kG]
theorem fe:aJ 0#256=#[.int .u8 0,.int .u8 0,.int .u8 0,.int .u8 0,.int .u8 0,.int .u8 0,.int .u8 0,.int .u8 0,.int .u8 0,.int .u8 0,.int .u8 0,.int .u8 0,.int .u8 0,.int .u8 0,.int .u8 0,.int .u8 0,.int .u8 0,.int .u8 0,.int .u8 0,.int .u8 0,.int .u8 0,.int .u8 0,.int .u8 0,.int .u8 0,.int .u8 0,.int .u8 0,.int .u8 0,.int .u8 0,.int .u8 0,.int .u8 0,.int .u8 0,.int .u8 0]:=by
 simp [aJ,eY,ze,List.range_succ]
def xL (a b m:Nat):Nat:=(b % 256 ^ m+256 ^ m - a % 256 ^ m) % 256 ^ m
def kX (a b m:Nat):Nat:=if b % 256 ^ m<a % 256 ^ m then 1 else 0
theorem uj (x:Id):∀ v∈(aJ x).toList,v.oneCell'=true:=by
 intro v hv
 simp [aJ,eY] at hv
 obtain ⟨i,_,rfl⟩:=hv
 rfl
structure IdTy (P:Program) (t e:TypeId):Prop where
 desc:P.underlying t=some (.array 32 e)
 info:(P.info? e).map (·.size)=some 1
 one:P.underlying e=some (.int .u8)
 guard:P.eqGuardType P.depth t=false
 zero:(P.info? t).bind (·.zero)=some (kL 0#256)
theorem MV {a b:Nat}:((a:Int) == (b:Int))=decide (a=b):=by
 rw [aw6];simp only [beq_iff_eq,ar0];omega
theorem mK {P:Program} {t e:TypeId} (T:IdTy P t e) (x:Id) (i:Nat) (hi:i<32) (w:World):(part e (aJ x) i).run P w=.ok (.int .u8 (bA x i:Int)) w:=by
 have h1:(isAgg e).run P w=.ok false w:=by
  unfold isAgg;rw [au7,ar1 T.one w];rfl
 simp only [part,au7,h1,aq9,Bool.false_eq_true,if_false]
 rw [ed x i hi];rfl
theorem q9 {P:Program} {t e:TypeId} (T:IdTy P t e) (w:World):(sizeOf e).run P w=.ok 1 w:=by
 cases hi:P.info? e with
 |none=>have:=T.info;simp [hi] at this
 |some i=>have:=T.info;simp [hi] at this;simp [sizeOf,typeInfo,au7,hi,this]
theorem AI {P:Program} {t e:TypeId} (T:IdTy P t e) (x y:Id) (d:Nat) (w:World) (F:Nat->Option Bool × Unit->Sem (ForInStep (Option Bool × Unit)))
 (hF:∀ i,i<32->∀ r,(F i r).run P w=if bA x i=bA y i then .ok (.yield (none,())) w else .ok (.done (some false,())) w):
 ∀ n s,s+n<=32->(forIn (List.range' s n) ((none,()):Option Bool × Unit) F).run P w=.ok (if (List.range' s n).all (λi=>decide (bA x i=bA y i))=true then none else some false,()) w:=by
 intro n
 induction n with
 |zero=>intro s _;simp
 |succ n ih=>
  intro s hs
  simp only [List.range'_succ,List.forIn_cons,au7,hF s (by omega)]
  by_cases h:bA x s=bA y s
  ·rw [if_pos h]
   simp only [aq9]
   rw [ih (s+1) (by omega)]
   simp only [List.all_cons,h,decide_true,Bool.true_and]
  ·rw [if_neg h]
   simp [h]
theorem lm {P:Program} {t e:TypeId} (T:IdTy P t e) (x y:Id) (d:Nat) (w:World):(Op.equalIn (d+2) t (kL x) (kL y)).run P w=.ok (decide (x=y)) w:=by
 unfold Op.equalIn
 simp only [au7,ar1 T.desc w,aq9,q9 T w]
 simp only [Std.Legacy.Range.forIn_eq_forIn_range']
 rw [AI T x y d w _ (λi hi r=>by
  simp only [au7,Nat.mul_one,mK T x i hi,mK T y i hi,aq9,run_equalIn_int w d e _ .u8 _ _ T.one,MV]
  by_cases h:bA x i=bA y i<;>simp [h]) _ 0 (by decide)]
 simp only [aq9]
 have:(List.range' 0 [:32].size).all (λi=>decide (bA x i=bA y i))=true↔x=y:=
  ⟨λg=>rP λi hi=>by have:=aq6.1 g i (by simp [List.mem_range',Std.Legacy.Range.size];omega);simpa using this,λe=>by subst e;simp⟩
 by_cases h:x=y
 ·rw [if_pos (this.2 h)];simp [h]
 ·rw [if_neg (λg=>h (this.1 g))];simp [h]
section
variable {P:Program} {ρ:Operand->Value} {d:Option Tmp} {ty:TypeId} {pos:String} {af:Array Edge} {g:Option (Nat × Bool)} {a b:Operand} {t t' e:TypeId} {x y:Id}
theorem dQ (T:IdTy P t e) (hx:ρ a=kL x) (hy:ρ b=kL y):a8 P ⟨d,.binOp .eql t a b t',ty,pos,af,g⟩ ρ (.bool (decide (x=y))):=λw=>by
 simp only [execOp,hx,hy,au7,run_eqGuard_agg w .eql t a b _ _ T.guard,aq9,run_eql_struct]
 rw [show (10000:Nat)=9998+2 from rfl,lm T x y];rfl
theorem l6 (T:IdTy P t e) (hx:ρ a=kL x) (hy:ρ b=kL y):a8 P ⟨d,.binOp .neq t a b t',ty,pos,af,g⟩ ρ (.bool (decide (x≠y))):=λw=>by
 simp only [execOp,hx,hy,au7,run_eqGuard_agg w .neq t a b _ _ T.guard,aq9,run_neq_struct]
 rw [show (10000:Nat)=9998+2 from rfl,lm T x y]
 simp
theorem uY (T:IdTy P t e):a8 P ⟨d,.build t #[],ty,pos,af,g⟩ ρ (kL 0#256):=λw=>by
 cases hi:P.info? t with
 |none=>have:=T.zero;simp [hi] at this
 |some i=>
  have hz:i.zero=some (kL 0#256):=by have:=T.zero;simpa [hi] using this
  have hz':i.zero=some (.agg (aJ 0#256)):=hz
  cases he:P.info? e with
  |none=>have:=T.info;simp [he] at this
  |some j=>
   simp [execOp,Instr.build,au7,ar1 T.desc w,zeroValue,typeInfo,hi,hz',sizeOf,he,Instr.fill,Value.cells]
end
theorem FA {P:Program} {ρ:Operand->Value} {d:Option Tmp} {ty:TypeId} {pos:String} {af:Array Edge} {g:Option (Nat × Bool)} {c x y:Operand} {X:Value} (hc:ρ c=.bool true) (hx:ρ x=X):a8 P ⟨d,.pick c x y,ty,pos,af,g⟩ ρ X:=EJ hc (by simpa using hx)
theorem Gs {P:Program} {ρ:Operand->Value} {d:Option Tmp} {ty:TypeId} {pos:String} {af:Array Edge} {g:Option (Nat × Bool)} {c x y:Operand} {X:Value} (hc:ρ c=.bool false) (hy:ρ y=X):a8 P ⟨d,.pick c x y,ty,pos,af,g⟩ ρ X:=EJ hc (by simpa using hy)
theorem Pq {ro:Option Nat} {P:Program} {id:Nat} {n:Nat} {L:List (Nat × Value)} {Df:List Deferred} {ops:List Oper} (m:Nat) (cls:List (List Nat)) {a:Act} {w:World} {Q:Exit->Act->World->Prop} (h:Sl n a L Df)
 (hm:P.follows .mixedOrders=true) (hok:jk ops m cls n=true) (hsel:Region.noSelect ops.toArray=true)
 (k:ip P ops.toArray (ce P ops.toArray (Q .normal) (ops.drop m)) w (ops.take m) a):(Code.region id ops.toArray true).wpIn (FR ro) 0 P Q a w:=by
 have hml:=DP hok
 have e:ops.take m++ops.drop m=ops:=as7 m ops
 have el:(ops.take m).length=m:=by simp;omega
 have:=sm (ro:=ro) (id:=id) (l:=ops.take m) (tl:=ops.drop m) cls (a0:=a) (w0:=w) (Q:=Q) hm (by rw [e,el,h.size];exact hok) (by rw [e];exact hsel) (by rw [e];exact k)
 rwa [e] at this
theorem FN (low v m i:Nat) (hl:low<256 ^ m) (hv:v<256) (hm:m<32) (hi:i<32):kG (low+256 ^ m*v) i=if i=31 - m then v else kG low i:=by
 unfold kG
 have hp:0<256 ^ m:=Nat.pow_pos (by decide)
 rcases Nat.lt_trichotomy (31 - i) m with h|h|h
 ·have e:256 ^ m=256 ^ (31 - i)*256 ^ (m - (31 - i)):=by rw [← Nat.pow_add];congr 1;omega
  have e2:256 ^ (m - (31 - i))=256*256 ^ (m - (31 - i) - 1):=by rw [← Nat.pow_succ'];congr 1;omega
  rw [if_neg (by omega),e,Nat.mul_assoc,Nat.add_mul_div_left _ _ (Nat.pow_pos (by decide)),e2,Nat.mul_assoc]
  omega
 ·rw [if_pos (by omega),h,Nat.add_mul_div_left _ _ hp,Nat.div_eq_of_lt hl];omega
 ·have e:256 ^ m*256<=256 ^ (31 - i):=by rw [← Nat.pow_succ];exact Nat.pow_le_pow_right (by decide) h
  have h1:256 ^ m*v+256 ^ m<=256 ^ m*256:=by rw [← Nat.mul_succ];exact Nat.mul_le_mul_left _ hv
  rw [if_neg (by omega),Nat.div_eq_of_lt (by omega),Nat.div_eq_of_lt (by omega)]
theorem L4 (x:Id) (m v:Nat) (hm:m<32) (hx:x.toNat<256 ^ m) (hv:v<256):NO x (31 - m) v=BitVec.ofNat 256 (x.toNat+256 ^ m*v):=by
 refine rP λi hi=>?_
 rw [qq x _ v i hi]
 have hlt:x.toNat+256 ^ m*v<2 ^ 256:=by
  have h1:256 ^ m*v+256 ^ m<=256 ^ m*256:=by rw [← Nat.mul_succ];exact Nat.mul_le_mul_left _ hv
  have h2:256 ^ m*256<=256 ^ 32:=by rw [← Nat.pow_succ];exact Nat.pow_le_pow_right (by decide) hm
  have h3:(256:Nat) ^ 32=2 ^ 256:=by decide
  omega
 unfold bA
 rw [BitVec.toNat_ofNat,Nat.mod_eq_of_lt hlt,FN _ _ _ _ hx hv hm hi,Nat.mod_eq_of_lt hv]
theorem n7 (x m:Nat):x % 256 ^ (m+1)=x % 256 ^ m+256 ^ m*(x / 256 ^ m % 256):=by rw [Nat.pow_succ,Nat.mod_mul]
theorem FM (a b:Nat):kX a b 0=0:=by simp [kX,Nat.mod_one]
theorem OK (a b m:Nat):kX a b m<=1:=by unfold kX;split<;>omega
theorem xG (a b m:Nat):xL a b m<256 ^ m:=ax6 _ (Nat.pow_pos (by decide))
theorem C5 (a b m:Nat):xL a b m=if b % 256 ^ m<a % 256 ^ m then b % 256 ^ m+256 ^ m - a % 256 ^ m else b % 256 ^ m - a % 256 ^ m:=by
 have hp:0<256 ^ m:=Nat.pow_pos (by decide)
 have h1:=ax6 a hp
 have h2:=ax6 b hp
 unfold xL
 generalize 256 ^ m=p at *
 split
 ·rw [Nat.mod_eq_of_lt (by omega)]
 ·rw [show b % p+p - a % p=(b % p - a % p)+p from by omega,Nat.add_mod_right,Nat.mod_eq_of_lt (by omega)]
theorem As (a b m:Nat) (bb ab:Nat) (hb:b / 256 ^ m % 256=bb) (ha:a / 256 ^ m % 256=ab):
 kX a b (m+1)=if (bb:Int) - ab - kX a b m<0 then 1 else 0:=by
 have hp:0<256 ^ m:=Nat.pow_pos (by decide)
 have h1:=ax6 a hp
 have h2:=ax6 b hp
 unfold kX
 rw [n7 a,n7 b,ha,hb]
 generalize 256 ^ m=p at *
 rcases Nat.lt_trichotomy bb ab with h|h|h
 ·have h3:p*bb+p<=p*ab:=by rw [← Nat.mul_succ];exact Nat.mul_le_mul_left _ h
  rw [if_pos (by omega),if_pos (by split<;>omega)]
 ·subst h
  by_cases h4:b % p<a % p
  ·rw [if_pos (by omega),if_pos (by rw [if_pos h4];omega)]
  ·rw [if_neg (by omega),if_neg (by rw [if_neg h4];omega)]
 ·have h3:p*ab+p<=p*bb:=by rw [← Nat.mul_succ];exact Nat.mul_le_mul_left _ h
  rw [if_neg (by omega),if_neg (by split<;>omega)]
theorem HG (a b m:Nat) (bb ab v:Nat) (hb:b / 256 ^ m % 256=bb) (ha:a / 256 ^ m % 256=ab) (hb2:bb<256) (ha2:ab<256)
 (hv:(v:Int)=((bb:Int) - ab - kX a b m) % 256):xL a b (m+1)=xL a b m+256 ^ m*v:=by
 have hp:0<256 ^ m:=Nat.pow_pos (by decide)
 have h1:=ax6 a hp
 have h2:=ax6 b hp
 have h9:256 ^ (m+1)=256 ^ m*256:=Nat.pow_succ ..
 rw [C5 a b (m+1),C5 a b m,n7 a,n7 b,ha,hb,h9]
 unfold kX at hv
 generalize 256 ^ m=p at *
 by_cases h:b % p<a % p
 ·rw [if_pos h] at hv
  rw [if_pos h]
  by_cases h5:ab<bb
  ·have e:bb=ab+1+v:=by omega
   have e2:p*bb=p*ab+p+p*v:=by rw [e,Nat.mul_add,Nat.mul_add,Nat.mul_one]
   rw [if_neg (by omega)];omega
  ·have e:v+ab=bb+255:=by omega
   have e2:p*v+p*ab=p*bb+p*255:=by rw [← Nat.mul_add,← Nat.mul_add,e]
   have h3:p*bb<=p*ab:=Nat.mul_le_mul_left _ (by omega)
   have h4:p*ab<=p*255:=Nat.mul_le_mul_left _ (by omega)
   rw [if_pos (by omega)];omega
 ·rw [if_neg h] at hv
  rw [if_neg h]
  by_cases h5:ab<=bb
  ·have e:bb=ab+v:=by omega
   have e2:p*bb=p*ab+p*v:=by rw [e,Nat.mul_add]
   rw [if_neg (by omega)];omega
  ·have e:v+ab=bb+256:=by omega
   have e2:p*v+p*ab=p*bb+p*256:=by rw [← Nat.mul_add,← Nat.mul_add,e]
   have h3:p*bb+p<=p*ab:=by rw [← Nat.mul_succ];exact Nat.mul_le_mul_left _ (by omega)
   have h4:p*ab<=p*255:=Nat.mul_le_mul_left _ (by omega)
   rw [if_pos (by omega)];omega
def xI (a b:Id) (m:Nat):Id:=BitVec.ofNat 256 (xL a.toNat b.toNat m)
theorem Gw (a b:Id):xI a b 0=0#256:=by unfold xI;rw [show xL a.toNat b.toNat 0=0 from by have:=xG a.toNat b.toNat 0;omega]
theorem t6 (a b:Id) (m:Nat) (hm:m<=32):(xI a b m).toNat=xL a.toNat b.toNat m:=by
 unfold xI
 rw [BitVec.toNat_ofNat,Nat.mod_eq_of_lt]
 have:=xG a.toNat b.toNat m
 have h2:256 ^ m<=256 ^ 32:=Nat.pow_le_pow_right (by decide) hm
 have h3:(256:Nat) ^ 32=2 ^ 256:=by decide
 omega
theorem gF (x:Id) (k:Nat) (h:1<=k) (hk:k<=32):x.toNat / 256 ^ (32 - k) % 256=bA x (k - 1):=by
 unfold bA kG;rw [show 31 - (k - 1)=32 - k from by omega]
theorem Mf (a b:Id) (k:Nat) (h:1<=k) (hk:k<=32) (hc:(bA b (k - 1):Int) - bA a (k - 1) - kX a.toNat b.toNat (32 - k)<0):kX a.toNat b.toNat (32 - (k - 1))=1:=by
 rw [show 32 - (k - 1)=(32 - k)+1 from by omega,As _ _ _ _ _ (gF b k h hk) (gF a k h hk),if_pos hc]
theorem IV (a b:Id) (k:Nat) (h:1<=k) (hk:k<=32) (hc:¬ (bA b (k - 1):Int) - bA a (k - 1) - kX a.toNat b.toNat (32 - k)<0):kX a.toNat b.toNat (32 - (k - 1))=0:=by
 rw [show 32 - (k - 1)=(32 - k)+1 from by omega,As _ _ _ _ _ (gF b k h hk) (gF a k h hk),if_neg hc]
theorem C9 (a b:Id) (k:Nat) (h:1<=k) (hk:k<=32):
 (aJ (xI a b (32 - k))).setIfInBounds (k - 1) (.int .u8 (((bA b (k - 1):Int) - bA a (k - 1) - kX a.toNat b.toNat (32 - k)) % 256))=aJ (xI a b (32 - (k - 1))):=by
 obtain ⟨v,hv⟩:∃ v:Nat,(v:Int)=((bA b (k - 1):Int) - bA a (k - 1) - kX a.toNat b.toNat (32 - k)) % 256:=⟨(((bA b (k - 1):Int) - bA a (k - 1) - kX a.toNat b.toNat (32 - k)) % 256).toNat,by omega⟩
 have hv2:v<256:=by omega
 rw [← hv,Fo _ _ _ hv2]
 congr 1
 have e:k - 1=31 - (32 - k):=by omega
 have hl:=t6 a b (32 - k) (by omega)
 rw [e,L4 _ _ _ (by omega) (by rw [hl];exact xG _ _ _) hv2,hl,← HG a.toNat b.toNat (32 - k) _ _ v (gF b k h hk) (gF a k h hk) (f4 _ _) (f4 _ _) hv]
 unfold xI
 rw [← e,show 32 - (k - 1)=(32 - k)+1 from by omega]
theorem Pz (a b:Id) (k:Nat) (h:k=0):xI a b (32 - k)=b - a:=by
 subst h
 apply BitVec.eq_of_toNat_eq
 rw [t6 _ _ _ (by omega),BitVec.toNat_sub]
 have ha:=a.isLt
 have hb:=b.isLt
 unfold xL
 rw [show (256:Nat) ^ (32 - 0)=2 ^ 256 from by decide,Nat.mod_eq_of_lt hb,Nat.mod_eq_of_lt ha]
 congr 1;omega
def pR (k:Nat):Id:=BitVec.ofNat 256 (2 ^ k)
def yB (x:Nat) (i:Nat):Nat:=x / 2 ^ (255 - i) % 2
def eW (a b:Id):Int:=if a.toNat<b.toNat then -1 else if b.toNat<a.toNat then 1 else 0
def dE (x y:Int):Int:=if x<y then -1 else if y<x then 1 else 0
theorem lQ (x:Id) (k:Nat) (hk:k<32):x.toNat / 256 ^ (31 - k)=x.toNat / 256 ^ (32 - k)*256+bA x k:=by
 unfold bA kG
 have:=j6 x.toNat (31 - k)
 rw [show 31 - k+1=32 - k from by omega] at this
 exact this
theorem LY (a b:Id):a.toNat / 256 ^ (32 - 0)=b.toNat / 256 ^ (32 - 0):=by
 have ha:=a.isLt
 have hb:=b.isLt
 have h3:(256:Nat) ^ (32 - 0)=2 ^ 256:=by decide
 rw [Nat.div_eq_of_lt (by omega),Nat.div_eq_of_lt (by omega)]
theorem Ha (a b:Id) (k:Nat) (hk:k<32) (h:a.toNat / 256 ^ (32 - k)=b.toNat / 256 ^ (32 - k)) (he:(bA a k:Int)=bA b k):
 a.toNat / 256 ^ (32 - (k+1))=b.toNat / 256 ^ (32 - (k+1)):=by
 rw [show 32 - (k+1)=31 - k from by omega,lQ a k hk,lQ b k hk,h];omega
theorem ON (a b:Id) (k:Nat) (hk:k=32) (h:a.toNat / 256 ^ (32 - k)=b.toNat / 256 ^ (32 - k)):a=b:=by
 subst hk;apply BitVec.eq_of_toNat_eq;simpa using h
theorem mF {x y p:Nat} (h:x / p<y / p):x<y:=by
 rcases as4 x y with g|g
 ·exact g
 ·have:=Nat.div_le_div_right (c:=p) g;omega
theorem SB (a b:Id) (k:Nat) (hk:k<32) (h:a.toNat / 256 ^ (32 - k)=b.toNat / 256 ^ (32 - k)) (hne:(bA a k:Int)≠bA b k):dE (bA a k) (bA b k)=eW a b:=by
 have ha:=lQ a k hk
 have hb:=lQ b k hk
 unfold dE eW
 rcases Nat.lt_trichotomy (bA a k) (bA b k) with g|g|g
 ·rw [if_pos (by omega),if_pos (mF (p:=256 ^ (31 - k)) (by omega))]
 ·omega
 ·have h2:b.toNat<a.toNat:=mF (p:=256 ^ (31 - k)) (by omega)
  rw [if_neg (by omega),if_pos (by omega),if_neg (by omega),if_pos h2]
theorem FK (a:Id):eW a a=0:=by simp [eW]
theorem AO (x k:Nat) (hk:k<256):x / 2 ^ (255 - k)=x / 2 ^ (256 - k)*2+yB x k:=by
 unfold yB
 have:2 ^ (256 - k)=2 ^ (255 - k)*2:=by rw [← Nat.pow_succ];congr 1;omega
 rw [this,← Nat.div_div_eq_div_mul];omega
theorem Fx (a b:Id):a.toNat / 2 ^ (256 - 0)=b.toNat / 2 ^ (256 - 0):=by
 have ha:=a.isLt
 have hb:=b.isLt
 rw [Nat.div_eq_of_lt (by omega),Nat.div_eq_of_lt (by omega)]
theorem E7 (a b:Id) (k:Nat) (hk:k<256) (h:a.toNat / 2 ^ (256 - k)=b.toNat / 2 ^ (256 - k)) (he:(yB a.toNat k:Int)=yB b.toNat k):
 a.toNat / 2 ^ (256 - (k+1))=b.toNat / 2 ^ (256 - (k+1)):=by
 rw [show 256 - (k+1)=255 - k from by omega,AO _ k hk,AO _ k hk,h];omega
def xq (x a b:Id):Bool:=decide (a=b) || (decide (x≠a) && decide ((x - a).toNat<=(b - a).toNat))
theorem Pw (a b:Id):decide (eW a b<=0)=decide (a.toNat<=b.toNat):=by
 unfold eW
 by_cases h1:a.toNat<b.toNat
 ·rw [if_pos h1];simp;omega
 ·rw [if_neg h1]
  by_cases h2:b.toNat<a.toNat
  ·rw [if_pos h2];simp;omega
  ·rw [if_neg h2];simp;omega
theorem Qu (a b:Id):decide (eW a b<0)=decide (a.toNat<b.toNat):=by
 unfold eW
 by_cases h1:a.toNat<b.toNat
 ·rw [if_pos h1];simp;omega
 ·rw [if_neg h1]
  by_cases h2:b.toNat<a.toNat
  ·rw [if_pos h2];simp;omega
  ·rw [if_neg h2];simp;omega
theorem HU (x a:Id):xq x a a=true:=by simp [xq]
def eX (f:Nat->Nat) (n:Nat):Array Value:=((List.range n).map λi=>Value.int .u8 (f i:Int)).toArray
theorem fh (x:Id):aJ x=eX (bA x) 32:=rfl
@[simp] theorem ay (f:Nat->Nat) (n:Nat):(eX f n).size=n:=by simp [eX]
theorem nH (f:Nat->Nat) (n i:Nat) (h:i<n):(eX f n)[i]? = some (.int .u8 (f i:Int)):=by simp [eX,h]
def LP (f:Nat->Nat) (n:Nat):ByteArray:=⟨((List.range n).map λi=>UInt8.ofNat (f i)).toArray⟩
@[simp] theorem Ff (f:Nat->Nat) (n:Nat):(LP f n).size=n:=by simp [LP,ByteArray.size]
section
variable {ro:Option Nat} {P:Program} {ops:Array Oper} {Q:Act->World->Prop} {l:List Oper} {a:Act} {w w0:World} {N:Nat} {L:List (Nat × Value)} {Df:List Deferred} {B:List Own} {d:Tmp} {ty:TypeId} {pos:String} {af:Array Edge} {x y:Operand} {t t' e:TypeId}
end
section
variable {P:Program} {ρ:Operand->Value} {d:Option Tmp} {ty:TypeId} {pos:String} {af:Array Edge} {g:Option (Nat × Bool)} {x y:Operand} {t t' e:TypeId} {k k':IntKind} {m n:Int}
theorem kv {s:ByteArray} (ht:P.underlying t=some .string) (hx:ρ x=.string s):a8 P ⟨d,.call {callee:=.builtin .len,args:=#[x],argTypes:=#[t]},ty,pos,af,g⟩ ρ (.int .i64 (s.size:Int)):=λw=>by
 simp [execOp,resolve,hx,invoke,builtin,Builtin.len_,au7,ar1 ht,goInt]
end
def ag7 (n:Nat):Nat:=if n<10 then 48+n else 87+n
def dg (a:Id) (i:Nat):Nat:=ag7 (if i % 2=0 then bA a (i / 2) / 16 else bA a (i / 2) % 16)
def tx (a:Id) (k:Nat) (i:Nat):Nat:=if i<2*k then dg a i else 0
theorem bK {P:Program} {f:FuncId} {vs:Array Value} {w:World} {X:Value} (Y:Value) (h:Calls P f vs w (bW w (is X))) (e:X=Y):Calls P f vs w (bW w (is Y)):=e▸h
section
variable {ro:Option Nat} {P:Program} {ops:List Oper} {K:Act->World->Prop} {Q:Act->World->Prop} {l:List Oper} {a:Act} {w:World} {N:Nat} {L:List (Nat × Value)} {Df:List Deferred} {d:Tmp} {op:Op} {ty:TypeId} {pos:String} {af:Array Edge}
theorem Cf {ops:Array Oper} {j:Nat} {b:Bool} {od:Oper} {t:Tmp} (h:Sl N a L Df) (hj:ops[j]? = some od) (ht:od.dst=some t) (hv:lk L t=some undef) (d:Option Tmp):Region.wanted ⟨d,op,ty,pos,af,some (j,b)⟩ (yielded ops a.tmps)=false:=by
 have h2:=h.holds t _ hv
 have hy:yielded ops a.tmps j=none:=by
  unfold yielded
  by_cases hlt:t<a.tmps.size
  ·have h3:a.tmps[t]? = some undef:=by simp [hlt] at h2 ⊢;exact h2
   simp [hj,ht,h3,undef]
  ·have h3:a.tmps[t]? = none:=at0 (Nat.le_of_not_lt hlt)
   simp [hj,ht,h3]
 simp [Region.wanted,hy]
theorem SO {j:Nat} {b:Bool} {od:Oper} {t:Tmp} (h:Sl N a L Df) (hj:ops[j]? = some od) (ht:od.dst=some t) (hv:lk L t=some undef) (hd:Nat.blt d N=true)
 (k:∀ a',Sl N a' ((d,undef)::L) Df->ip P ops.toArray K w l a'):ip P ops.toArray K w (⟨some d,op,ty,pos,af,some (j,b)⟩::l) a:=by
 refine ⟨undef,?_,k _ (h.put hd undef)⟩
 rw [Cf h (by simpa using hj) ht hv];rfl
end
end Go.Proofs.YthmlflaiidhoiaaGreatDoor
namespace Go.Proofs.YthmlflaiidhoiaaGreatDoor
open Go.ChangeShapes Go.WideShapes Go.ChangeAt Go.RowKit
variable {H:Type} {enc:TypeId × Value->H} {P:Program}
theorem Ce (hl:laidOutB P=true) {W W':World} (hb:Below W.heap.size W W') {t:TypeId} {v:Value} {d:DataW H} {p:List MemPlace} (hr:P.readableRec t=true) (ht:t<P.types.size)
 (h:DataW.Trod enc P W 0 (λ_=>true) true t v d p) (hlt:∀ x∈p,x.block<W.heap.size):DataW.Trod enc P W' 0 (λb=>decide (b<W.heap.size)) true t v d p:=
 WideElems.Trod_stays hl hr ht h (λx hx=>hb.same (hlt x hx)) (λx hx=>by simpa using hlt x hx)
theorem mG (hl:laidOutB P=true) {W W':World} (hb:Below W.heap.size W W'):∀ {ts:List TypeId} {vs:List Value} {ds:List (DataW H)} {p:List MemPlace},
 (∀ t∈ts,P.readableRec t=true/\t<P.types.size)->DataW.TrodAll enc P W 0 (λ_=>true) true ts vs ds p->(∀ x∈p,x.block<W.heap.size)->
 DataW.TrodAll enc P W' 0 (λb=>decide (b<W.heap.size)) true ts vs ds p
 |[],[],[],_,_,h,_=>h
 |t::ts,v::vs,d::ds,_,hr,⟨p,q,h1,h2,e⟩,hlt=>by
  subst e
  exact ⟨p,q,Ce hl hb (hr t ar5).1 (hr t ar5).2 h1 (λx hx=>hlt x (List.mem_append_left _ hx)),
   mG hl hb (λt' ht'=>hr t' (as5 _ ht')) h2 (λx hx=>hlt x (List.mem_append_right _ hx)),rfl⟩
 |[],_::_,_,_,_,h,_=>h.elim
 |[],[],_::_,_,_,h,_=>h.elim
 |_::_,[],_,_,_,h,_=>h.elim
 |_::_,_::_,[],_,_,h,_=>h.elim
theorem Cb (hl:laidOutB P=true) {W W':World} (hb:Below W.heap.size W W') {ts:List TypeId} {vs:List Value} {ds:List (DataW H)} {p:List MemPlace}
 (hr:(ts.all λt=>P.readableRec t && decide (t<P.types.size))=true) (h:DataW.TrodAll enc P W 0 (λ_=>true) true ts vs ds p) (hlt:∀ x∈p,x.block<W.heap.size):
 DataW.TrodAll enc P W' 0 (λb=>decide (b<W.heap.size)) true ts vs ds p:=
 mG hl hb (λt ht=>by have:=aq6.1 hr t ht;simpa using this) h hlt
theorem Qg {w:World} {base:Nat} {spare:Nat->Bool} {held:Bool} {t e:TypeId} {v:Value} {d:DataW H} {ps:List MemPlace} (T:IdTy P t e) (hc:P.cellsOf t=32) (hce:P.cellsOf e=1)
 (h:DataW.Trod enc P w base spare held t v d ps):∃ x:Id,v=kL x:=by
 obtain ⟨fuel,hf⟩:=h
 obtain ⟨xs,m,rfl,_,hlen,hxl,hel⟩:=DataW.trod_array T.desc hf
 rw [hc] at hlen
 cases v with
 |agg cs=>
  have hcs:cs.size=32:=by simpa [Value.cells] using hlen
  have key:∀ i,i<32->∃ n:Nat,n<256/\cs[i]? = some (.int .u8 (n:Int)):=λi hi=>by
   have h1:=hel i hi
   have hx:xs[i]? = some xs[i]:=by simp
   rw [hce,hx] at h1
   have hci:cs.toList[i]? = some cs[i]:=by simp
   have hone:((Value.agg cs).cells.toList.drop (i*1)).take 1=[cs[i]]:=by
    show (cs.toList.drop (i*1)).take 1=_
    rw [Nat.mul_one,List.drop_eq_getElem_cons (by simpa [hcs] using hi)]
    simp
   rw [hone] at h1
   obtain ⟨n,he,_,hwf⟩:=DataW.trod_int T.one h1
   have hb:=bounds_u8 hwf
   refine ⟨n.toNat,by omega,?_⟩
   have hcn:cs[i]=.int .u8 n:=by simpa using he
   have:((n.toNat:Nat):Int)=n:=by omega
   rw [this,← hcn];simp [hcs,hi]
  let f:Nat->Nat:=λi=>if h:i<32 then Classical.choose (key i h) else 0
  have hf256:∀ i,f i<256:=λi=>by
   show (if h:i<32 then Classical.choose (key i h) else 0)<256
   split
   ·rename_i h;exact(Classical.choose_spec (key i h)).1
   ·decide
  refine ⟨nk f,?_⟩
  refine aq3 Value.agg ?_
  apply Array.ext_getElem?
  intro i
  by_cases hi:i<32
  ·rw [ed _ i hi,gb f hf256 i hi,(Classical.choose_spec (key i hi)).2]
   show _=some (Value.int .u8 ((if h:i<32 then Classical.choose (key i h) else 0:Nat):Int))
   rw [dif_pos hi]
  ·rw [at0 (by omega),at0 (by simp;omega)]
 |_=>simp [Value.cells] at hlen
theorem Vy {n:Int} (h:(Lit.int .i64 n).wf=true) : -9223372036854775808<=n/\n<=9223372036854775807:=bounds_i64 h
end Go.Proofs.YthmlflaiidhoiaaGreatDoor
namespace Go.Proofs.YthmlflaiidhoiaaGreatDoor
theorem XO (a:Id) (k:Nat):a+pR k - a=pR k:=by
 apply BitVec.eq_of_toNat_eq
 have:=a.isLt;have:=(pR k).isLt
 simp only [BitVec.toNat_add,BitVec.toNat_sub];omega
def I4 (a b:Id) (n:Nat):Prop:=n<=256/\a.toNat / 2 ^ (256 - n)=b.toNat / 2 ^ (256 - n)/\(n<256->yB a.toNat n≠yB b.toNat n)
theorem sU (a b:Id):∀ d k,k+d=256->a.toNat / 2 ^ (256 - k)=b.toNat / 2 ^ (256 - k)->∃ n,I4 a b n
 |0,k,hk,h=>⟨k,by omega,h,λhl=>by omega⟩
 |d+1,k,hk,h=>by
  by_cases e:yB a.toNat k=yB b.toNat k
  ·exact sU a b d (k+1) (by omega) (E7 a b k (by omega) h (by rw [e]))
  ·exact ⟨k,by omega,h,λ_=>e⟩
theorem n4 (a b:Id):∃ n,I4 a b n:=sU a b 256 0 rfl (Fx a b)
noncomputable def zx (a b:Id):Nat:=Classical.choose (n4 a b)
theorem T7 (a b:Id):I4 a b (zx a b):=Classical.choose_spec (n4 a b)
theorem KM (a b:Id):zx a b<=256:=(T7 a b).1
end Go.Proofs.YthmlflaiidhoiaaGreatDoor
namespace Go.Proofs.YthmlflaiidhoiaaGreatDoor
open Go.RowKit
structure Elm (P:Program) (e:TypeId) (sz by_:Nat):Prop where
 info:∃ i z,P.info? e=some i/\i.zero=some z/\i.size=sz/\i.bytes=by_/\z.cells.size=sz
 pos:0<sz
theorem dl (P:Program) (g o:Nat) (t:TypeId) (fz:Nat × Nat):∀ (vs:List Value) (i:Nat) (cur:Array Value) (w:World),w.heap[g]? = some (.cells cur t fz)->(fz.2=0∨cur.size<=fz.1)->o+i+vs.length<=cur.size->(∀ v∈vs,v.oneCell'=true)->
 (storeCells ⟨g,o,none⟩ vs i).run P w=.ok () (w.setRow g (cur.toList.take (o+i)++vs++cur.toList.drop (o+i+vs.length)).toArray)
 |[],i,cur,w,hg,_,_,_=>by
  simp only [storeCells,av4,at6,Nat.add_zero,as7,Array.toArray_toList]
  rw [setRow_self w g cur t fz hg]
  rfl
 |v::rest,i,cur,w,hg,hz,hl,h1=>by
  have hi:o+i<cur.size:=by simp at hl;omega
  have hadd:(⟨g,o,none⟩:Addr).add i=⟨g,o+i,none⟩:=by unfold Addr.add;split<;>simp_all
  have hcell:w.cell? ⟨g,o+i,none⟩=some cur[o+i]:=by simp [World.cell?,hg,hi]
  have hfro:w.frozen? ⟨g,o+i,none⟩=false:=by
   simp [World.frozen?,hg]
   omega
  have hst:(store ((⟨g,o,none⟩:Addr).add i) v).run P w=.ok () (w.setRow g (cur.setIfInBounds (o+i) v)):=by
   rw [hadd,run_store P w _ v _ (h1 v (by simp)),hcell]
   simp [hfro,setCell_eq_setRow w g (o+i) cur t fz v hg]
  have ih:=dl P g o t fz rest (i+1) (cur.setIfInBounds (o+i) v) (w.setRow g (cur.setIfInBounds (o+i) v)) (setRow_heap w g cur _ t _ hg) (by simpa using hz) (by simp at hl ⊢;omega) (λx hx=>h1 x (by simp [hx]))
  simp only [storeCells,au7,hst,aq9,ih,setRow_setRow]
  congr 3
  have e:=list_seg_step cur.toList (o+i) v rest (by simp at hl ⊢;omega)
  simpa [Array.toList_setIfInBounds,Nat.add_assoc] using e
theorem p5 {P:Program} (w:World) (t ty e:TypeId) (i:TypeInfo) (ht:P.underlying t=some (.slice e)) (hi:P.info? e=some i)
 (g sLen sCap:Nat) (cur:Array Value) (fz:Nat × Nat) (hg:w.heap[g]? = some (.cells cur e fz)) (hz:fz.2=0∨cur.size<=fz.1)
 (a:Addr) (m c:Nat) (news:List Value) (hl:news.length=m*i.size) (hnews:∀ j u,news[j]? = some u->w.cell? (a.add j)=some u) (h1:∀ u∈news,u.oneCell'=true)
 (hroom:sLen+m<=sCap) (hfit:sLen*i.size+news.length<=cur.size):
 (Builtin.append_ #[t,t] ty #[.slice (some ⟨g,0,none⟩) sLen sCap,.slice (some a) m c]).run P w =
  .ok (.slice (some ⟨g,0,none⟩) (sLen+m) sCap) (w.setRow g (cur.toList.take (sLen*i.size)++news++cur.toList.drop (sLen*i.size+news.length)).toArray):=by
 have hf:=run_firstCells_some (P:=P) w i.size m a m c news hl hnews
 have hst:=dl P g (sLen*i.size) e fz news 0 cur w hg hz (by simpa using hfit) h1
 simp only [Nat.add_zero] at hst
 simp [Builtin.append_,ar1 ht,sizeOf,typeInfo,hi,Builtin.lenOf,hroom,hf,Addr.add_lit,hst]
theorem mI {P:Program} {w w0:World} {t ty e:TypeId} {sz by_:Nat} (ht:P.underlying t=some (.slice e)) (E:Elm P e sz by_) {v:Value} {n:Nat} {xs:List Value} (hown:cd w w0.heap.size e sz v n xs)
 {a:Addr} {m c:Nat} {news:List Value} (hl:news.length=m*sz) (hnews:∀ (j:Nat) u,news[j]? = some u->w.cell? (a.add j)=some u) (h1:∀ u∈news,u.oneCell'=true) (hm:1<=m)
 (h63:n+m<=maxLen) (hbytes:(n+m)*by_<=140737488355328) (hbase:w0.heap.size<=w.heap.size):
 ∃ v' w',(Builtin.append_ #[t,t] ty #[v,.slice (some a) m c]).run P w=.ok v' w'/\cd w' w0.heap.size e sz v' (n+m) (xs++news)/\Grw w w' v.ownBlock/\(v'.ownBlock=v.ownBlock∨v'.ownBlock=some w.heap.size):=by
 obtain ⟨i,z,hi,hz,rfl,rfl,hzs⟩:=E.info
 have hsmall:n+m<=9223372036854775807:=by simp only [maxLen] at h63;omega
 have hlen:(xs++news).length=(n+m)*i.size:=by rw [aq7,hown.1,hl,Nat.add_mul]
 have hnew:∀ (cap:Nat) (rest:Array Value),n+m<=cap->cap<=maxLen->rest.size=(cap - (n+m))*i.size->cd (w.drew.alloc (.cells (xs.toArray++news.toArray++rest) e)) w0.heap.size e i.size (.slice (some ⟨w.heap.size,0,none⟩) (n+m) cap) (n+m) (xs++news):=λcap rest h2 h3 h4=>by
  refine ⟨hlen,.inr ⟨w.heap.size,cap,_,(0,0),rfl,hbase,heap_alloc_new w.drew _,.inl rfl,h2,h3,?_,?_⟩⟩
  ·rw [Array.size_append,Array.size_append,List.size_toArray,List.size_toArray,hown.1,hl,h4,← Nat.add_mul,← Nat.add_mul]
   congr 1;omega
  ·rw [Array.toList_append,Array.toList_append,← hlen];exact List.take_left
 have hgrow:∀ (o:Obj) (row:Option Nat),Grw w (w.drew.alloc o) row:=λo row=>⟨⟨rfl,rfl,rfl,by simp,λk hk _=>Below.heap_alloc w.drew _ k hk⟩,Nat.le_succ _⟩
 have hrest:∀ old,(Builtin.zeroCells z.cells (grownCap w (n+m) old e - (n+m))).size=(grownCap w (n+m) old e - (n+m))*i.size:=λold=>by rw [size_zeroCells,hzs]
 rcases hown.2 with ⟨rfl,rfl⟩|⟨g,cap,cur,fz,rfl,hbg,hg,hfz,hnc,hcm,hcs,htake⟩
 ·have hx:xs=[]:=List.eq_nil_of_length_eq_zero (by simpa using hown.1)
  subst hx
  have hr:=run_append_nil (P:=P) w t ty e i z ht hi hz a m c news hl hnews (by omega) (by omega) (by have hb:=hbytes;simp only [Nat.zero_add] at hb;omega)
  have h9:=hnew (grownCap w (0+m) 0 e) _ (grownCap_ge w _ 0 e) (grownCap_le_maxLen w _ 0 e h63) (hrest 0)
  simp only [Nat.zero_add,List.nil_append,Array.empty_append] at h9 hr ⊢
  exact ⟨_,_,hr,h9,hgrow _ _,.inr rfl⟩
 ·by_cases hroom:n+m<=cap
  ·have hfit:n*i.size+news.length<=cur.size:=by rw [hl,hcs,← Nat.add_mul];exact Nat.mul_le_mul_right _ hroom
   have hr:=p5 (P:=P) w t ty e i ht hi g n cap cur fz hg hfz a m c news hl hnews h1 hroom hfit
   refine ⟨_,_,hr,⟨hlen,.inr ⟨g,cap,_,fz,rfl,hbg,setRow_heap w g cur _ e _ hg,?_,hroom,hcm,?_,?_⟩⟩,⟨⟨rfl,rfl,rfl,by simp,λk _ hk=>setRow_other w g k _ (λe=>hk (by simp [Value.ownBlock,e]))⟩,as1 _⟩,.inl rfl⟩
   ·refine hfz.imp id λh9=>?_
    simp only [List.size_toArray,aq7,au0,at2,ar2]
    omega
   ·simp only [List.size_toArray,aq7,au0,at2,ar2]
    omega
   ·rw [htake,← hlen]
    exact List.take_left
  ·have hcells:∀ (j:Nat) u,xs[j]? = some u->w.cell? ((⟨g,0,none⟩:Addr).add j)=some u:=hown.cells (g:=g) rfl
   have hr:=run_append_grow (P:=P) w t ty e i z ht hi hz ⟨g,0,none⟩ n cap xs hown.1 hcells a m c news hl hnews (by omega) (by omega) (growslice_fits (by omega) hbytes)
   exact ⟨_,_,hr,hnew _ _ (grownCap_ge w _ cap e) (grownCap_le_maxLen w _ cap e h63) (hrest cap),hgrow _ _,.inr rfl⟩
section
variable {ro:Option Nat} {P:Program} {ops:Array Oper} {Q:Act->World->Prop} {l:List Oper} {a:Act} {w w0:World} {N:Nat} {L:List (Nat × Value)} {Df:List Deferred} {B:List Own} {d:Tmp} {ty:TypeId} {pos:String} {af:Array Edge} {x y:Operand} {t e:TypeId}
theorem fR {w:World} {base:Nat} {e:TypeId} {sz:Nat} {v:Value} {n:Nat} {xs:List Value} (h:cd w base e sz v n xs):∃ a c,v=.slice a n c:=by
 rcases h.2 with ⟨rfl,rfl⟩|⟨g,cap,cur,fz,rfl,_⟩
 ·exact ⟨none,0,rfl⟩
 ·exact ⟨_,cap,rfl⟩
theorem yk {w:World} {base:Nat} {e:TypeId} {sz:Nat} {v:Value} {n:Nat} {xs:List Value} (h:cd w base e sz v n xs) (hn:1<=n):∃ g c,v=.slice (some ⟨g,0,none⟩) n c:=by
 rcases h.2 with ⟨rfl,rfl⟩|⟨g,cap,cur,fz,rfl,_⟩
 ·omega
 ·exact ⟨g,cap,rfl⟩
theorem jS {v v2:Value} {sz by_ n m:Nat} {xs ys:List Value} (i j:Nat) (h:Sl N a L Df) (s:St w0 B w) (ht:P.underlying t=some (.slice e)) (E:Elm P e sz by_) (hx:ec L x=some v) (hy:ec L y=some v2)
 (hi:B[i]? = some (.sl v e sz n xs)) (hj:B[j]? = some (.sl v2 e sz m ys)) (hm:1<=m) (h1:∀ u∈ys,u.oneCell'=true) (h63:n+m<=maxLen) (hbytes:(n+m)*by_<=140737488355328) (hd:Nat.blt d N=true)
 (k:∀ a' w' v',Sl N a' ((d,v')::L) Df->St w0 (B.set i (.sl v' e sz (n+m) (xs++ys))) w'->ce P ops Q l a' w'):
 ce P ops Q (⟨some d,.call {callee:=.builtin .append,args:=#[x,y],argTypes:=#[t,t]},ty,pos,af,none⟩::l) a w:=by
 have hv:=s.getSl i hi
 have hv2:=s.getSl j hj
 obtain ⟨g2,c2,rfl⟩:=yk hv2 hm
 obtain ⟨v',w',hr,h2,h3,h4⟩:=mI (ty:=ty) ht E hv (a:=⟨g2,0,none⟩) (m:=m) (c:=c2) (news:=ys) hv2.1 (hv2.cells (g:=g2) rfl) h1 hm h63 hbytes s.ext.le
 refine dR (R:=λu w''=>u=v'/\w''=w') h (by
  unfold cL
  simp only [execOp,resolve,invoke,builtin,au7,au8,aq9,List.map_toArray,List.map_cons,List.map_nil,h.ev hx,h.ev hy,hr]
  first|exact ⟨rfl,rfl⟩|exact ⟨trivial,rfl⟩|exact ⟨trivial,trivial⟩|trivial) hd λa' w'' u ⟨e1,e2⟩ hs=>?_
 subst e1;subst e2
 refine k _ _ _ hs (s.upd i hi h3.os h3.tape h3.output h3.size h2 (λk hk=>?_) (λk hk hne=>?_) h3.drawn)
 ·rcases h4 with h4|h4
  ·exact .inl (Own.at_sl.2 (by rw [← Own.at_sl.1 hk];exact h4.symm))
  ·right
   have:u.ownBlock=some k:=Own.at_sl.1 hk
   rw [h4] at this;cases this;exact as1 _
 ·exact h3.block k hk λe=>hne (Own.at_sl.2 e.symm)
end
theorem m8 (o:Nat):∀ (l:List Value) (k:Nat) (cells:Array Value),o+k+l.length<=cells.size->
 ((l.zipIdx k).foldl (λcs p=>cs.setIfInBounds (o+p.2) p.1) cells).toList=cells.toList.take (o+k)++l++cells.toList.drop (o+k+l.length)
 |[],k,cells,_=>by simp
 |c::l,k,cells,h=>by
  simp only [at5] at h
  rw [List.zipIdx_cons,List.foldl_cons,m8 o l (k+1) _ (by simp;omega)]
  have hlt:o+k<cells.toList.length:=by simp;omega
  simp only [Array.toList_setIfInBounds,at5]
  have e1:List.take (o+k+1) (cells.toList.set (o+k) c)=List.take (o+k) cells.toList++[c]:=by
   rw [List.take_set,List.take_succ_eq_append_getElem hlt,List.set_append_right _ _ (by simp;omega)]
   have:o+k - (List.take (o+k) cells.toList).length=0:=by simp;omega
   rw [this];rfl
  rw [show o+(k+1)=o+k+1 from by omega,e1,List.drop_set_of_lt (by omega),show o+k+1+l.length=o+k+(l.length+1) from by omega]
  simp
theorem sR (sz:Nat):∀ (vs:List Value) (k:Nat) (cells:Array Value),(∀ v∈vs,v.cells.size=sz)->(k+vs.length)*sz<=cells.size->
 ∃ D:Array Value,Instr.fill (λi=>some (i*sz,sz)) cells ((vs.zipIdx k).map λp=>(p.2,p.1))=some D/\D.toList=cells.toList.take (k*sz)++vs.flatMap (·.cells.toList)++cells.toList.drop ((k+vs.length)*sz)
 |[],k,cells,_,_=>⟨cells,rfl,by simp⟩
 |v::vs,k,cells,hv,hs=>by
  have hv1:=hv v ar5
  have e9:(k+(v::vs).length)*sz=k*sz+sz+vs.length*sz:=by simp [Nat.add_mul];omega
  have hroom:k*sz+0+v.cells.toList.length<=cells.size:=by
   simp only [ar2,hv1];omega
  have hf:=m8 (k*sz) v.cells.toList 0 cells hroom
  generalize hD:(v.cells.toList.zipIdx).foldl (λcs p=>cs.setIfInBounds (k*sz+p.2) p.1) cells=C1 at hf
  simp only [Nat.add_zero,ar2,hv1] at hf
  have hC1:C1.size=cells.size:=by
   have:=aq3 List.length hf
   simp only [ar2,aq7,au0,at2,hv1] at this
   omega
  obtain ⟨D,h1,h2⟩:=sR sz vs (k+1) C1 (λu hu=>hv u (as5 _ hu)) (by rw [hC1];simp [Nat.add_mul] at e9 hs ⊢;omega)
  refine ⟨D,?_,?_⟩
  ·rw [List.zipIdx_cons,List.map_cons,Instr.fill]
   have hc:¬ ((v.cells.size≠sz || decide (k*sz+v.cells.size>cells.size))=true):=by
    rw [hv1];simp only [ne_eq,not_true_eq_false,decide_false,Bool.false_or,ar0];simp at hroom;omega
   have hz:v.cells.zipIdx.foldl (λcs (x:Value × Nat)=>match x with|(c,j)=>cs.setIfInBounds (k*sz+j) c) cells=C1:=by
    rw [← hD,← Array.foldl_toList,Array.toList_zipIdx]
   simp only
   rw [if_neg hc,hz]
   exact h1
  ·rw [h2,hf]
   have hl1:(cells.toList.take (k*sz)).length=k*sz:=by simp;omega
   have hl2:(cells.toList.take (k*sz)++v.cells.toList).length=(k+1)*sz:=by
    rw [aq7,hl1,ar2,hv1,Nat.add_mul];omega
   rw [List.take_append_of_le_length (Nat.le_of_eq hl2.symm),as9 (Nat.le_of_eq hl2)]
   rw [List.drop_append,hl2,List.drop_eq_nil_of_le (by rw [hl2];exact Nat.mul_le_mul_right _ (by omega)),List.nil_append,List.drop_drop]
   rw [List.flatMap_cons,av3,av3,av3,av3]
   congr 4
   have e5:(k+1+vs.length)*sz=(k+1)*sz+vs.length*sz:=Nat.add_mul ..
   have e6:(k+(v::vs).length)*sz=(k+1)*sz+vs.length*sz:=by rw [← Nat.add_mul];congr 1;simp;omega
   have e7:(k+1)*sz=k*sz+sz:=Nat.succ_mul ..
   omega
section
variable {ro:Option Nat} {P:Program} {ops:Array Oper} {Q:Act->World->Prop} {l:List Oper} {a:Act} {w w0:World} {N:Nat} {L:List (Nat × Value)} {Df:List Deferred} {B:List Own} {d:Tmp} {ty:TypeId} {pos:String} {af:Array Edge} {x y:Operand} {t t' e:TypeId}
theorem aa0 {as:List Operand} {vs:List Value} (h:Sl N a L Df) (hvs:as.map (ec L)=vs.map some):as.map a.eval=vs:=by
 induction as generalizing vs with
 |nil=>cases vs with
  |nil=>rfl
  |cons v vs=>simp at hvs
 |cons x as ih=>cases vs with
  |nil=>simp at hvs
  |cons v vs=>
   simp only [List.map_cons,List.cons.injEq] at hvs
   simp only [List.map_cons,h.ev hvs.1,ih hvs.2]
theorem zM {sz:Nat}:∀ (vs:List Value),(∀ v∈vs,v.cells.size=sz)->(vs.flatMap (·.cells.toList)).length=vs.length*sz
 |[],_=>by simp
 |v::vs,hv=>by rw [List.flatMap_cons,aq7,zM vs (λu hu=>hv u (as5 _ hu)),ar2,hv v ar5,at5,Nat.add_mul];omega
theorem ef {sz by_ len:Nat} {parts:Array (Nat × Operand)} (xs:List Operand) {vs:List Value} (h:Sl N a L Df) (s:St w0 B w) (ht:P.underlying t=some (.slice e)) (E:Elm P e sz by_)
 (hp:parts.toList=xs.zipIdx.map λp=>(p.2,p.1)) (hxs:xs.map (ec L)=vs.map some) (hv:∀ v∈vs,v.cells.size=sz) (hl:vs.length=len) (hlen:Nat.ble (len*sz) 16777216=true) (hd:Nat.blt d N=true)
 (k:∀ a' w' v',Sl N a' ((d,v')::L) Df->St w0 (.sl v' e sz len (vs.flatMap (·.cells.toList))::B) w'->ce P ops Q l a' w'):
 ce P ops Q (⟨some d,.buildSlice t len parts,ty,pos,af,none⟩::l) a w:=by
 obtain ⟨i,z,hi,hz,hsz,_,hzs⟩:=E.info
 have hpos:=E.pos
 have hle:len*sz<=16777216:=by simpa using hlen
 obtain ⟨C,hf,hC⟩:∃ C:Array Value,Instr.fill (λi=>some (i*sz,sz)) ((Array.range (len*sz)).map ((if len*sz=0 then #[] else z.cells)[· % (if len*sz=0 then (#[]:Array Value) else z.cells).size]!)) (parts.map λ(i,x)=>(i,a.eval x)).toList=some C/\C.toList=vs.flatMap (·.cells.toList):=by
  obtain ⟨C,h1,h2⟩:=sR sz vs 0 ((Array.range (len*sz)).map ((if len*sz=0 then #[] else z.cells)[· % (if len*sz=0 then (#[]:Array Value) else z.cells).size]!)) hv (by simp [hl])
  refine ⟨C,?_,?_⟩
  ·rw [← h1]
   congr 1
   rw [Array.toList_map,hp,List.map_map]
   have:=aa0 h hxs
   rw [← this]
   clear h1 h2 hp this
   generalize (0:Nat)=k
   clear hxs hl hv
   induction xs generalizing k with
   |nil=>rfl
   |cons x xs ih=>simp only [List.zipIdx_cons,List.map_cons,Function.comp];rw [ih]
  ·rw [h2];simp [hl]
 have hCs:C.size=len*sz:=by
  have:=aq3 List.length hC
  rw [ar2] at this
  rw [this,← hl]
  exact zM vs hv
 refine dR (R:=λu w''=>u=.slice (some ⟨w.heap.size,0,none⟩) len len/\w''=w.alloc (.cells C e)) h ?_ hd λa' w'' u ⟨e1,e2⟩ hs=>?_
 ·have hn:¬ len*sz>2 ^ 24:=by omega
  have hrun:(Instr.buildSlice t len (parts.map λ(i,x)=>(i,a.eval x))).run P w=.ok (.slice (some ⟨w.heap.size,0,none⟩) len len) (w.alloc (.cells C e)):=by
   unfold Instr.buildSlice
   by_cases h0:len*sz=0
   ·simp only [h0,if_true] at hf
    simp only [au7,ar1 ht,aq9,sizeOf,typeInfo,run_program,hi,au8,hsz,h0,newRow]
    simp only [show ¬ (0:Nat)>2 ^ 24 by decide,if_false,if_true,au7,au8,aq9,hf,run_newObj]
    rfl
   ·simp only [h0,if_false] at hf
    simp only [au7,ar1 ht,aq9,sizeOf,typeInfo,run_program,hi,au8,hsz,newRow]
    simp only [hn,h0,if_false,zeroValue,typeInfo,au7,run_program,hi,hz,au8,aq9,hf,run_newObj]
    rfl
  unfold cL
  simp only [execOp,au7,hrun,aq9,au8]
  first|exact ⟨rfl,rfl⟩|exact ⟨trivial,rfl⟩|exact ⟨trivial,trivial⟩|trivial
 ·subst e1;subst e2
  have hl2:len<=maxLen:=by
   have:=Nat.le_mul_of_pos_right len hpos
   unfold maxLen;omega
  rw [← hC] at k
  exact k _ _ _ hs (s.plus ((Ext.refl w).alloc _) _ ⟨by simp [hCs],.inr ⟨w.heap.size,len,C,(0,0),rfl,s.ext.le,heap_alloc_new w _,.inl rfl,as1 _,hl2,hCs,by rw [← hCs];exact as9 (by simp)⟩⟩ λk hk=>by rw [Own.at_sl] at hk;simp [Value.ownBlock] at hk;omega)
end
section
variable {P:Program} {ρ:Operand->Value} {d:Option Tmp} {ty:TypeId} {pos:String} {af:Array Edge} {g:Option (Nat × Bool)} {x y:Operand} {t t' e:TypeId} {k k':IntKind} {m n:Int}
theorem Hy {tys:Array TypeId} (hx:ρ x=.int k m) (hy:ρ y=.int k n):a8 P ⟨d,.call {callee:=.builtin .min,args:=#[x,y],argTypes:=tys},ty,pos,af,g⟩ ρ (.int k (if n<m then n else m)):=λw=>by
 simp [execOp,resolve,hx,hy,invoke,builtin,Builtin.min_,Builtin.min2,au7]
structure Ext1 (P:Program) (f:FuncId) (e:Array Value->Sem Value):Prop where
 has:∃ fn,P.funcs[f]? = some fn/\(fn.name == "runtime.NumGoroutine")=false/\fn.body.isNone=true/\Extern.findNext fn=none/\Extern.find fn=some e
end
def sb (s:ByteArray) (j:Nat):Nat:=(s.data.toList.getD j 0).toNat
theorem oQ (s:ByteArray) (j:Nat):sb s j<256:=UInt8.toNat_lt _
def hv (c:Nat):Nat:=if 48<=c/\c<58 then c - 48 else if 97<=c/\c<103 then c - 87 else 16
end Go.Proofs.YthmlflaiidhoiaaGreatDoor
