/- Identifiers as numbers of 256 bits. -/
import Derived.WalkKit
import Derived.ProofKit
import Derived.Laws.Rows
import Derived.Laws.BytesString
import Derived.Laws.Strings
import Derived.OpenShut
import Derived.Laws.AppendOwn
import Derived.Laws.StructEq
import Derived.Laws.Externs
import Derived.Lib.Bytealg
import Derived.Test.YthmlflaiidhoiaaGreatDoorEng
set_option linter.unusedVariables false
set_option linter.unusedSimpArgs false
set_option linter.unusedSectionVars false
namespace Go.Proofs.YthmlflaiidhoiaaGreatDoor
open Go.RowKit
abbrev Id:=BitVec 256
def kA (x:Nat) (i:Nat):Nat:=x / 256 ^ (31 - i) % 256
def bP (x:Id) (i:Nat):Nat:=kA x.toNat i
def fo (x:Id):List Value:=(List.range 32).map λi=>.int .u8 (bP x i:Int)
def aH (x:Id):Array Value:=(fo x).toArray
abbrev iy (x:Id):Value:=.agg (aH x)
theorem iu (x:Id) (i:Nat):bP x i<256:=aO6 _ (by omega)
@[simp] theorem lW (x:Id):(fo x).length=32:=by simp [fo]
@[simp] theorem aA (x:Id):(aH x).size=32:=by simp [aH]
theorem rz (x:Id) (i:Nat) (h:i<32):(fo x)[i]? = some (.int .u8 (bP x i:Int)):=by
 simp [fo,h]
theorem eH (x:Id) (i:Nat) (h:i<32):(aH x)[i]? = some (.int .u8 (bP x i:Int)):=by
 simpa [aH] using rz x i h
theorem lr (x k:Nat):x / 256 ^ k=(x / 256 ^ (k+1))*256+x / 256 ^ k % 256:=by
 rw [Nat.pow_succ,← Nat.div_div_eq_div_mul];omega
theorem Hj {x y:Nat} (hx:x<2 ^ 256) (hy:y<2 ^ 256) (h:∀ i,i<32->kA x i=kA y i):x=y:=by
 have key:∀ k,k<=32->x / 256 ^ (32 - k)=y / 256 ^ (32 - k):=by
  intro k
  induction k with
  |zero=>intro _;rw [Nat.div_eq_of_lt (by simpa using hx),Nat.div_eq_of_lt (by simpa using hy)]
  |succ k ih=>
   intro hk
   have h1:=ih (by omega)
   have h2:=h k (by omega)
   unfold kA at h2
   rw [show 32 - (k+1)=31 - k from by omega,lr x,lr y,show 31 - k+1=32 - k from by omega,h1,h2]
 simpa using key 32 (aJ1 _)
theorem D3 {x y:Id} (h:∀ i,i<32->bP x i=bP y i):x=y:=
 BitVec.eq_of_toNat_eq (Hj x.isLt y.isLt h)
theorem qF {x y:Id} (h:aH x=aH y):x=y:=D3 λi hi=>by
 have h1:=eH x i hi
 have h2:=eH y i hi
 rw [h,h2] at h1
 simp at h1
 omega
def rV (f:Nat->Nat):Nat->Nat
 |0=>0
 |n+1=>rV f n*256+f n
theorem GH (f:Nat->Nat) (hf:∀ i,f i<256):∀ n,rV f n<256 ^ n
 |0=>by simp [rV]
 |n+1=>by have:=GH f hf n;have:=hf n;rw [rV,Nat.pow_succ];omega
theorem KG (f:Nat->Nat) (hf:∀ i,f i<256) (n:Nat):∀ k,k<=n->rV f n / 256 ^ (n - k)=rV f k:=by
 intro k hk
 induction n with
 |zero=>obtain rfl:k=0:=(by omega);simp
 |succ n ih=>
  by_cases h:k=n+1
  ·subst h;simp
  ·have:=ih (by omega)
   rw [show n+1 - k=(n - k)+1 from by omega,Nat.pow_succ,Nat.mul_comm,← Nat.div_div_eq_div_mul,rV]
   have h2:=hf n
   rw [show (rV f n*256+f n) / 256=rV f n from by omega]
   exact this
theorem Da (f:Nat->Nat) (hf:∀ i,f i<256) (i:Nat) (hi:i<32):kA (rV f 32) i=f i:=by
 unfold kA
 rw [show 31 - i=32 - (i+1) from by omega,KG f hf 32 (i+1) (by omega),rV]
 have:=hf i
 omega
def Co (f:Nat->Nat):Id:=BitVec.ofNat 256 (rV f 32)
theorem rm (f:Nat->Nat) (hf:∀ i,f i<256) (i:Nat) (hi:i<32):bP (Co f) i=f i:=by
 unfold bP Co
 have:=GH f hf 32
 rw [BitVec.toNat_ofNat,Nat.mod_eq_of_lt (by simpa using this)]
 exact Da f hf i hi
def JC (x:Id) (j v:Nat):Id:=Co λi=>if i=j then v % 256 else bP x i
theorem qY (x:Id) (j v i:Nat) (hi:i<32):bP (JC x j v) i=if i=j then v % 256 else bP x i:=by
 unfold JC
 rw [rm _ (λi=>by split;exact aO6 _ (by omega);exact iu _ _) i hi]
theorem wc (x:Id) (j v:Nat) (hv:v<256):(aH x).setIfInBounds j (.int .u8 (v:Int))=aH (JC x j v):=by
 apply Array.ext_getElem?
 intro i
 by_cases hi:i<32
 ·rw [eH _ i hi,qY x j v i hi]
  by_cases hij:j=i
  ·subst hij;simp [hi,Nat.mod_eq_of_lt hv]
  ·rw [aK1 hij,eH _ i hi,if_neg (λe=>hij e.symm)]
 ·rw [aK0 (by simp;omega),aK0 (by simp;omega)]
theorem zY (i:Nat):bP 0#256 i=0:=by simp [bP,kA]
theorem eJ:aH 0#256=#[.int .u8 0,.int .u8 0,.int .u8 0,.int .u8 0,.int .u8 0,.int .u8 0,.int .u8 0,.int .u8 0,.int .u8 0,.int .u8 0,.int .u8 0,.int .u8 0,.int .u8 0,.int .u8 0,.int .u8 0,.int .u8 0,.int .u8 0,.int .u8 0,.int .u8 0,.int .u8 0,.int .u8 0,.int .u8 0,.int .u8 0,.int .u8 0,.int .u8 0,.int .u8 0,.int .u8 0,.int .u8 0,.int .u8 0,.int .u8 0,.int .u8 0,.int .u8 0]:=by
 simp [aH,fo,zY,List.range_succ]
def xu (a b m:Nat):Nat:=(b % 256 ^ m+256 ^ m - a % 256 ^ m) % 256 ^ m
def ma (a b m:Nat):Nat:=if b % 256 ^ m<a % 256 ^ m then 1 else 0
theorem k6 (x:Id):∀ v∈(aH x).toList,v.oneCell'=true:=by
 intro v hv
 simp [aH,fo] at hv
 obtain ⟨i,_,rfl⟩:=hv
 rfl
structure IdTy (P:Program) (t e:TypeId):Prop where
 desc:P.underlying t=some (.array 32 e)
 info:(P.info? e).map (·.size)=some 1
 one:P.underlying e=some (.int .u8)
 guard:P.eqGuardType P.depth t=false
 zero:(P.info? t).bind (·.zero)=some (iy 0#256)
theorem R1 {a b:Nat}:((a:Int) == (b:Int))=decide (a=b):=by
 rw [aN6];simp only [beq_iff_eq,aI0];omega
theorem nR {P:Program} {t e:TypeId} (T:IdTy P t e) (x:Id) (i:Nat) (hi:i<32) (w:World):(part e (aH x) i).run P w=.ok (.int .u8 (bP x i:Int)) w:=by
 have h1:(isAgg e).run P w=.ok false w:=by
  unfold isAgg;rw [aL7,aI1 T.one w];rfl
 simp only [part,aL7,h1,aH9,Bool.false_eq_true,if_false]
 rw [eH x i hi];rfl
theorem rD {P:Program} {t e:TypeId} (T:IdTy P t e) (w:World):(sizeOf e).run P w=.ok 1 w:=by
 cases hi:P.info? e with
 |none=>have:=T.info;simp [hi] at this
 |some i=>have:=T.info;simp [hi] at this;simp [sizeOf,typeInfo,aL7,hi,this]
theorem BN {P:Program} {t e:TypeId} (T:IdTy P t e) (x y:Id) (d:Nat) (w:World) (F:Nat->Option Bool × Unit->Sem (ForInStep (Option Bool × Unit)))
 (hF:∀ i,i<32->∀ r,(F i r).run P w=if bP x i=bP y i then .ok (.yield (none,())) w else .ok (.done (some false,())) w):
 ∀ n s,s+n<=32->(forIn (List.range' s n) ((none,()):Option Bool × Unit) F).run P w=.ok (if (List.range' s n).all (λi=>decide (bP x i=bP y i))=true then none else some false,()) w:=by
 intro n
 induction n with
 |zero=>intro s _;simp
 |succ n ih=>
  intro s hs
  simp only [List.range'_succ,List.forIn_cons,aL7,hF s (by omega)]
  by_cases h:bP x s=bP y s
  ·rw [if_pos h]
   simp only [aH9]
   rw [ih (s+1) (by omega)]
   simp only [List.all_cons,h,decide_true,Bool.true_and]
  ·rw [if_neg h]
   simp [h]
theorem mn {P:Program} {t e:TypeId} (T:IdTy P t e) (x y:Id) (d:Nat) (w:World):(Op.equalIn (d+2) t (iy x) (iy y)).run P w=.ok (decide (x=y)) w:=by
 unfold Op.equalIn
 simp only [aL7,aI1 T.desc w,aH9,rD T w]
 simp only [Std.Legacy.Range.forIn_eq_forIn_range']
 rw [BN T x y d w _ (λi hi r=>by
  simp only [aL7,Nat.mul_one,nR T x i hi,nR T y i hi,aH9,run_equalIn_int w d e _ .u8 _ _ T.one,R1]
  by_cases h:bP x i=bP y i<;>simp [h]) _ 0 (by decide)]
 simp only [aH9]
 have:(List.range' 0 [:32].size).all (λi=>decide (bP x i=bP y i))=true↔x=y:=
  ⟨λg=>D3 λi hi=>by have:=aH6.1 g i (by simp [List.mem_range',Std.Legacy.Range.size];omega);simpa using this,λe=>by subst e;simp⟩
 by_cases h:x=y
 ·rw [if_pos (this.2 h)];simp [h]
 ·rw [if_neg (λg=>h (this.1 g))];simp [h]
section
variable {P:Program} {ρ:Operand->Value} {d:Option Tmp} {ty:TypeId} {pos:String} {af:Array Edge} {g:Option (Nat × Bool)} {a b:Operand} {t t' e:TypeId} {x y:Id}
theorem dC (T:IdTy P t e) (hx:ρ a=iy x) (hy:ρ b=iy y):aZ P ⟨d,.binOp .eql t a b t',ty,pos,af,g⟩ ρ (.bool (decide (x=y))):=λw=>by
 simp only [execOp,hx,hy,aL7,run_eqGuard_agg w .eql t a b _ _ T.guard,aH9,run_eql_struct]
 rw [show (10000:Nat)=9998+2 from rfl,mn T x y];rfl
theorem vP (T:IdTy P t e) (hx:ρ a=iy x) (hy:ρ b=iy y):aZ P ⟨d,.binOp .neq t a b t',ty,pos,af,g⟩ ρ (.bool (decide (x≠y))):=λw=>by
 simp only [execOp,hx,hy,aL7,run_eqGuard_agg w .neq t a b _ _ T.guard,aH9,run_neq_struct]
 rw [show (10000:Nat)=9998+2 from rfl,mn T x y]
 simp
theorem fT (T:IdTy P t e):aZ P ⟨d,.build t #[],ty,pos,af,g⟩ ρ (iy 0#256):=λw=>by
 cases hi:P.info? t with
 |none=>have:=T.zero;simp [hi] at this
 |some i=>
  have hz:i.zero=some (iy 0#256):=by have:=T.zero;simpa [hi] using this
  have hz':i.zero=some (.agg (aH 0#256)):=hz
  cases he:P.info? e with
  |none=>have:=T.info;simp [he] at this
  |some j=>
   simp [execOp,Instr.build,aL7,aI1 T.desc w,zeroValue,typeInfo,hi,hz',sizeOf,he,Instr.fill,Value.cells]
end
theorem Hg {P:Program} {ρ:Operand->Value} {d:Option Tmp} {ty:TypeId} {pos:String} {af:Array Edge} {g:Option (Nat × Bool)} {c x y:Operand} {X:Value} (hc:ρ c=.bool true) (hx:ρ x=X):aZ P ⟨d,.pick c x y,ty,pos,af,g⟩ ρ X:=EQ hc (by simpa using hx)
theorem In {P:Program} {ρ:Operand->Value} {d:Option Tmp} {ty:TypeId} {pos:String} {af:Array Edge} {g:Option (Nat × Bool)} {c x y:Operand} {X:Value} (hc:ρ c=.bool false) (hy:ρ y=X):aZ P ⟨d,.pick c x y,ty,pos,af,g⟩ ρ X:=EQ hc (by simpa using hy)
theorem QD {ro:Option Nat} {P:Program} {id:Nat} {n:Nat} {L:List (Nat × Value)} {Df:List Deferred} {ops:List Oper} (m:Nat) (cls:List (List Nat)) {a:Act} {w:World} {Q:Exit->Act->World->Prop} (h:Sl n a L Df)
 (hm:P.follows .mixedOrders=true) (hok:jU ops m cls n=true) (hsel:Region.noSelect ops.toArray=true)
 (k:jd P ops.toArray (cQ P ops.toArray (Q .normal) (ops.drop m)) w (ops.take m) a):(Code.region id ops.toArray true).wpIn (FR ro) 0 P Q a w:=by
 have hml:=F5 hok
 have e:ops.take m++ops.drop m=ops:=aJ7 m ops
 have el:(ops.take m).length=m:=by simp;omega
 have:=uI (ro:=ro) (id:=id) (l:=ops.take m) (tl:=ops.drop m) cls (a0:=a) (w0:=w) (Q:=Q) hm (by rw [e,el,h.size];exact hok) (by rw [e];exact hsel) (by rw [e];exact k)
 rwa [e] at this
theorem Ih (low v m i:Nat) (hl:low<256 ^ m) (hv:v<256) (hm:m<32) (hi:i<32):kA (low+256 ^ m*v) i=if i=31 - m then v else kA low i:=by
 unfold kA
 have hp:0<256 ^ m:=Nat.pow_pos (by decide)
 rcases Nat.lt_trichotomy (31 - i) m with h|h|h
 ·have e:256 ^ m=256 ^ (31 - i)*256 ^ (m - (31 - i)):=by rw [← Nat.pow_add];congr 1;omega
  have e2:256 ^ (m - (31 - i))=256*256 ^ (m - (31 - i) - 1):=by rw [← Nat.pow_succ'];congr 1;omega
  rw [if_neg (by omega),e,Nat.mul_assoc,Nat.add_mul_div_left _ _ (Nat.pow_pos (by decide)),e2,Nat.mul_assoc]
  omega
 ·rw [if_pos (by omega),h,Nat.add_mul_div_left _ _ hp,Nat.div_eq_of_lt hl];omega
 ·have e:256 ^ m*256<=256 ^ (31 - i):=by rw [← Nat.pow_succ];exact Nat.pow_le_pow_right (by decide) h
  have h1:256 ^ m*v+256 ^ m<=256 ^ m*256:=by rw [← Nat.mul_succ];exact Nat.mul_le_mul_left _ hv
  rw [if_neg (by omega),Nat.div_eq_of_lt (by omega),Nat.div_eq_of_lt (by omega)]
theorem Nb (x:Id) (m v:Nat) (hm:m<32) (hx:x.toNat<256 ^ m) (hv:v<256):JC x (31 - m) v=BitVec.ofNat 256 (x.toNat+256 ^ m*v):=by
 refine D3 λi hi=>?_
 rw [qY x _ v i hi]
 have hlt:x.toNat+256 ^ m*v<2 ^ 256:=by
  have h1:256 ^ m*v+256 ^ m<=256 ^ m*256:=by rw [← Nat.mul_succ];exact Nat.mul_le_mul_left _ hv
  have h2:256 ^ m*256<=256 ^ 32:=by rw [← Nat.pow_succ];exact Nat.pow_le_pow_right (by decide) hm
  have h3:(256:Nat) ^ 32=2 ^ 256:=by decide
  omega
 unfold bP
 rw [BitVec.toNat_ofNat,Nat.mod_eq_of_lt hlt,Ih _ _ _ _ hx hv hm hi,Nat.mod_eq_of_lt hv]
theorem pz (x m:Nat):x % 256 ^ (m+1)=x % 256 ^ m+256 ^ m*(x / 256 ^ m % 256):=by rw [Nat.pow_succ,Nat.mod_mul]
theorem Hh (a b:Nat):ma a b 0=0:=by simp [ma,Nat.mod_one]
theorem RG (a b m:Nat):ma a b m<=1:=by unfold ma;split<;>omega
theorem xL (a b m:Nat):xu a b m<256 ^ m:=aO6 _ (Nat.pow_pos (by decide))
theorem GI (a b m:Nat):xu a b m=if b % 256 ^ m<a % 256 ^ m then b % 256 ^ m+256 ^ m - a % 256 ^ m else b % 256 ^ m - a % 256 ^ m:=by
 have hp:0<256 ^ m:=Nat.pow_pos (by decide)
 have h1:=aO6 a hp
 have h2:=aO6 b hp
 unfold xu
 generalize 256 ^ m=p at *
 split
 ·rw [Nat.mod_eq_of_lt (by omega)]
 ·rw [show b % p+p - a % p=(b % p - a % p)+p from by omega,Nat.add_mod_right,Nat.mod_eq_of_lt (by omega)]
theorem Bu (a b m:Nat) (bb ab:Nat) (hb:b / 256 ^ m % 256=bb) (ha:a / 256 ^ m % 256=ab):
 ma a b (m+1)=if (bb:Int) - ab - ma a b m<0 then 1 else 0:=by
 have hp:0<256 ^ m:=Nat.pow_pos (by decide)
 have h1:=aO6 a hp
 have h2:=aO6 b hp
 unfold ma
 rw [pz a,pz b,ha,hb]
 generalize 256 ^ m=p at *
 rcases Nat.lt_trichotomy bb ab with h|h|h
 ·have h3:p*bb+p<=p*ab:=by rw [← Nat.mul_succ];exact Nat.mul_le_mul_left _ h
  rw [if_pos (by omega),if_pos (by split<;>omega)]
 ·subst h
  by_cases h4:b % p<a % p
  ·rw [if_pos (by omega),if_pos (by rw [if_pos h4];omega)]
  ·rw [if_neg (by omega),if_neg (by rw [if_neg h4];omega)]
 ·have h3:p*ab+p<=p*bb:=by rw [← Nat.mul_succ];exact Nat.mul_le_mul_left _ h
  rw [if_neg (by omega),if_neg (by split<;>omega)]
theorem Ly (a b m:Nat) (bb ab v:Nat) (hb:b / 256 ^ m % 256=bb) (ha:a / 256 ^ m % 256=ab) (hb2:bb<256) (ha2:ab<256)
 (hv:(v:Int)=((bb:Int) - ab - ma a b m) % 256):xu a b (m+1)=xu a b m+256 ^ m*v:=by
 have hp:0<256 ^ m:=Nat.pow_pos (by decide)
 have h1:=aO6 a hp
 have h2:=aO6 b hp
 have h9:256 ^ (m+1)=256 ^ m*256:=Nat.pow_succ ..
 rw [GI a b (m+1),GI a b m,pz a,pz b,ha,hb,h9]
 unfold ma at hv
 generalize 256 ^ m=p at *
 by_cases h:b % p<a % p
 ·rw [if_pos h] at hv
  rw [if_pos h]
  by_cases h5:ab<bb
  ·have e:bb=ab+1+v:=by omega
   have e2:p*bb=p*ab+p+p*v:=by rw [e,Nat.mul_add,Nat.mul_add,Nat.mul_one]
   rw [if_neg (by omega)];omega
  ·have e:v+ab=bb+255:=by omega
   have e2:p*v+p*ab=p*bb+p*255:=by rw [← Nat.mul_add,← Nat.mul_add,e]
   have h3:p*bb<=p*ab:=Nat.mul_le_mul_left _ (by omega)
   have h4:p*ab<=p*255:=Nat.mul_le_mul_left _ (by omega)
   rw [if_pos (by omega)];omega
 ·rw [if_neg h] at hv
  rw [if_neg h]
  by_cases h5:ab<=bb
  ·have e:bb=ab+v:=by omega
   have e2:p*bb=p*ab+p*v:=by rw [e,Nat.mul_add]
   rw [if_neg (by omega)];omega
  ·have e:v+ab=bb+256:=by omega
   have e2:p*v+p*ab=p*bb+p*256:=by rw [← Nat.mul_add,← Nat.mul_add,e]
   have h3:p*bb+p<=p*ab:=by rw [← Nat.mul_succ];exact Nat.mul_le_mul_left _ (by omega)
   have h4:p*ab<=p*255:=Nat.mul_le_mul_left _ (by omega)
   rw [if_pos (by omega)];omega
def yj (a b:Id) (m:Nat):Id:=BitVec.ofNat 256 (xu a.toNat b.toNat m)
theorem Hm (a b:Id):yj a b 0=0#256:=by unfold yj;rw [show xu a.toNat b.toNat 0=0 from by have:=xL a.toNat b.toNat 0;omega]
theorem u7 (a b:Id) (m:Nat) (hm:m<=32):(yj a b m).toNat=xu a.toNat b.toNat m:=by
 unfold yj
 rw [BitVec.toNat_ofNat,Nat.mod_eq_of_lt]
 have:=xL a.toNat b.toNat m
 have h2:256 ^ m<=256 ^ 32:=Nat.pow_le_pow_right (by decide) hm
 have h3:(256:Nat) ^ 32=2 ^ 256:=by decide
 omega
theorem iz (x:Id) (k:Nat) (h:1<=k) (hk:k<=32):x.toNat / 256 ^ (32 - k) % 256=bP x (k - 1):=by
 unfold bP kA;rw [show 31 - (k - 1)=32 - k from by omega]
theorem NX (a b:Id) (k:Nat) (h:1<=k) (hk:k<=32) (hc:(bP b (k - 1):Int) - bP a (k - 1) - ma a.toNat b.toNat (32 - k)<0):ma a.toNat b.toNat (32 - (k - 1))=1:=by
 rw [show 32 - (k - 1)=(32 - k)+1 from by omega,Bu _ _ _ _ _ (iz b k h hk) (iz a k h hk),if_pos hc]
theorem J5 (a b:Id) (k:Nat) (h:1<=k) (hk:k<=32) (hc:¬ (bP b (k - 1):Int) - bP a (k - 1) - ma a.toNat b.toNat (32 - k)<0):ma a.toNat b.toNat (32 - (k - 1))=0:=by
 rw [show 32 - (k - 1)=(32 - k)+1 from by omega,Bu _ _ _ _ _ (iz b k h hk) (iz a k h hk),if_neg hc]
theorem FE (a b:Id) (k:Nat) (h:1<=k) (hk:k<=32):
 (aH (yj a b (32 - k))).setIfInBounds (k - 1) (.int .u8 (((bP b (k - 1):Int) - bP a (k - 1) - ma a.toNat b.toNat (32 - k)) % 256))=aH (yj a b (32 - (k - 1))):=by
 obtain ⟨v,hv⟩:∃ v:Nat,(v:Int)=((bP b (k - 1):Int) - bP a (k - 1) - ma a.toNat b.toNat (32 - k)) % 256:=⟨(((bP b (k - 1):Int) - bP a (k - 1) - ma a.toNat b.toNat (32 - k)) % 256).toNat,by omega⟩
 have hv2:v<256:=by omega
 rw [← hv,wc _ _ _ hv2]
 congr 1
 have e:k - 1=31 - (32 - k):=by omega
 have hl:=u7 a b (32 - k) (by omega)
 rw [e,Nb _ _ _ (by omega) (by rw [hl];exact xL _ _ _) hv2,hl,← Ly a.toNat b.toNat (32 - k) _ _ v (iz b k h hk) (iz a k h hk) (iu _ _) (iu _ _) hv]
 unfold yj
 rw [← e,show 32 - (k - 1)=(32 - k)+1 from by omega]
theorem RA (a b:Id) (k:Nat) (h:k=0):yj a b (32 - k)=b - a:=by
 subst h
 apply BitVec.eq_of_toNat_eq
 rw [u7 _ _ _ (by omega),BitVec.toNat_sub]
 have ha:=a.isLt
 have hb:=b.isLt
 unfold xu
 rw [show (256:Nat) ^ (32 - 0)=2 ^ 256 from by decide,Nat.mod_eq_of_lt hb,Nat.mod_eq_of_lt ha]
 congr 1;omega
def qi (k:Nat):Id:=BitVec.ofNat 256 (2 ^ k)
def oF (x:Nat) (i:Nat):Nat:=x / 2 ^ (255 - i) % 2
theorem Qq (a:Id) (i:Nat) (hi:i<256):bP a (i / 8) / 2 ^ (7 - i % 8) % 2=oF a.toNat i:=by
 unfold oF bP kA
 have h1:256 ^ (31 - i / 8)=2 ^ (8*(31 - i / 8)):=by rw [Nat.pow_mul]
 have h3:2 ^ (255 - i)=2 ^ (8*(31 - i / 8))*2 ^ (7 - i % 8):=by rw [← Nat.pow_add];congr 1;omega
 rw [h3,← Nat.div_div_eq_div_mul,h1]
 generalize a.toNat / 2 ^ (8*(31 - i / 8))=x
 have h2:(256:Nat)=2 ^ (7 - i % 8)*(2*2 ^ (i % 8)):=by
  rw [← Nat.pow_succ',← Nat.pow_add]
  rw [show 7 - i % 8+(i % 8).succ=8 from by omega]
 have h4:x % 256 / 2 ^ (7 - i % 8)=x / 2 ^ (7 - i % 8) % (2*2 ^ (i % 8)):=by
  conv=>lhs;rw [h2]
  rw [Nat.mod_mul_right_div_self]
 rw [h4,Nat.mod_mul_right_mod]
theorem Io (b j:Nat):((b / 2 ^ j:Nat):Int) / 2=((b / 2 ^ (j+1):Nat):Int):=by
 rw [Nat.pow_succ,← Nat.div_div_eq_div_mul];omega
def ei (a b:Id):Int:=if a.toNat<b.toNat then -1 else if b.toNat<a.toNat then 1 else 0
def cH (x y:Int):Int:=if x<y then -1 else if y<x then 1 else 0
theorem mJ (x:Id) (k:Nat) (hk:k<32):x.toNat / 256 ^ (31 - k)=x.toNat / 256 ^ (32 - k)*256+bP x k:=by
 unfold bP kA
 have:=lr x.toNat (31 - k)
 rw [show 31 - k+1=32 - k from by omega] at this
 exact this
theorem L9 (a b:Id):a.toNat / 256 ^ (32 - 0)=b.toNat / 256 ^ (32 - 0):=by
 have ha:=a.isLt
 have hb:=b.isLt
 have h3:(256:Nat) ^ (32 - 0)=2 ^ 256:=by decide
 rw [Nat.div_eq_of_lt (by omega),Nat.div_eq_of_lt (by omega)]
theorem N4 (a b:Id) (k:Nat) (hk:k<32) (h:a.toNat / 256 ^ (32 - k)=b.toNat / 256 ^ (32 - k)) (he:(bP a k:Int)=bP b k):
 a.toNat / 256 ^ (32 - (k+1))=b.toNat / 256 ^ (32 - (k+1)):=by
 rw [show 32 - (k+1)=31 - k from by omega,mJ a k hk,mJ b k hk,h];omega
theorem Qw (a b:Id) (k:Nat) (hk:k=32) (h:a.toNat / 256 ^ (32 - k)=b.toNat / 256 ^ (32 - k)):a=b:=by
 subst hk;apply BitVec.eq_of_toNat_eq;simpa using h
theorem iM {x y p:Nat} (h:x / p<y / p):x<y:=by
 rcases aJ4 x y with g|g
 ·exact g
 ·have:=Nat.div_le_div_right (c:=p) g;omega
theorem Xn (a b:Id) (k:Nat) (hk:k<32) (h:a.toNat / 256 ^ (32 - k)=b.toNat / 256 ^ (32 - k)) (hne:(bP a k:Int)≠bP b k):cH (bP a k) (bP b k)=ei a b:=by
 have ha:=mJ a k hk
 have hb:=mJ b k hk
 unfold cH ei
 rcases Nat.lt_trichotomy (bP a k) (bP b k) with g|g|g
 ·rw [if_pos (by omega),if_pos (iM (p:=256 ^ (31 - k)) (by omega))]
 ·omega
 ·have h2:b.toNat<a.toNat:=iM (p:=256 ^ (31 - k)) (by omega)
  rw [if_neg (by omega),if_pos (by omega),if_neg (by omega),if_pos h2]
theorem wU (a:Id):ei a a=0:=by simp [ei]
theorem kj (x k:Nat) (hk:k<256):x / 2 ^ (255 - k)=x / 2 ^ (256 - k)*2+oF x k:=by
 unfold oF
 have:2 ^ (256 - k)=2 ^ (255 - k)*2:=by rw [← Nat.pow_succ];congr 1;omega
 rw [this,← Nat.div_div_eq_div_mul];omega
theorem xi (a b:Id):a.toNat / 2 ^ (256 - 0)=b.toNat / 2 ^ (256 - 0):=by
 have ha:=a.isLt
 have hb:=b.isLt
 rw [Nat.div_eq_of_lt (by omega),Nat.div_eq_of_lt (by omega)]
theorem xf (a b:Id) (k:Nat) (hk:k<256) (h:a.toNat / 2 ^ (256 - k)=b.toNat / 2 ^ (256 - k)) (he:(oF a.toNat k:Int)=oF b.toNat k):
 a.toNat / 2 ^ (256 - (k+1))=b.toNat / 2 ^ (256 - (k+1)):=by
 rw [show 256 - (k+1)=255 - k from by omega,kj _ k hk,kj _ k hk,h];omega
theorem Ju (a b:Id) (k:Nat) (hk:k=256) (h:a.toNat / 2 ^ (256 - k)=b.toNat / 2 ^ (256 - k)):a=b:=by
 subst hk;apply BitVec.eq_of_toNat_eq;simpa using h
theorem Q1 (a b:Id) (k:Nat) (hk:k<256) (h:a.toNat / 2 ^ (256 - k)=b.toNat / 2 ^ (256 - k)) (hne:(oF a.toNat k:Int)<oF b.toNat k):ei a b = -1:=by
 have ha:=kj a.toNat k hk
 have hb:=kj b.toNat k hk
 unfold ei
 rw [if_pos (iM (p:=2 ^ (255 - k)) (by omega))]
theorem Q4 (a b:Id) (k:Nat) (hk:k<256) (h:a.toNat / 2 ^ (256 - k)=b.toNat / 2 ^ (256 - k)) (hne:(oF b.toNat k:Int)<oF a.toNat k):ei a b=1:=by
 have ha:=kj a.toNat k hk
 have hb:=kj b.toNat k hk
 unfold ei
 have h2:b.toNat<a.toNat:=iM (p:=2 ^ (255 - k)) (by omega)
 rw [if_neg (by omega),if_pos h2]
def zb (x a b:Id):Bool:=decide (a=b) || (decide (x≠a) && decide ((x - a).toNat<=(b - a).toNat))
theorem Qv (a b:Id):decide (ei a b<=0)=decide (a.toNat<=b.toNat):=by
 unfold ei
 by_cases h1:a.toNat<b.toNat
 ·rw [if_pos h1];simp;omega
 ·rw [if_neg h1]
  by_cases h2:b.toNat<a.toNat
  ·rw [if_pos h2];simp;omega
  ·rw [if_neg h2];simp;omega
theorem SK (a b:Id):decide (ei a b<0)=decide (a.toNat<b.toNat):=by
 unfold ei
 by_cases h1:a.toNat<b.toNat
 ·rw [if_pos h1];simp;omega
 ·rw [if_neg h1]
  by_cases h2:b.toNat<a.toNat
  ·rw [if_pos h2];simp;omega
  ·rw [if_neg h2];simp;omega
theorem JD (x a:Id):zb x a a=true:=by simp [zb]
def cS (f:Nat->Nat) (n:Nat):Array Value:=((List.range n).map λi=>Value.int .u8 (f i:Int)).toArray
theorem eg (x:Id):aH x=cS (bP x) 32:=rfl
@[simp] theorem au (f:Nat->Nat) (n:Nat):(cS f n).size=n:=by simp [cS]
theorem ow (f:Nat->Nat) (n i:Nat) (h:i<n):(cS f n)[i]? = some (.int .u8 (f i:Int)):=by simp [cS,h]
theorem yX {f g:Nat->Nat} {n:Nat} (h:∀ i,i<n->f i=g i):cS f n=cS g n:=by
 unfold cS
 congr 1
 exact List.map_congr_left λi hi=>by rw [h i (aI7.1 hi)]
theorem Eu (f:Nat->Nat) (n j v:Nat):(cS f n).setIfInBounds j (.int .u8 (v:Int))=cS (λi=>if i=j then v else f i) n:=by
 apply Array.ext_getElem?
 intro i
 by_cases hi:i<n
 ·rw [ow _ n i hi]
  by_cases hij:j=i
  ·subst hij;simp [hi]
  ·rw [aK1 hij,ow _ n i hi,if_neg (λe=>hij e.symm)]
 ·rw [aK0 (by simp;omega),aK0 (by simp;omega)]
def rM (f:Nat->Nat) (n:Nat):ByteArray:=⟨((List.range n).map λi=>UInt8.ofNat (f i)).toArray⟩
@[simp] theorem Yr (f:Nat->Nat) (n:Nat):(rM f n).size=n:=by simp [rM,ByteArray.size]
theorem uN (l:List UInt8):∀ s:ByteArray,l.foldl (λr c=>r.push c) s=⟨s.data++l.toArray⟩:=by
 induction l with
 |nil=>intro s;simp
 |cons c l ih=>
  intro s
  rw [List.foldl_cons,ih]
  simp [ByteArray.push]
theorem Do (f:Nat->Nat) (n:Nat):(((List.range n).map λi=>(f i:Int)).foldl (λr m=>r.push (UInt8.ofNat m.toNat)) ByteArray.empty)=rM f n:=by
 have:(((List.range n).map λi=>(f i:Int)).foldl (λr m=>r.push (UInt8.ofNat m.toNat)) ByteArray.empty)=((List.range n).map λi=>UInt8.ofNat (f i)).foldl (λr c=>r.push c) ByteArray.empty:=by
  rw [List.foldl_map,List.foldl_map];simp
 rw [this,uN]
 simp [rM,ByteArray.empty,ByteArray.emptyWithCapacity]
 rfl
section
variable {ro:Option Nat} {P:Program} {ops:Array Oper} {Q:Act->World->Prop} {l:List Oper} {a:Act} {w w0:World} {N:Nat} {L:List (Nat × Value)} {Df:List Deferred} {B:List Own} {d:Tmp} {ty:TypeId} {pos:String} {af:Array Edge} {x y:Operand} {t t' e:TypeId}
theorem vH (s:St w0 B w) (i:Nat) {b n cap:Nat} {f:Nat->Nat} {u:TypeId} (hi:B[i]? = some (.blk b (.cells (cS f n) u))) (hs:P.underlying t=some (.slice e)) (he:P.underlying e=some (.int .u8)) (hd:P.underlying t'=some .string):
 (convert t t' (.slice (some ⟨b,0,none⟩) n cap)).run P w=.ok (.string (rM f n)) w:=by
 rw [run_convert_bytes_string w t t' e _ _ _ hs he hd,run_bytesToString w ⟨b,0,none⟩ n cap ((List.range n).map λi=>(f i:Int)),Do]
 have:=run_loadCells_list (P:=P) w ⟨b,0,none⟩ (cS f n).toList (λj v hv=>by
  have hadd:(⟨b,0,none⟩:Addr).add j=⟨b,j,none⟩:=by unfold Addr.add;split<;>simp_all
  rw [hadd]
  exact mF s i hi (by simpa using hv))
 have e:((List.range n).map λi=>(f i:Int)).map (Value.int .u8)=(cS f n).toList:=by simp [cS]
 have el:(cS f n).toList.length=n:=by simp
 rw [el] at this
 rw [e];exact this
theorem aa3 {b n cap:Nat} {f:Nat->Nat} {u:TypeId} (i:Nat) (h:Sl N a L Df) (s:St w0 B w) (hs:P.underlying t=some (.slice e)) (he:P.underlying e=some (.int .u8)) (hd:P.underlying t'=some .string)
 (hx:eI L x=some (.slice (some ⟨b,0,none⟩) n cap)) (hi:B[i]? = some (.blk b (.cells (cS f n) u))) (hdn:Nat.blt d N=true)
 (k:∀ a',Sl N a' ((d,.string (rM f n))::L) Df->cQ P ops Q l a' w):cQ P ops Q (⟨some d,.convert t t' x,ty,pos,af,none⟩::l) a w:=
 ee (R:=λv w'=>v=.string (rM f n)/\w'=w) h (by
  unfold dp
  simp only [execOp,h.ev hx,aL7,vH s i hi hs he hd,aH9,aL8]
  first|exact ⟨rfl,rfl⟩|exact ⟨trivial,rfl⟩|exact ⟨trivial,trivial⟩|trivial) hdn λa' w' v ⟨h1,h2⟩ hs=>by subst h1;subst h2;exact k a' hs
end
section
variable {P:Program} {ρ:Operand->Value} {d:Option Tmp} {ty:TypeId} {pos:String} {af:Array Edge} {g:Option (Nat × Bool)} {x y:Operand} {t t' e:TypeId} {k k':IntKind} {m n:Int}
theorem yr {b len:Nat} (ht:P.underlying t=some (.array len e)) (he:(P.info? e).map (·.size)=some 1) (hx:ρ x=.pointer (some ⟨b,0,none⟩)):aZ P ⟨d,.slice t x none none none,ty,pos,af,g⟩ ρ (.slice (some ⟨b,0,none⟩) len len):=λw=>by
 cases hi:P.info? e with
 |none=>simp [hi] at he
 |some i=>
  have h1:i.size=1:=by simpa [hi] using he
  have ha:(⟨b,0,none⟩:Addr).add 0=⟨b,0,none⟩:=by simp [Addr.add]
  simp [execOp,hx,Instr.sliceAt,Instr.sliceBounds,aL7,aI1 ht,Instr.sureAddr,sizeOf,typeInfo,hi,h1,ha]
theorem dU {s:ByteArray} (ht:P.underlying t=some .string) (hx:ρ x=.string s):aZ P ⟨d,.call {callee:=.builtin .len,args:=#[x],argTypes:=#[t]},ty,pos,af,g⟩ ρ (.int .i64 (s.size:Int)):=λw=>by
 simp [execOp,resolve,hx,invoke,builtin,Builtin.len_,aL7,aI1 ht,goInt]
end
def at9 (n:Nat):Nat:=if n<10 then 48+n else 87+n
def dg (a:Id) (i:Nat):Nat:=at9 (if i % 2=0 then bP a (i / 2) / 16 else bP a (i / 2) % 16)
def tx (a:Id) (k:Nat) (i:Nat):Nat:=if i<2*k then dg a i else 0
theorem aR {P:Program} {f:FuncId} {vs:Array Value} {w:World} {X:Value} (Y:Value) (h:Calls P f vs w (cb w (is X))) (e:X=Y):Calls P f vs w (cb w (is Y)):=e▸h
section
variable {ro:Option Nat} {P:Program} {ops:List Oper} {K:Act->World->Prop} {Q:Act->World->Prop} {l:List Oper} {a:Act} {w:World} {N:Nat} {L:List (Nat × Value)} {Df:List Deferred} {d:Tmp} {op:Op} {ty:TypeId} {pos:String} {af:Array Edge}
theorem D1 {ops:Array Oper} {j:Nat} {b:Bool} {od:Oper} {t:Tmp} (h:Sl N a L Df) (hj:ops[j]? = some od) (ht:od.dst=some t) (hv:lk L t=some undef) (d:Option Tmp):Region.wanted ⟨d,op,ty,pos,af,some (j,b)⟩ (yielded ops a.tmps)=false:=by
 have h2:=h.holds t _ hv
 have hy:yielded ops a.tmps j=none:=by
  unfold yielded
  by_cases hlt:t<a.tmps.size
  ·have h3:a.tmps[t]? = some undef:=by simp [hlt] at h2 ⊢;exact h2
   simp [hj,ht,h3,undef]
  ·have h3:a.tmps[t]? = none:=aK0 (Nat.le_of_not_lt hlt)
   simp [hj,ht,h3]
 simp [Region.wanted,hy]
theorem WU {j:Nat} {b:Bool} {od:Oper} {t:Tmp} (h:Sl N a L Df) (hj:ops[j]? = some od) (ht:od.dst=some t) (hv:lk L t=some undef) (hd:Nat.blt d N=true)
 (k:∀ a',Sl N a' ((d,undef)::L) Df->jd P ops.toArray K w l a'):jd P ops.toArray K w (⟨some d,op,ty,pos,af,some (j,b)⟩::l) a:=by
 refine ⟨undef,?_,k _ (h.put hd undef)⟩
 rw [D1 h (by simpa using hj) ht hv];rfl
end
end Go.Proofs.YthmlflaiidhoiaaGreatDoor
namespace Go.Proofs.YthmlflaiidhoiaaGreatDoor
open Go.ChangeShapes Go.WideShapes Go.ChangeAt Go.RowKit
variable {H:Type} {enc:TypeId × Value->H} {P:Program}
theorem Ea (hl:laidOutB P=true) {W W':World} (hb:Below W.heap.size W W') {t:TypeId} {v:Value} {d:DataW H} {p:List MemPlace} (hr:P.readableRec t=true) (ht:t<P.types.size)
 (h:DataW.Trod enc P W 0 (λ_=>true) true t v d p) (hlt:∀ x∈p,x.block<W.heap.size):DataW.Trod enc P W' 0 (λb=>decide (b<W.heap.size)) true t v d p:=
 WideElems.Trod_stays hl hr ht h (λx hx=>hb.same (hlt x hx)) (λx hx=>by simpa using hlt x hx)
theorem nT (hl:laidOutB P=true) {W W':World} (hb:Below W.heap.size W W'):∀ {ts:List TypeId} {vs:List Value} {ds:List (DataW H)} {p:List MemPlace},
 (∀ t∈ts,P.readableRec t=true/\t<P.types.size)->DataW.TrodAll enc P W 0 (λ_=>true) true ts vs ds p->(∀ x∈p,x.block<W.heap.size)->
 DataW.TrodAll enc P W' 0 (λb=>decide (b<W.heap.size)) true ts vs ds p
 |[],[],[],_,_,h,_=>h
 |t::ts,v::vs,d::ds,_,hr,⟨p,q,h1,h2,e⟩,hlt=>by
  subst e
  exact ⟨p,q,Ea hl hb (hr t aI5).1 (hr t aI5).2 h1 (λx hx=>hlt x (List.mem_append_left _ hx)),
   nT hl hb (λt' ht'=>hr t' (aJ5 _ ht')) h2 (λx hx=>hlt x (List.mem_append_right _ hx)),rfl⟩
 |[],_::_,_,_,_,h,_=>h.elim
 |[],[],_::_,_,_,h,_=>h.elim
 |_::_,[],_,_,_,h,_=>h.elim
 |_::_,_::_,[],_,_,h,_=>h.elim
theorem CT (hl:laidOutB P=true) {W W':World} (hb:Below W.heap.size W W') {ts:List TypeId} {vs:List Value} {ds:List (DataW H)} {p:List MemPlace}
 (hr:(ts.all λt=>P.readableRec t && decide (t<P.types.size))=true) (h:DataW.TrodAll enc P W 0 (λ_=>true) true ts vs ds p) (hlt:∀ x∈p,x.block<W.heap.size):
 DataW.TrodAll enc P W' 0 (λb=>decide (b<W.heap.size)) true ts vs ds p:=
 nT hl hb (λt ht=>by have:=aH6.1 hr t ht;simpa using this) h hlt
theorem QO {w:World} {base:Nat} {spare:Nat->Bool} {held:Bool} {t e:TypeId} {v:Value} {d:DataW H} {ps:List MemPlace} (T:IdTy P t e) (hc:P.cellsOf t=32) (hce:P.cellsOf e=1)
 (h:DataW.Trod enc P w base spare held t v d ps):∃ x:Id,v=iy x:=by
 obtain ⟨fuel,hf⟩:=h
 obtain ⟨xs,m,rfl,_,hlen,hxl,hel⟩:=DataW.trod_array T.desc hf
 rw [hc] at hlen
 cases v with
 |agg cs=>
  have hcs:cs.size=32:=by simpa [Value.cells] using hlen
  have key:∀ i,i<32->∃ n:Nat,n<256/\cs[i]? = some (.int .u8 (n:Int)):=λi hi=>by
   have h1:=hel i hi
   have hx:xs[i]? = some xs[i]:=by simp
   rw [hce,hx] at h1
   have hci:cs.toList[i]? = some cs[i]:=by simp
   have hone:((Value.agg cs).cells.toList.drop (i*1)).take 1=[cs[i]]:=by
    show (cs.toList.drop (i*1)).take 1=_
    rw [Nat.mul_one,List.drop_eq_getElem_cons (by simpa [hcs] using hi)]
    simp
   rw [hone] at h1
   obtain ⟨n,he,_,hwf⟩:=DataW.trod_int T.one h1
   have hb:=bounds_u8 hwf
   refine ⟨n.toNat,by omega,?_⟩
   have hcn:cs[i]=.int .u8 n:=by simpa using he
   have:((n.toNat:Nat):Int)=n:=by omega
   rw [this,← hcn];simp [hcs,hi]
  let f:Nat->Nat:=λi=>if h:i<32 then Classical.choose (key i h) else 0
  have hf256:∀ i,f i<256:=λi=>by
   show (if h:i<32 then Classical.choose (key i h) else 0)<256
   split
   ·rename_i h;exact(Classical.choose_spec (key i h)).1
   ·decide
  refine ⟨Co f,?_⟩
  refine aH3 Value.agg ?_
  apply Array.ext_getElem?
  intro i
  by_cases hi:i<32
  ·rw [eH _ i hi,rm f hf256 i hi,(Classical.choose_spec (key i hi)).2]
   show _=some (Value.int .u8 ((if h:i<32 then Classical.choose (key i h) else 0:Nat):Int))
   rw [dif_pos hi]
  ·rw [aK0 (by omega),aK0 (by simp;omega)]
 |_=>simp [Value.cells] at hlen
end Go.Proofs.YthmlflaiidhoiaaGreatDoor
namespace Go.Proofs.YthmlflaiidhoiaaGreatDoor
theorem ah7 (a:Id) (k:Nat):a+qi k - a=qi k:=by
 apply BitVec.eq_of_toNat_eq
 have:=a.isLt;have:=(qi k).isLt
 simp only [BitVec.toNat_add,BitVec.toNat_sub];omega
def Ul (a b:Id) (n:Nat):Prop:=n<=256/\a.toNat / 2 ^ (256 - n)=b.toNat / 2 ^ (256 - n)/\(n<256->oF a.toNat n≠oF b.toNat n)
theorem tj (a b:Id):∀ d k,k+d=256->a.toNat / 2 ^ (256 - k)=b.toNat / 2 ^ (256 - k)->∃ n,Ul a b n
 |0,k,hk,h=>⟨k,by omega,h,λhl=>by omega⟩
 |d+1,k,hk,h=>by
  by_cases e:oF a.toNat k=oF b.toNat k
  ·exact tj a b d (k+1) (by omega) (xf a b k (by omega) h (by rw [e]))
  ·exact ⟨k,by omega,h,λ_=>e⟩
theorem yi (a b:Id):∃ n,Ul a b n:=tj a b 256 0 rfl (xi a b)
noncomputable def com (a b:Id):Nat:=Classical.choose (yi a b)
end Go.Proofs.YthmlflaiidhoiaaGreatDoor
namespace Go.Proofs.YthmlflaiidhoiaaGreatDoor
open Go.RowKit
structure Elm (P:Program) (e:TypeId) (sz by_:Nat):Prop where
 info:∃ i z,P.info? e=some i/\i.zero=some z/\i.size=sz/\i.bytes=by_/\z.cells.size=sz
 pos:0<sz
theorem c8 (P:Program) (g o:Nat) (t:TypeId) (fz:Nat × Nat):∀ (vs:List Value) (i:Nat) (cur:Array Value) (w:World),w.heap[g]? = some (.cells cur t fz)->(fz.2=0∨cur.size<=fz.1)->o+i+vs.length<=cur.size->(∀ v∈vs,v.oneCell'=true)->
 (storeCells ⟨g,o,none⟩ vs i).run P w=.ok () (w.setRow g (cur.toList.take (o+i)++vs++cur.toList.drop (o+i+vs.length)).toArray)
 |[],i,cur,w,hg,_,_,_=>by
  simp only [storeCells,aM4,aK6,Nat.add_zero,aJ7,Array.toArray_toList]
  rw [setRow_self w g cur t fz hg]
  rfl
 |v::rest,i,cur,w,hg,hz,hl,h1=>by
  have hi:o+i<cur.size:=by simp at hl;omega
  have hadd:(⟨g,o,none⟩:Addr).add i=⟨g,o+i,none⟩:=by unfold Addr.add;split<;>simp_all
  have hcell:w.cell? ⟨g,o+i,none⟩=some cur[o+i]:=by simp [World.cell?,hg,hi]
  have hfro:w.frozen? ⟨g,o+i,none⟩=false:=by
   simp [World.frozen?,hg]
   omega
  have hst:(store ((⟨g,o,none⟩:Addr).add i) v).run P w=.ok () (w.setRow g (cur.setIfInBounds (o+i) v)):=by
   rw [hadd,run_store P w _ v _ (h1 v (by simp)),hcell]
   simp [hfro,setCell_eq_setRow w g (o+i) cur t fz v hg]
  have ih:=c8 P g o t fz rest (i+1) (cur.setIfInBounds (o+i) v) (w.setRow g (cur.setIfInBounds (o+i) v)) (setRow_heap w g cur _ t _ hg) (by simpa using hz) (by simp at hl ⊢;omega) (λx hx=>h1 x (by simp [hx]))
  simp only [storeCells,aL7,hst,aH9,ih,setRow_setRow]
  congr 3
  have e:=list_seg_step cur.toList (o+i) v rest (by simp at hl ⊢;omega)
  simpa [Array.toList_setIfInBounds,Nat.add_assoc] using e
theorem qg {P:Program} (w:World) (t ty e:TypeId) (i:TypeInfo) (ht:P.underlying t=some (.slice e)) (hi:P.info? e=some i)
 (g sLen sCap:Nat) (cur:Array Value) (fz:Nat × Nat) (hg:w.heap[g]? = some (.cells cur e fz)) (hz:fz.2=0∨cur.size<=fz.1)
 (a:Addr) (m c:Nat) (news:List Value) (hl:news.length=m*i.size) (hnews:∀ j u,news[j]? = some u->w.cell? (a.add j)=some u) (h1:∀ u∈news,u.oneCell'=true)
 (hroom:sLen+m<=sCap) (hfit:sLen*i.size+news.length<=cur.size):
 (Builtin.append_ #[t,t] ty #[.slice (some ⟨g,0,none⟩) sLen sCap,.slice (some a) m c]).run P w =
  .ok (.slice (some ⟨g,0,none⟩) (sLen+m) sCap) (w.setRow g (cur.toList.take (sLen*i.size)++news++cur.toList.drop (sLen*i.size+news.length)).toArray):=by
 have hf:=run_firstCells_some (P:=P) w i.size m a m c news hl hnews
 have hst:=c8 P g (sLen*i.size) e fz news 0 cur w hg hz (by simpa using hfit) h1
 simp only [Nat.add_zero] at hst
 simp [Builtin.append_,aI1 ht,sizeOf,typeInfo,hi,Builtin.lenOf,hroom,hf,Addr.add_lit,hst]
theorem nS {P:Program} {w w0:World} {t ty e:TypeId} {sz by_:Nat} (ht:P.underlying t=some (.slice e)) (E:Elm P e sz by_) {v:Value} {n:Nat} {xs:List Value} (hown:cF w w0.heap.size e sz v n xs)
 {a:Addr} {m c:Nat} {news:List Value} (hl:news.length=m*sz) (hnews:∀ (j:Nat) u,news[j]? = some u->w.cell? (a.add j)=some u) (h1:∀ u∈news,u.oneCell'=true) (hm:1<=m)
 (h63:n+m<=maxLen) (hbytes:(n+m)*by_<=140737488355328) (hbase:w0.heap.size<=w.heap.size):
 ∃ v' w',(Builtin.append_ #[t,t] ty #[v,.slice (some a) m c]).run P w=.ok v' w'/\cF w' w0.heap.size e sz v' (n+m) (xs++news)/\Grw w w' v.ownBlock/\(v'.ownBlock=v.ownBlock∨v'.ownBlock=some w.heap.size):=by
 obtain ⟨i,z,hi,hz,rfl,rfl,hzs⟩:=E.info
 have hsmall:n+m<=9223372036854775807:=by simp only [maxLen] at h63;omega
 have hlen:(xs++news).length=(n+m)*i.size:=by rw [aH7,hown.1,hl,Nat.add_mul]
 have hnew:∀ (cap:Nat) (rest:Array Value),n+m<=cap->cap<=maxLen->rest.size=(cap - (n+m))*i.size->cF (w.drew.alloc (.cells (xs.toArray++news.toArray++rest) e)) w0.heap.size e i.size (.slice (some ⟨w.heap.size,0,none⟩) (n+m) cap) (n+m) (xs++news):=λcap rest h2 h3 h4=>by
  refine ⟨hlen,.inr ⟨w.heap.size,cap,_,(0,0),rfl,hbase,heap_alloc_new w.drew _,.inl rfl,h2,h3,?_,?_⟩⟩
  ·rw [Array.size_append,Array.size_append,List.size_toArray,List.size_toArray,hown.1,hl,h4,← Nat.add_mul,← Nat.add_mul]
   congr 1;omega
  ·rw [Array.toList_append,Array.toList_append,← hlen];exact List.take_left
 have hgrow:∀ (o:Obj) (row:Option Nat),Grw w (w.drew.alloc o) row:=λo row=>⟨⟨rfl,rfl,rfl,by simp,λk hk _=>Below.heap_alloc w.drew _ k hk⟩,Nat.le_succ _⟩
 have hrest:∀ old,(Builtin.zeroCells z.cells (grownCap w (n+m) old e - (n+m))).size=(grownCap w (n+m) old e - (n+m))*i.size:=λold=>by rw [size_zeroCells,hzs]
 rcases hown.2 with ⟨rfl,rfl⟩|⟨g,cap,cur,fz,rfl,hbg,hg,hfz,hnc,hcm,hcs,htake⟩
 ·have hx:xs=[]:=List.eq_nil_of_length_eq_zero (by simpa using hown.1)
  subst hx
  have hr:=run_append_nil (P:=P) w t ty e i z ht hi hz a m c news hl hnews (by omega) (by omega) (by have hb:=hbytes;simp only [Nat.zero_add] at hb;omega)
  have h9:=hnew (grownCap w (0+m) 0 e) _ (grownCap_ge w _ 0 e) (grownCap_le_maxLen w _ 0 e h63) (hrest 0)
  simp only [Nat.zero_add,List.nil_append,Array.empty_append] at h9 hr ⊢
  exact ⟨_,_,hr,h9,hgrow _ _,.inr rfl⟩
 ·by_cases hroom:n+m<=cap
  ·have hfit:n*i.size+news.length<=cur.size:=by rw [hl,hcs,← Nat.add_mul];exact Nat.mul_le_mul_right _ hroom
   have hr:=qg (P:=P) w t ty e i ht hi g n cap cur fz hg hfz a m c news hl hnews h1 hroom hfit
   refine ⟨_,_,hr,⟨hlen,.inr ⟨g,cap,_,fz,rfl,hbg,setRow_heap w g cur _ e _ hg,?_,hroom,hcm,?_,?_⟩⟩,⟨⟨rfl,rfl,rfl,by simp,λk _ hk=>setRow_other w g k _ (λe=>hk (by simp [Value.ownBlock,e]))⟩,aJ1 _⟩,.inl rfl⟩
   ·refine hfz.imp id λh9=>?_
    simp only [List.size_toArray,aH7,aL0,aK2,aI2]
    omega
   ·simp only [List.size_toArray,aH7,aL0,aK2,aI2]
    omega
   ·rw [htake,← hlen]
    exact List.take_left
  ·have hcells:∀ (j:Nat) u,xs[j]? = some u->w.cell? ((⟨g,0,none⟩:Addr).add j)=some u:=hown.cells (g:=g) rfl
   have hr:=run_append_grow (P:=P) w t ty e i z ht hi hz ⟨g,0,none⟩ n cap xs hown.1 hcells a m c news hl hnews (by omega) (by omega) (growslice_fits (by omega) hbytes)
   exact ⟨_,_,hr,hnew _ _ (grownCap_ge w _ cap e) (grownCap_le_maxLen w _ cap e h63) (hrest cap),hgrow _ _,.inr rfl⟩
section
variable {ro:Option Nat} {P:Program} {ops:Array Oper} {Q:Act->World->Prop} {l:List Oper} {a:Act} {w w0:World} {N:Nat} {L:List (Nat × Value)} {Df:List Deferred} {B:List Own} {d:Tmp} {ty:TypeId} {pos:String} {af:Array Edge} {x y:Operand} {t e:TypeId}
theorem d5 {w:World} {base:Nat} {e:TypeId} {sz:Nat} {v:Value} {n:Nat} {xs:List Value} (h:cF w base e sz v n xs):∃ a c,v=.slice a n c:=by
 rcases h.2 with ⟨rfl,rfl⟩|⟨g,cap,cur,fz,rfl,_⟩
 ·exact ⟨none,0,rfl⟩
 ·exact ⟨_,cap,rfl⟩
theorem xM {w:World} {base:Nat} {e:TypeId} {sz:Nat} {v:Value} {n:Nat} {xs:List Value} (h:cF w base e sz v n xs) (hn:1<=n):∃ g c,v=.slice (some ⟨g,0,none⟩) n c:=by
 rcases h.2 with ⟨rfl,rfl⟩|⟨g,cap,cur,fz,rfl,_⟩
 ·omega
 ·exact ⟨g,cap,rfl⟩
theorem dD {v v2:Value} {sz by_ n m:Nat} {xs ys:List Value} (i j:Nat) (h:Sl N a L Df) (s:St w0 B w) (ht:P.underlying t=some (.slice e)) (E:Elm P e sz by_) (hx:eI L x=some v) (hy:eI L y=some v2)
 (hi:B[i]? = some (.sl v e sz n xs)) (hj:B[j]? = some (.sl v2 e sz m ys)) (hm:1<=m) (h1:∀ u∈ys,u.oneCell'=true) (h63:n+m<=maxLen) (hbytes:(n+m)*by_<=140737488355328) (hd:Nat.blt d N=true)
 (k:∀ a' w' v',Sl N a' ((d,v')::L) Df->St w0 (B.set i (.sl v' e sz (n+m) (xs++ys))) w'->cQ P ops Q l a' w'):
 cQ P ops Q (⟨some d,.call {callee:=.builtin .append,args:=#[x,y],argTypes:=#[t,t]},ty,pos,af,none⟩::l) a w:=by
 have hv:=s.getSl i hi
 have hv2:=s.getSl j hj
 obtain ⟨g2,c2,rfl⟩:=xM hv2 hm
 obtain ⟨v',w',hr,h2,h3,h4⟩:=nS (ty:=ty) ht E hv (a:=⟨g2,0,none⟩) (m:=m) (c:=c2) (news:=ys) hv2.1 (hv2.cells (g:=g2) rfl) h1 hm h63 hbytes s.ext.le
 refine ee (R:=λu w''=>u=v'/\w''=w') h (by
  unfold dp
  simp only [execOp,resolve,invoke,builtin,aL7,aL8,aH9,List.map_toArray,List.map_cons,List.map_nil,h.ev hx,h.ev hy,hr]
  first|exact ⟨rfl,rfl⟩|exact ⟨trivial,rfl⟩|exact ⟨trivial,trivial⟩|trivial) hd λa' w'' u ⟨e1,e2⟩ hs=>?_
 subst e1;subst e2
 refine k _ _ _ hs (s.upd i hi h3.os h3.tape h3.output h3.size h2 (λk hk=>?_) (λk hk hne=>?_) h3.drawn)
 ·rcases h4 with h4|h4
  ·exact .inl (Own.at_sl.2 (by rw [← Own.at_sl.1 hk];exact h4.symm))
  ·right
   have:u.ownBlock=some k:=Own.at_sl.1 hk
   rw [h4] at this;cases this;exact aJ1 _
 ·exact h3.block k hk λe=>hne (Own.at_sl.2 e.symm)
end
theorem n4 (o:Nat):∀ (l:List Value) (k:Nat) (cells:Array Value),o+k+l.length<=cells.size->
 ((l.zipIdx k).foldl (λcs p=>cs.setIfInBounds (o+p.2) p.1) cells).toList=cells.toList.take (o+k)++l++cells.toList.drop (o+k+l.length)
 |[],k,cells,_=>by simp
 |c::l,k,cells,h=>by
  simp only [aK5] at h
  rw [List.zipIdx_cons,List.foldl_cons,n4 o l (k+1) _ (by simp;omega)]
  have hlt:o+k<cells.toList.length:=by simp;omega
  simp only [Array.toList_setIfInBounds,aK5]
  have e1:List.take (o+k+1) (cells.toList.set (o+k) c)=List.take (o+k) cells.toList++[c]:=by
   rw [List.take_set,List.take_succ_eq_append_getElem hlt,List.set_append_right _ _ (by simp;omega)]
   have:o+k - (List.take (o+k) cells.toList).length=0:=by simp;omega
   rw [this];rfl
  rw [show o+(k+1)=o+k+1 from by omega,e1,List.drop_set_of_lt (by omega),show o+k+1+l.length=o+k+(l.length+1) from by omega]
  simp
theorem tQ (sz:Nat):∀ (vs:List Value) (k:Nat) (cells:Array Value),(∀ v∈vs,v.cells.size=sz)->(k+vs.length)*sz<=cells.size->
 ∃ D:Array Value,Instr.fill (λi=>some (i*sz,sz)) cells ((vs.zipIdx k).map λp=>(p.2,p.1))=some D/\D.toList=cells.toList.take (k*sz)++vs.flatMap (·.cells.toList)++cells.toList.drop ((k+vs.length)*sz)
 |[],k,cells,_,_=>⟨cells,rfl,by simp⟩
 |v::vs,k,cells,hv,hs=>by
  have hv1:=hv v aI5
  have e9:(k+(v::vs).length)*sz=k*sz+sz+vs.length*sz:=by simp [Nat.add_mul];omega
  have hroom:k*sz+0+v.cells.toList.length<=cells.size:=by
   simp only [aI2,hv1];omega
  have hf:=n4 (k*sz) v.cells.toList 0 cells hroom
  generalize hD:(v.cells.toList.zipIdx).foldl (λcs p=>cs.setIfInBounds (k*sz+p.2) p.1) cells=C1 at hf
  simp only [Nat.add_zero,aI2,hv1] at hf
  have hC1:C1.size=cells.size:=by
   have:=aH3 List.length hf
   simp only [aI2,aH7,aL0,aK2,hv1] at this
   omega
  obtain ⟨D,h1,h2⟩:=tQ sz vs (k+1) C1 (λu hu=>hv u (aJ5 _ hu)) (by rw [hC1];simp [Nat.add_mul] at e9 hs ⊢;omega)
  refine ⟨D,?_,?_⟩
  ·rw [List.zipIdx_cons,List.map_cons,Instr.fill]
   have hc:¬ ((v.cells.size≠sz || decide (k*sz+v.cells.size>cells.size))=true):=by
    rw [hv1];simp only [ne_eq,not_true_eq_false,decide_false,Bool.false_or,aI0];simp at hroom;omega
   have hz:v.cells.zipIdx.foldl (λcs (x:Value × Nat)=>match x with|(c,j)=>cs.setIfInBounds (k*sz+j) c) cells=C1:=by
    rw [← hD,← Array.foldl_toList,Array.toList_zipIdx]
   simp only
   rw [if_neg hc,hz]
   exact h1
  ·rw [h2,hf]
   have hl1:(cells.toList.take (k*sz)).length=k*sz:=by simp;omega
   have hl2:(cells.toList.take (k*sz)++v.cells.toList).length=(k+1)*sz:=by
    rw [aH7,hl1,aI2,hv1,Nat.add_mul];omega
   rw [List.take_append_of_le_length (Nat.le_of_eq hl2.symm),aJ9 (Nat.le_of_eq hl2)]
   rw [List.drop_append,hl2,List.drop_eq_nil_of_le (by rw [hl2];exact Nat.mul_le_mul_right _ (by omega)),List.nil_append,List.drop_drop]
   rw [List.flatMap_cons,aM3,aM3,aM3,aM3]
   congr 4
   have e5:(k+1+vs.length)*sz=(k+1)*sz+vs.length*sz:=Nat.add_mul ..
   have e6:(k+(v::vs).length)*sz=(k+1)*sz+vs.length*sz:=by rw [← Nat.add_mul];congr 1;simp;omega
   have e7:(k+1)*sz=k*sz+sz:=Nat.succ_mul ..
   omega
section
variable {ro:Option Nat} {P:Program} {ops:Array Oper} {Q:Act->World->Prop} {l:List Oper} {a:Act} {w w0:World} {N:Nat} {L:List (Nat × Value)} {Df:List Deferred} {B:List Own} {d:Tmp} {ty:TypeId} {pos:String} {af:Array Edge} {x y:Operand} {t t' e:TypeId}
theorem aq5 {as:List Operand} {vs:List Value} (h:Sl N a L Df) (hvs:as.map (eI L)=vs.map some):as.map a.eval=vs:=by
 induction as generalizing vs with
 |nil=>cases vs with
  |nil=>rfl
  |cons v vs=>simp at hvs
 |cons x as ih=>cases vs with
  |nil=>simp at hvs
  |cons v vs=>
   simp only [List.map_cons,List.cons.injEq] at hvs
   simp only [List.map_cons,h.ev hvs.1,ih hvs.2]
theorem AA {sz:Nat}:∀ (vs:List Value),(∀ v∈vs,v.cells.size=sz)->(vs.flatMap (·.cells.toList)).length=vs.length*sz
 |[],_=>by simp
 |v::vs,hv=>by rw [List.flatMap_cons,aH7,AA vs (λu hu=>hv u (aJ5 _ hu)),aI2,hv v aI5,aK5,Nat.add_mul];omega
theorem cf {sz by_ len:Nat} {parts:Array (Nat × Operand)} (xs:List Operand) {vs:List Value} (h:Sl N a L Df) (s:St w0 B w) (ht:P.underlying t=some (.slice e)) (E:Elm P e sz by_)
 (hp:parts.toList=xs.zipIdx.map λp=>(p.2,p.1)) (hxs:xs.map (eI L)=vs.map some) (hv:∀ v∈vs,v.cells.size=sz) (hl:vs.length=len) (hlen:Nat.ble (len*sz) 16777216=true) (hd:Nat.blt d N=true)
 (k:∀ a' w' v',Sl N a' ((d,v')::L) Df->St w0 (.sl v' e sz len (vs.flatMap (·.cells.toList))::B) w'->cQ P ops Q l a' w'):
 cQ P ops Q (⟨some d,.buildSlice t len parts,ty,pos,af,none⟩::l) a w:=by
 obtain ⟨i,z,hi,hz,hsz,_,hzs⟩:=E.info
 have hpos:=E.pos
 have hle:len*sz<=16777216:=by simpa using hlen
 obtain ⟨C,hf,hC⟩:∃ C:Array Value,Instr.fill (λi=>some (i*sz,sz)) ((Array.range (len*sz)).map ((if len*sz=0 then #[] else z.cells)[· % (if len*sz=0 then (#[]:Array Value) else z.cells).size]!)) (parts.map λ(i,x)=>(i,a.eval x)).toList=some C/\C.toList=vs.flatMap (·.cells.toList):=by
  obtain ⟨C,h1,h2⟩:=tQ sz vs 0 ((Array.range (len*sz)).map ((if len*sz=0 then #[] else z.cells)[· % (if len*sz=0 then (#[]:Array Value) else z.cells).size]!)) hv (by simp [hl])
  refine ⟨C,?_,?_⟩
  ·rw [← h1]
   congr 1
   rw [Array.toList_map,hp,List.map_map]
   have:=aq5 h hxs
   rw [← this]
   clear h1 h2 hp this
   generalize (0:Nat)=k
   clear hxs hl hv
   induction xs generalizing k with
   |nil=>rfl
   |cons x xs ih=>simp only [List.zipIdx_cons,List.map_cons,Function.comp];rw [ih]
  ·rw [h2];simp [hl]
 have hCs:C.size=len*sz:=by
  have:=aH3 List.length hC
  rw [aI2] at this
  rw [this,← hl]
  exact AA vs hv
 refine ee (R:=λu w''=>u=.slice (some ⟨w.heap.size,0,none⟩) len len/\w''=w.alloc (.cells C e)) h ?_ hd λa' w'' u ⟨e1,e2⟩ hs=>?_
 ·have hn:¬ len*sz>2 ^ 24:=by omega
  have hrun:(Instr.buildSlice t len (parts.map λ(i,x)=>(i,a.eval x))).run P w=.ok (.slice (some ⟨w.heap.size,0,none⟩) len len) (w.alloc (.cells C e)):=by
   unfold Instr.buildSlice
   by_cases h0:len*sz=0
   ·simp only [h0,if_true] at hf
    simp only [aL7,aI1 ht,aH9,sizeOf,typeInfo,run_program,hi,aL8,hsz,h0,newRow]
    simp only [show ¬ (0:Nat)>2 ^ 24 by decide,if_false,if_true,aL7,aL8,aH9,hf,run_newObj]
    rfl
   ·simp only [h0,if_false] at hf
    simp only [aL7,aI1 ht,aH9,sizeOf,typeInfo,run_program,hi,aL8,hsz,newRow]
    simp only [hn,h0,if_false,zeroValue,typeInfo,aL7,run_program,hi,hz,aL8,aH9,hf,run_newObj]
    rfl
  unfold dp
  simp only [execOp,aL7,hrun,aH9,aL8]
  first|exact ⟨rfl,rfl⟩|exact ⟨trivial,rfl⟩|exact ⟨trivial,trivial⟩|trivial
 ·subst e1;subst e2
  have hl2:len<=maxLen:=by
   have:=Nat.le_mul_of_pos_right len hpos
   unfold maxLen;omega
  rw [← hC] at k
  exact k _ _ _ hs (s.plus ((Ext.refl w).alloc _) _ ⟨by simp [hCs],.inr ⟨w.heap.size,len,C,(0,0),rfl,s.ext.le,heap_alloc_new w _,.inl rfl,aJ1 _,hl2,hCs,by rw [← hCs];exact aJ9 (by simp)⟩⟩ λk hk=>by rw [Own.at_sl] at hk;simp [Value.ownBlock] at hk;omega)
theorem Ch {v:Value} {n:Nat} {ns:List Nat} (i:Nat) (h:Sl N a L Df) (s:St w0 B w) (hs:P.underlying t=some (.slice e)) (he:P.underlying e=some (.int .u8)) (hd:P.underlying t'=some .string)
 (hx:eI L x=some v) (hi:B[i]? = some (.sl v e 1 n (ns.map λ(m:Nat)=>.int .u8 (m:Int)))) (hdn:Nat.blt d N=true)
 (k:∀ a',Sl N a' ((d,.string ⟨(ns.map UInt8.ofNat).toArray⟩)::L) Df->cQ P ops Q l a' w):cQ P ops Q (⟨some d,.convert t t' x,ty,pos,af,none⟩::l) a w:=by
 have hown:=s.getSl i hi
 have hrun:(convert t t' v).run P w=.ok (.string ⟨(ns.map UInt8.ofNat).toArray⟩) w:=by
  have hn:ns.length=n:=by have:=hown.1;simpa using this
  rcases hown.2 with ⟨rfl,hn0⟩|⟨g,cap,cur,fz,rfl,_⟩
  ·obtain rfl:ns=[]:=List.eq_nil_of_length_eq_zero (by omega)
   rw [run_convert_bytes_string w t t' e _ _ _ hs he hd]
   rfl
  ·rw [run_convert_bytes_string w t t' e _ _ _ hs he hd,run_bytesToString w ⟨g,0,none⟩ n cap (ns.map λ(m:Nat)=>(m:Int)),List.foldl_map]
   ·congr 2
    have:ns.foldl (λr (m:Nat)=>r.push (UInt8.ofNat ((m:Int)).toNat)) ByteArray.empty=(ns.map UInt8.ofNat).foldl (λr c=>r.push c) ByteArray.empty:=by
     rw [List.foldl_map];simp
    rw [this,uN]
    simp [ByteArray.empty,ByteArray.emptyWithCapacity]
    rfl
   ·have:=run_loadCells_list (P:=P) w ⟨g,0,none⟩ (ns.map λ(m:Nat)=>Value.int .u8 (m:Int)) (hown.cells (g:=g) rfl)
    rw [aL1,hn] at this
    rw [List.map_map];exact this
 exact ee (R:=λu w'=>u=.string ⟨(ns.map UInt8.ofNat).toArray⟩/\w'=w) h (by
  unfold dp
  simp only [execOp,h.ev hx,aL7,hrun,aH9,aL8]
  first|exact ⟨rfl,rfl⟩|exact ⟨trivial,rfl⟩|exact ⟨trivial,trivial⟩|trivial) hdn λa' w' u ⟨h1,h2⟩ hs=>by subst h1;subst h2;exact k a' hs
end
section
variable {P:Program} {ρ:Operand->Value} {d:Option Tmp} {ty:TypeId} {pos:String} {af:Array Edge} {g:Option (Nat × Bool)} {x y:Operand} {t t' e:TypeId} {k k':IntKind} {m n:Int}
theorem It (a b:ByteArray):(a.toList == b.toList)=decide (a=b):=by
 rw [← beq_toListBytes]
 have e:(a == b)=(a.data == b.data):=rfl
 rw [e]
 by_cases h:a=b
 ·subst h;simp
 ·have:a.data≠b.data:=λh2=>h (by cases a;cases b;simp at h2;rw [h2])
  simp [h,this]
theorem jx {a b:ByteArray} (hx:ρ x=.string a) (hy:ρ y=.string b):aZ P ⟨d,.binOp .eql t x y t',ty,pos,af,g⟩ ρ (.bool (decide (a=b))):=λw=>by
 simp [execOp,hx,hy,aL7,eqGuard,binOp,Op.stringOp,It]
theorem NY {tys:Array TypeId} (hx:ρ x=.int k m) (hy:ρ y=.int k n):aZ P ⟨d,.call {callee:=.builtin .min,args:=#[x,y],argTypes:=tys},ty,pos,af,g⟩ ρ (.int k (if n<m then n else m)):=λw=>by
 simp [execOp,resolve,hx,hy,invoke,builtin,Builtin.min_,Builtin.min2,aL7]
theorem yL {s:ByteArray} (j:Nat) (ht:P.underlying t=some .string) (hx:ρ x=.string s) (hy:ρ y=.int k m) (hj:m=(j:Int)) (hl:j<=s.size):aZ P ⟨d,.slice t x none (some y) none,ty,pos,af,g⟩ ρ (.string (s.extract 0 j)):=λw=>by
 subst hj
 have h2:(0:Int)<=(j:Int)/\(j:Int)<=(s.size:Int):=by omega
 simp [execOp,hx,hy,Instr.sliceAt,aL7,aI1 ht,Instr.slice,Instr.sliceBounds,Instr.sliceBound,asIntOf,h2,hl]
structure Ext1 (P:Program) (f:FuncId) (e:Array Value->Sem Value):Prop where
 has:∃ fn,P.funcs[f]? = some fn/\(fn.name == "runtime.NumGoroutine")=false/\fn.body.isNone=true/\Extern.findNext fn=none/\Extern.find fn=some e
end
def sb (s:ByteArray) (j:Nat):Nat:=(s.data.toList.getD j 0).toNat
def hv (c:Nat):Nat:=if 48<=c/\c<58 then c - 48 else if 97<=c/\c<103 then c - 87 else 16
end Go.Proofs.YthmlflaiidhoiaaGreatDoor
