/- Identifiers: rows of 32 bytes as numbers of 256 bits; sums, ways, bits and digits of them; no Go in it. -/
import Derived.WalkKit
import Derived.ProofKit
import Derived.Laws.Rows
import Derived.Laws.BytesString
import Derived.Laws.Strings
import Derived.OpenShut
import Derived.Laws.AppendOwn
import Derived.Laws.StructEq
import Derived.Laws.Externs
import Derived.Lib.Bytealg
import Derived.Test.YtobfeflheaobiaaGreatDoorEng
set_option linter.unusedVariables false
set_option linter.unusedSimpArgs false
set_option linter.unusedSectionVars false
namespace Go.Proofs.YtobfeflheaobiaaGreatDoor
open Go.RowKit
abbrev Id:=BitVec 256
def lf (x:Nat) (i:Nat):Nat:=x / 256 ^ (31 - i) % 256
def bz (x:Id) (i:Nat):Nat:=lf x.toNat i
def kI (x:Id):List Value:=(List.range 32).map fun i=>.int .u8 (bz x i:Int)
def aA (x:Id):Array Value:=(kI x).toArray
abbrev gp (x:Id):Value:=.agg (aA x)
theorem go (x:Id) (i:Nat):bz x i<256:=Nat.mod_lt _ (by omega)
@[simp] theorem Cl (x:Id):(kI x).length=32:=by simp [kI]
@[simp] theorem ai (x:Id):(aA x).size=32:=by simp [aA]
theorem uP (x:Id) (i:Nat) (h:i<32):(kI x)[i]? = some (.int .u8 (bz x i:Int)):=by
 simp [kI,h]
theorem dP (x:Id) (i:Nat) (h:i<32):(aA x)[i]? = some (.int .u8 (bz x i:Int)):=by
 simpa [aA] using uP x i h
theorem gA (x k:Nat):x / 256 ^ k=(x / 256 ^ (k+1))*256+x / 256 ^ k % 256:=by
 rw [Nat.pow_succ,← Nat.div_div_eq_div_mul];omega
theorem AN {x y:Nat} (hx:x<2 ^ 256) (hy:y<2 ^ 256) (h:∀ i,i<32→lf x i=lf y i):x=y:=by
 have key:∀ k,k≤32→x / 256 ^ (32 - k)=y / 256 ^ (32 - k):=by
  intro k
  induction k with
  |zero=>intro _;rw [Nat.div_eq_of_lt (by simpa using hx),Nat.div_eq_of_lt (by simpa using hy)]
  |succ k ih=>
   intro hk
   have h1:=ih (by omega)
   have h2:=h k (by omega)
   unfold lf at h2
   rw [show 32 - (k+1)=31 - k from by omega,gA x,gA y,show 31 - k+1=32 - k from by omega,h1,h2]
 simpa using key 32 (Nat.le_refl _)
theorem wT {x y:Id} (h:∀ i,i<32→bz x i=bz y i):x=y:=
 BitVec.eq_of_toNat_eq (AN x.isLt y.isLt h)
theorem rW {x y:Id} (h:aA x=aA y):x=y:=wT fun i hi=>by
 have h1:=dP x i hi
 have h2:=dP y i hi
 rw [h,h2] at h1
 simp at h1
 omega
def pq (f:Nat→Nat):Nat→Nat
 |0=>0
 |n+1=>pq f n*256+f n
theorem yE (f:Nat→Nat) (hf:∀ i,f i<256):∀ n,pq f n<256 ^ n
 |0=>by simp [pq]
 |n+1=>by have:=yE f hf n;have:=hf n;rw [pq,Nat.pow_succ];omega
theorem B2 (f:Nat→Nat) (hf:∀ i,f i<256) (n:Nat):∀ k,k≤n→pq f n / 256 ^ (n - k)=pq f k:=by
 intro k hk
 induction n with
 |zero=>obtain rfl:k=0:=(by omega);simp
 |succ n ih=>
  by_cases h:k=n+1
  ·subst h;simp
  ·have:=ih (by omega)
   rw [show n+1 - k=(n - k)+1 from by omega,Nat.pow_succ,Nat.mul_comm,← Nat.div_div_eq_div_mul,pq]
   have h2:=hf n
   rw [show (pq f n*256+f n) / 256=pq f n from by omega]
   exact this
theorem w6 (f:Nat→Nat) (hf:∀ i,f i<256) (i:Nat) (hi:i<32):lf (pq f 32) i=f i:=by
 unfold lf
 rw [show 31 - i=32 - (i+1) from by omega,B2 f hf 32 (i+1) (by omega),pq]
 have:=hf i
 omega
def yd (f:Nat→Nat):Id:=BitVec.ofNat 256 (pq f 32)
theorem lW (f:Nat→Nat) (hf:∀ i,f i<256) (i:Nat) (hi:i<32):bz (yd f) i=f i:=by
 unfold bz yd
 have:=yE f hf 32
 rw [BitVec.toNat_ofNat,Nat.mod_eq_of_lt (by simpa using this)]
 exact w6 f hf i hi
theorem pc (i:Nat):bz 0#256 i=0:=by simp [bz,lf]
theorem gT:aA 0#256=#[.int .u8 0,.int .u8 0,.int .u8 0,.int .u8 0,.int .u8 0,.int .u8 0,.int .u8 0,.int .u8 0,.int .u8 0,.int .u8 0,.int .u8 0,.int .u8 0,.int .u8 0,.int .u8 0,.int .u8 0,.int .u8 0,.int .u8 0,.int .u8 0,.int .u8 0,.int .u8 0,.int .u8 0,.int .u8 0,.int .u8 0,.int .u8 0,.int .u8 0,.int .u8 0,.int .u8 0,.int .u8 0,.int .u8 0,.int .u8 0,.int .u8 0,.int .u8 0]:=by
 simp [aA,kI,pc,List.range_succ]
theorem bE (x:Id):∀ v∈(aA x).toList,v.oneCell'=true:=by
 intro v hv
 simp [aA,kI] at hv
 obtain ⟨i,_,rfl⟩:=hv
 rfl
structure IdTy (P:Program) (t e:TypeId):Prop where
 desc:P.underlying t=some (.array 32 e)
 info:(P.info? e).map (·.size)=some 1
 one:P.underlying e=some (.int .u8)
 guard:P.eqGuardType P.depth t=false
 zero:(P.info? t).bind (·.zero)=some (gp 0#256)
theorem GG {a b:Nat}:((a:Int) == (b:Int))=decide (a=b):=by
 rw [Bool.eq_iff_iff];simp only [beq_iff_eq,decide_eq_true_eq];omega
theorem ju {P:Program} {t e:TypeId} (T:IdTy P t e) (x:Id) (i:Nat) (hi:i<32) (w:World):(part e (aA x) i).run P w=.ok (.int .u8 (bz x i:Int)) w:=by
 have h1:(isAgg e).run P w=.ok false w:=by
  unfold isAgg;rw [Sem.run_bind,run_underlying T.one w];rfl
 simp only [part,Sem.run_bind,h1,Result.andThen_ok,Bool.false_eq_true,if_false]
 rw [dP x i hi];rfl
theorem lc {P:Program} {t e:TypeId} (T:IdTy P t e) (w:World):(sizeOf e).run P w=.ok 1 w:=by
 cases hi:P.info? e with
 |none=>have:=T.info;simp [hi] at this
 |some i=>have:=T.info;simp [hi] at this;simp [sizeOf,typeInfo,Sem.run_bind,hi,this]
theorem wd {P:Program} {t e:TypeId} (T:IdTy P t e) (x y:Id) (d:Nat) (w:World) (F:Nat→Option Bool × Unit→Sem (ForInStep (Option Bool × Unit)))
 (hF:∀ i,i<32→∀ r,(F i r).run P w=if bz x i=bz y i then .ok (.yield (none,())) w else .ok (.done (some false,())) w):
 ∀ n s,s+n≤32→(forIn (List.range' s n) ((none,()):Option Bool × Unit) F).run P w=.ok (if (List.range' s n).all (fun i=>decide (bz x i=bz y i))=true then none else some false,()) w:=by
 intro n
 induction n with
 |zero=>intro s _;simp
 |succ n ih=>
  intro s hs
  simp only [List.range'_succ,List.forIn_cons,Sem.run_bind,hF s (by omega)]
  by_cases h:bz x s=bz y s
  ·rw [if_pos h]
   simp only [Result.andThen_ok]
   rw [ih (s+1) (by omega)]
   simp only [List.all_cons,h,decide_true,Bool.true_and]
  ·rw [if_neg h]
   simp [h]
theorem lL {P:Program} {t e:TypeId} (T:IdTy P t e) (x y:Id) (d:Nat) (w:World):(Op.equalIn (d+2) t (gp x) (gp y)).run P w=.ok (decide (x=y)) w:=by
 unfold Op.equalIn
 simp only [Sem.run_bind,run_underlying T.desc w,Result.andThen_ok,lc T w]
 simp only [Std.Legacy.Range.forIn_eq_forIn_range']
 rw [wd T x y d w _ (fun i hi r=>by
  simp only [Sem.run_bind,Nat.mul_one,ju T x i hi,ju T y i hi,Result.andThen_ok,run_equalIn_int w d e _ .u8 _ _ T.one,GG]
  by_cases h:bz x i=bz y i<;>simp [h]) _ 0 (by decide)]
 simp only [Result.andThen_ok]
 have:(List.range' 0 [:32].size).all (fun i=>decide (bz x i=bz y i))=true↔x=y:=
  ⟨fun g=>wT fun i hi=>by have:=List.all_eq_true.1 g i (by simp [List.mem_range',Std.Legacy.Range.size];omega);simpa using this,fun e=>by subst e;simp⟩
 by_cases h:x=y
 ·rw [if_pos (this.2 h)];simp [h]
 ·rw [if_neg (fun g=>h (this.1 g))];simp [h]
section
variable {P:Program} {ρ:Operand→Value} {d:Option Tmp} {ty:TypeId} {pos:String} {af:Array Edge} {g:Option (Nat × Bool)} {a b:Operand} {t t' e:TypeId} {x y:Id}
theorem cn (T:IdTy P t e) (hx:ρ a=gp x) (hy:ρ b=gp y):aM P ⟨d,.binOp .eql t a b t',ty,pos,af,g⟩ ρ (.bool (decide (x=y))):=fun w=>by
 simp only [execOp,hx,hy,Sem.run_bind,run_eqGuard_agg w .eql t a b _ _ T.guard,Result.andThen_ok,run_eql_struct]
 rw [show (10000:Nat)=9998+2 from rfl,lL T x y];rfl
theorem sn (T:IdTy P t e) (hx:ρ a=gp x) (hy:ρ b=gp y):aM P ⟨d,.binOp .neq t a b t',ty,pos,af,g⟩ ρ (.bool (decide (x≠y))):=fun w=>by
 simp only [execOp,hx,hy,Sem.run_bind,run_eqGuard_agg w .neq t a b _ _ T.guard,Result.andThen_ok,run_neq_struct]
 rw [show (10000:Nat)=9998+2 from rfl,lL T x y]
 simp
theorem dA (T:IdTy P t e):aM P ⟨d,.build t #[],ty,pos,af,g⟩ ρ (gp 0#256):=fun w=>by
 cases hi:P.info? t with
 |none=>have:=T.zero;simp [hi] at this
 |some i=>
  have hz:i.zero=some (gp 0#256):=by have:=T.zero;simpa [hi] using this
  have hz':i.zero=some (.agg (aA 0#256)):=hz
  cases he:P.info? e with
  |none=>have:=T.info;simp [he] at this
  |some j=>
   simp [execOp,Instr.build,Sem.run_bind,run_underlying T.desc w,zeroValue,typeInfo,hi,hz',sizeOf,he,Instr.fill,Value.cells]
end
theorem Ay {P:Program} {ρ:Operand→Value} {d:Option Tmp} {ty:TypeId} {pos:String} {af:Array Edge} {g:Option (Nat × Bool)} {c x y:Operand} {X:Value} (hc:ρ c=.bool true) (hx:ρ x=X):aM P ⟨d,.pick c x y,ty,pos,af,g⟩ ρ X:=zg hc (by simpa using hx)
theorem Av {P:Program} {ρ:Operand→Value} {d:Option Tmp} {ty:TypeId} {pos:String} {af:Array Edge} {g:Option (Nat × Bool)} {c x y:Operand} {X:Value} (hc:ρ c=.bool false) (hy:ρ y=X):aM P ⟨d,.pick c x y,ty,pos,af,g⟩ ρ X:=zg hc (by simpa using hy)
theorem F1 {ro:Option Nat} {P:Program} {id:Nat} {n:Nat} {L:List (Nat × Value)} {Df:List Deferred} {ops:List Oper} (m:Nat) (cls:List (List Nat)) {a:Act} {w:World} {Q:Exit→Act→World→Prop} (h:Sl n a L Df)
 (hm:P.follows .mixedOrders=true) (hok:jk ops m cls n=true) (hsel:Region.noSelect ops.toArray=true)
 (k:iK P ops.toArray (bX P ops.toArray (Q .normal) (ops.drop m)) w (ops.take m) a):(Code.region id ops.toArray true).wpIn (FR ro) 0 P Q a w:=by
 have hml:=zt hok
 have e:ops.take m++ops.drop m=ops:=List.take_append_drop m ops
 have el:(ops.take m).length=m:=by simp;omega
 have:=q6 (ro:=ro) (id:=id) (l:=ops.take m) (tl:=ops.drop m) cls (a0:=a) (w0:=w) (Q:=Q) hm (by rw [e,el,h.size];exact hok) (by rw [e];exact hsel) (by rw [e];exact k)
 rwa [e] at this
def jX (x:Nat) (i:Nat):Nat:=x / 2 ^ (255 - i) % 2
theorem Hp (a:Id) (i:Nat) (hi:i<256):bz a (i / 8) / 2 ^ (7 - i % 8) % 2=jX a.toNat i:=by
 unfold jX bz lf
 have h1:256 ^ (31 - i / 8)=2 ^ (8*(31 - i / 8)):=by rw [Nat.pow_mul]
 have h3:2 ^ (255 - i)=2 ^ (8*(31 - i / 8))*2 ^ (7 - i % 8):=by rw [← Nat.pow_add];congr 1;omega
 rw [h3,← Nat.div_div_eq_div_mul,h1]
 generalize a.toNat / 2 ^ (8*(31 - i / 8))=x
 have h2:(256:Nat)=2 ^ (7 - i % 8)*(2*2 ^ (i % 8)):=by
  rw [← Nat.pow_succ',← Nat.pow_add]
  rw [show 7 - i % 8+(i % 8).succ=8 from by omega]
 have h4:x % 256 / 2 ^ (7 - i % 8)=x / 2 ^ (7 - i % 8) % (2*2 ^ (i % 8)):=by
  conv=>lhs;rw [h2]
  rw [Nat.mod_mul_right_div_self]
 rw [h4,Nat.mod_mul_right_mod]
theorem Ar (b j:Nat):((b / 2 ^ j:Nat):Int) / 2=((b / 2 ^ (j+1):Nat):Int):=by
 rw [Nat.pow_succ,← Nat.div_div_eq_div_mul];omega
def eH (a b:Id):Int:=if a.toNat<b.toNat then -1 else if b.toNat<a.toNat then 1 else 0
def er (x y:Int):Int:=if x<y then -1 else if y<x then 1 else 0
theorem gJ (x:Id) (k:Nat) (hk:k<32):x.toNat / 256 ^ (31 - k)=x.toNat / 256 ^ (32 - k)*256+bz x k:=by
 unfold bz lf
 have:=gA x.toNat (31 - k)
 rw [show 31 - k+1=32 - k from by omega] at this
 exact this
theorem wr (a b:Id):a.toNat / 256 ^ (32 - 0)=b.toNat / 256 ^ (32 - 0):=by
 have ha:=a.isLt
 have hb:=b.isLt
 have h3:(256:Nat) ^ (32 - 0)=2 ^ 256:=by decide
 rw [Nat.div_eq_of_lt (by omega),Nat.div_eq_of_lt (by omega)]
theorem uR (a b:Id) (k:Nat) (hk:k<32) (h:a.toNat / 256 ^ (32 - k)=b.toNat / 256 ^ (32 - k)) (he:(bz a k:Int)=bz b k):
 a.toNat / 256 ^ (32 - (k+1))=b.toNat / 256 ^ (32 - (k+1)):=by
 rw [show 32 - (k+1)=31 - k from by omega,gJ a k hk,gJ b k hk,h];omega
theorem yC (a b:Id) (k:Nat) (hk:k=32) (h:a.toNat / 256 ^ (32 - k)=b.toNat / 256 ^ (32 - k)):a=b:=by
 subst hk;apply BitVec.eq_of_toNat_eq;simpa using h
theorem gY {x y p:Nat} (h:x / p<y / p):x<y:=by
 rcases Nat.lt_or_ge x y with g|g
 ·exact g
 ·have:=Nat.div_le_div_right (c:=p) g;omega
theorem I8 (a b:Id) (k:Nat) (hk:k<32) (h:a.toNat / 256 ^ (32 - k)=b.toNat / 256 ^ (32 - k)) (hne:(bz a k:Int)≠bz b k):er (bz a k) (bz b k)=eH a b:=by
 have ha:=gJ a k hk
 have hb:=gJ b k hk
 unfold er eH
 rcases Nat.lt_trichotomy (bz a k) (bz b k) with g|g|g
 ·rw [if_pos (by omega),if_pos (gY (p:=256 ^ (31 - k)) (by omega))]
 ·omega
 ·have h2:b.toNat<a.toNat:=gY (p:=256 ^ (31 - k)) (by omega)
  rw [if_neg (by omega),if_pos (by omega),if_neg (by omega),if_pos h2]
theorem sE (a:Id):eH a a=0:=by simp [eH]
theorem jE (x k:Nat) (hk:k<256):x / 2 ^ (255 - k)=x / 2 ^ (256 - k)*2+jX x k:=by
 unfold jX
 have:2 ^ (256 - k)=2 ^ (255 - k)*2:=by rw [← Nat.pow_succ];congr 1;omega
 rw [this,← Nat.div_div_eq_div_mul];omega
theorem oa (a b:Id):a.toNat / 2 ^ (256 - 0)=b.toNat / 2 ^ (256 - 0):=by
 have ha:=a.isLt
 have hb:=b.isLt
 rw [Nat.div_eq_of_lt (by omega),Nat.div_eq_of_lt (by omega)]
theorem oM (a b:Id) (k:Nat) (hk:k<256) (h:a.toNat / 2 ^ (256 - k)=b.toNat / 2 ^ (256 - k)) (he:(jX a.toNat k:Int)=jX b.toNat k):
 a.toNat / 2 ^ (256 - (k+1))=b.toNat / 2 ^ (256 - (k+1)):=by
 rw [show 256 - (k+1)=255 - k from by omega,jE _ k hk,jE _ k hk,h];omega
theorem v6 (a b:Id) (k:Nat) (hk:k=256) (h:a.toNat / 2 ^ (256 - k)=b.toNat / 2 ^ (256 - k)):a=b:=by
 subst hk;apply BitVec.eq_of_toNat_eq;simpa using h
theorem GM (a b:Id) (k:Nat) (hk:k<256) (h:a.toNat / 2 ^ (256 - k)=b.toNat / 2 ^ (256 - k)) (hne:(jX a.toNat k:Int)<jX b.toNat k):eH a b = -1:=by
 have ha:=jE a.toNat k hk
 have hb:=jE b.toNat k hk
 unfold eH
 rw [if_pos (gY (p:=2 ^ (255 - k)) (by omega))]
theorem Gk (a b:Id) (k:Nat) (hk:k<256) (h:a.toNat / 2 ^ (256 - k)=b.toNat / 2 ^ (256 - k)) (hne:(jX b.toNat k:Int)<jX a.toNat k):eH a b=1:=by
 have ha:=jE a.toNat k hk
 have hb:=jE b.toNat k hk
 unfold eH
 have h2:b.toNat<a.toNat:=gY (p:=2 ^ (255 - k)) (by omega)
 rw [if_neg (by omega),if_pos h2]
def Ov (x a b:Id):Bool:=decide (a=b) || (decide (x≠a) && decide ((x - a).toNat≤(b - a).toNat))
theorem F6 (a b:Id):decide (eH a b<0)=decide (a.toNat<b.toNat):=by
 unfold eH
 by_cases h1:a.toNat<b.toNat
 ·rw [if_pos h1];simp;omega
 ·rw [if_neg h1]
  by_cases h2:b.toNat<a.toNat
  ·rw [if_pos h2];simp;omega
  ·rw [if_neg h2];simp;omega
def aO (f:Nat→Nat) (n:Nat):Array Value:=((List.range n).map fun i=>Value.int .u8 (f i:Int)).toArray
theorem d4 (x:Id):aA x=aO (bz x) 32:=rfl
@[simp] theorem ah (f:Nat→Nat) (n:Nat):(aO f n).size=n:=by simp [aO]
theorem ei (f:Nat→Nat) (n i:Nat) (h:i<n):(aO f n)[i]? = some (.int .u8 (f i:Int)):=by simp [aO,h]
theorem ci {f g:Nat→Nat} {n:Nat} (h:∀ i,i<n→f i=g i):aO f n=aO g n:=by
 unfold aO
 congr 1
 exact List.map_congr_left fun i hi=>by rw [h i (List.mem_range.1 hi)]
theorem kN (f:Nat→Nat) (n j v:Nat):(aO f n).setIfInBounds j (.int .u8 (v:Int))=aO (fun i=>if i=j then v else f i) n:=by
 apply Array.ext_getElem?
 intro i
 by_cases hi:i<n
 ·rw [ei _ n i hi]
  by_cases hij:j=i
  ·subst hij;simp [hi]
  ·rw [Array.getElem?_setIfInBounds_ne hij,ei _ n i hi,if_neg (fun e=>hij e.symm)]
 ·rw [Array.getElem?_eq_none (by simp;omega),Array.getElem?_eq_none (by simp;omega)]
def i0 (f:Nat→Nat) (n:Nat):ByteArray:=⟨((List.range n).map fun i=>UInt8.ofNat (f i)).toArray⟩
@[simp] theorem jG (f:Nat→Nat) (n:Nat):(i0 f n).size=n:=by simp [i0,ByteArray.size]
theorem mM (l:List UInt8):∀ s:ByteArray,l.foldl (fun r c=>r.push c) s=⟨s.data++l.toArray⟩:=by
 induction l with
 |nil=>intro s;simp
 |cons c l ih=>
  intro s
  rw [List.foldl_cons,ih]
  simp [ByteArray.push]
theorem qV (f:Nat→Nat) (n:Nat):(((List.range n).map fun i=>(f i:Int)).foldl (fun r m=>r.push (UInt8.ofNat m.toNat)) ByteArray.empty)=i0 f n:=by
 have:(((List.range n).map fun i=>(f i:Int)).foldl (fun r m=>r.push (UInt8.ofNat m.toNat)) ByteArray.empty)=((List.range n).map fun i=>UInt8.ofNat (f i)).foldl (fun r c=>r.push c) ByteArray.empty:=by
  rw [List.foldl_map,List.foldl_map];simp
 rw [this,mM]
 simp [i0,ByteArray.empty,ByteArray.emptyWithCapacity]
 rfl
section
variable {ro:Option Nat} {P:Program} {ops:Array Oper} {Q:Act→World→Prop} {l:List Oper} {a:Act} {w w0:World} {N:Nat} {L:List (Nat × Value)} {Df:List Deferred} {B:List Own} {d:Tmp} {ty:TypeId} {pos:String} {af:Array Edge} {x y:Operand} {t t' e:TypeId}
theorem rD (s:St w0 B w) (i:Nat) {b n cap:Nat} {f:Nat→Nat} {u:TypeId} (hi:B[i]? = some (.blk b (.cells (aO f n) u))) (hs:P.underlying t=some (.slice e)) (he:P.underlying e=some (.int .u8)) (hd:P.underlying t'=some .string):
 (convert t t' (.slice (some ⟨b,0,none⟩) n cap)).run P w=.ok (.string (i0 f n)) w:=by
 rw [run_convert_bytes_string w t t' e _ _ _ hs he hd,run_bytesToString w ⟨b,0,none⟩ n cap ((List.range n).map fun i=>(f i:Int)),qV]
 have:=run_loadCells_list (P:=P) w ⟨b,0,none⟩ (aO f n).toList (fun j v hv=>by
  have hadd:(⟨b,0,none⟩:Addr).add j=⟨b,j,none⟩:=by unfold Addr.add;split<;>simp_all
  rw [hadd]
  exact lr s i hi (by simpa using hv))
 have e:((List.range n).map fun i=>(f i:Int)).map (Value.int .u8)=(aO f n).toList:=by simp [aO]
 have el:(aO f n).toList.length=n:=by simp
 rw [el] at this
 rw [e];exact this
theorem BV {b n cap:Nat} {f:Nat→Nat} {u:TypeId} (i:Nat) (h:Sl N a L Df) (s:St w0 B w) (hs:P.underlying t=some (.slice e)) (he:P.underlying e=some (.int .u8)) (hd:P.underlying t'=some .string)
 (hx:eu L x=some (.slice (some ⟨b,0,none⟩) n cap)) (hi:B[i]? = some (.blk b (.cells (aO f n) u))) (hdn:Nat.blt d N=true)
 (k:∀ a',Sl N a' ((d,.string (i0 f n))::L) Df→bX P ops Q l a' w):bX P ops Q (⟨some d,.convert t t' x,ty,pos,af,none⟩::l) a w:=
 dw (R:=fun v w'=>v=.string (i0 f n)∧w'=w) h (by
  unfold db
  simp only [execOp,h.ev hx,Sem.run_bind,rD s i hi hs he hd,Result.andThen_ok,Sem.run_pure]
  first|exact ⟨rfl,rfl⟩|exact ⟨trivial,rfl⟩|exact ⟨trivial,trivial⟩|trivial) hdn fun a' w' v ⟨h1,h2⟩ hs=>by subst h1;subst h2;exact k a' hs
end
section
variable {P:Program} {ρ:Operand→Value} {d:Option Tmp} {ty:TypeId} {pos:String} {af:Array Edge} {g:Option (Nat × Bool)} {x y:Operand} {t t' e:TypeId} {k k':IntKind} {m n:Int}
theorem o5 (T:IdTy P t e) {a:Id} (j:Nat) (hx:ρ x=gp a) (hy:ρ y=.int k m) (hj:m=(j:Int)) (hlt:j<32):aM P ⟨d,.index t x y,ty,pos,af,g⟩ ρ (.int .u8 (bz a j:Int)):=fun w=>by
 subst hj
 have h1:(0:Int)≤(j:Int)∧(j:Int)<((32:Nat):Int):=by omega
 simp only [execOp,hx,hy,Instr.index,asIntOf,Sem.run_bind,Sem.run_pure,Result.andThen_ok,run_underlying T.desc w]
 rw [if_pos h1]
 simp only [Sem.run_bind,lc T w,Result.andThen_ok,Int.toNat_natCast,Nat.mul_one,ju T a j hlt,Sem.run_pure]
theorem nx {s:ByteArray} {v:UInt8} (ht:P.underlying t=some .string) (j:Nat) (hx:ρ x=.string s) (hy:ρ y=.int k m) (hj:m=(j:Int)) (hv:s[j]? = some v):aM P ⟨d,.index t x y,ty,pos,af,g⟩ ρ (.int .u8 (v.toNat:Int)):=fun w=>by
 subst hj
 simp [execOp,hx,hy,Instr.index,asIntOf,Sem.run_bind,run_underlying ht,hv]
theorem jW {b len:Nat} (ht:P.underlying t=some (.array len e)) (he:(P.info? e).map (·.size)=some 1) (hx:ρ x=.pointer (some ⟨b,0,none⟩)):aM P ⟨d,.slice t x none none none,ty,pos,af,g⟩ ρ (.slice (some ⟨b,0,none⟩) len len):=fun w=>by
 cases hi:P.info? e with
 |none=>simp [hi] at he
 |some i=>
  have h1:i.size=1:=by simpa [hi] using he
  have ha:(⟨b,0,none⟩:Addr).add 0=⟨b,0,none⟩:=by simp [Addr.add]
  simp [execOp,hx,Instr.sliceAt,Instr.sliceBounds,Sem.run_bind,run_underlying ht,Instr.sureAddr,sizeOf,typeInfo,hi,h1,ha]
theorem n6 {op:BinOp} (hop:op=.and∨op=.or∨op=.xor∨op=.andNot) {X:Value} (hx:ρ x=.int k m) (hy:ρ y=.int k n) (h:∀ w,(Op.intBits op k m n).run P w=.ok X w):aM P ⟨d,.binOp op t x y t',ty,pos,af,g⟩ ρ X:=
 gt hx hy fun w=>by rcases hop with rfl|rfl|rfl|rfl<;>simp [binOp,h]
theorem fC (k:Nat) (a:Nat):BitVec.ofInt k (a:Int)=BitVec.ofNat k a:=by
 apply BitVec.eq_of_toNat_eq;simp [BitVec.toNat_ofInt]
theorem AX {a b:Nat} (hx:ρ x=.int .u8 (a:Int)) (hy:ρ y=.int .u8 (b:Int)) (ha:a<256) (hb:b<256):aM P ⟨d,.binOp .xor t x y t',ty,pos,af,g⟩ ρ (.int .u8 ((a ^^^ b:Nat):Int)):=
 n6 (.inr (.inr (.inl rfl))) hx hy fun w=>by
  have hk:IntKind.u8.bits=8:=rfl
  have h1:a ^^^ b<256:=Nat.xor_lt_two_pow (n:=8) ha hb
  simp only [Op.intBits,Sem.run_pure,fC,BitVec.toNat_xor,BitVec.toNat_ofNat,hk]
  rw [Nat.mod_eq_of_lt (by simpa using ha),Nat.mod_eq_of_lt (by simpa using hb),IntWalk.u8_in _ (by omega)]
theorem ct {s:ByteArray} (ht:P.underlying t=some .string) (hx:ρ x=.string s):aM P ⟨d,.call {callee:=.builtin .len,args:=#[x],argTypes:=#[t]},ty,pos,af,g⟩ ρ (.int .i64 (s.size:Int)):=fun w=>by
 simp [execOp,resolve,hx,invoke,builtin,Builtin.len_,Sem.run_bind,run_underlying ht,goInt]
theorem uf {a b:Bool} (ht:P.underlying t=some .bool) (hx:ρ x=.bool a) (hy:ρ y=.bool b):aM P ⟨d,.binOp .neq t x y t',ty,pos,af,g⟩ ρ (.bool (a != b)):=fun w=>by
 simp [execOp,hx,hy,Sem.run_bind,eqGuard,binOp,run_equal_bool w t a b ht,bne]
end
theorem bG {P:Program} {f:FuncId} {vs:Array Value} {w:World} {X:Value} (Y:Value) (h:Calls P f vs w (cp w (is X))) (e:X=Y):Calls P f vs w (cp w (is Y)):=e▸h
section
variable {ro:Option Nat} {P:Program} {ops:List Oper} {K:Act→World→Prop} {Q:Act→World→Prop} {l:List Oper} {a:Act} {w:World} {N:Nat} {L:List (Nat × Value)} {Df:List Deferred} {d:Tmp} {op:Op} {ty:TypeId} {pos:String} {af:Array Edge}
theorem qT {ops:Array Oper} {j:Nat} {b:Bool} {od:Oper} {t:Tmp} (h:Sl N a L Df) (hj:ops[j]? = some od) (ht:od.dst=some t) (hv:lk L t=some undef) (d:Option Tmp):Region.wanted ⟨d,op,ty,pos,af,some (j,b)⟩ (yielded ops a.tmps)=false:=by
 have h2:=h.holds t _ hv
 have hy:yielded ops a.tmps j=none:=by
  unfold yielded
  by_cases hlt:t<a.tmps.size
  ·have h3:a.tmps[t]? = some undef:=by simp [hlt] at h2 ⊢;exact h2
   simp [hj,ht,h3,undef]
  ·have h3:a.tmps[t]? = none:=Array.getElem?_eq_none (Nat.le_of_not_lt hlt)
   simp [hj,ht,h3]
 simp [Region.wanted,hy]
theorem JB {j:Nat} {b:Bool} {od:Oper} {t:Tmp} (h:Sl N a L Df) (hj:ops[j]? = some od) (ht:od.dst=some t) (hv:lk L t=some undef) (hd:Nat.blt d N=true)
 (k:∀ a',Sl N a' ((d,undef)::L) Df→iK P ops.toArray K w l a'):iK P ops.toArray K w (⟨some d,op,ty,pos,af,some (j,b)⟩::l) a:=by
 refine ⟨undef,?_,k _ (h.put hd undef)⟩
 rw [qT h (by simpa using hj) ht hv];rfl
theorem cw {j:Nat} {b:Bool} {od:Oper} {t:Tmp} (h:Sl N a L Df) (hj:ops[j]? = some od) (ht:od.dst=some t) (hv:lk L t=some undef) (hd:Nat.blt d N=true)
 (k:∀ a',Sl N a' ((d,undef)::L) Df→bX P ops.toArray Q l a' w):bX P ops.toArray Q (⟨some d,op,ty,pos,af,some (j,b)⟩::l) a w:=by
 unfold bX
 rw [qT h (by simpa using hj) ht hv]
 exact k _ (h.put hd undef)
end
end Go.Proofs.YtobfeflheaobiaaGreatDoor
namespace Go.Proofs.YtobfeflheaobiaaGreatDoor
open Go.ChangeShapes Go.WideShapes Go.ChangeAt Go.RowKit
variable {H:Type} {enc:TypeId × Value→H} {P:Program}
theorem wZ (hl:laidOutB P=true) {W W':World} (hb:Below W.heap.size W W') {t:TypeId} {v:Value} {d:DataW H} {p:List MemPlace} (hr:P.readableRec t=true) (ht:t<P.types.size)
 (h:DataW.Trod enc P W 0 (fun _=>true) true t v d p) (hlt:∀ x∈p,x.block<W.heap.size):DataW.Trod enc P W' 0 (fun b=>decide (b<W.heap.size)) true t v d p:=
 WideElems.Trod_stays hl hr ht h (fun x hx=>hb.same (hlt x hx)) (fun x hx=>by simpa using hlt x hx)
theorem mB (hl:laidOutB P=true) {W W':World} (hb:Below W.heap.size W W'):∀ {ts:List TypeId} {vs:List Value} {ds:List (DataW H)} {p:List MemPlace},
 (∀ t∈ts,P.readableRec t=true∧t<P.types.size)→DataW.TrodAll enc P W 0 (fun _=>true) true ts vs ds p→(∀ x∈p,x.block<W.heap.size)→
 DataW.TrodAll enc P W' 0 (fun b=>decide (b<W.heap.size)) true ts vs ds p
 |[],[],[],_,_,h,_=>h
 |t::ts,v::vs,d::ds,_,hr,⟨p,q,h1,h2,e⟩,hlt=>by
  subst e
  exact ⟨p,q,wZ hl hb (hr t List.mem_cons_self).1 (hr t List.mem_cons_self).2 h1 (fun x hx=>hlt x (List.mem_append_left _ hx)),
   mB hl hb (fun t' ht'=>hr t' (List.mem_cons_of_mem _ ht')) h2 (fun x hx=>hlt x (List.mem_append_right _ hx)),rfl⟩
 |[],_::_,_,_,_,h,_=>h.elim
 |[],[],_::_,_,_,h,_=>h.elim
 |_::_,[],_,_,_,h,_=>h.elim
 |_::_,_::_,[],_,_,h,_=>h.elim
theorem wK (hl:laidOutB P=true) {W W':World} (hb:Below W.heap.size W W') {ts:List TypeId} {vs:List Value} {ds:List (DataW H)} {p:List MemPlace}
 (hr:(ts.all fun t=>P.readableRec t && decide (t<P.types.size))=true) (h:DataW.TrodAll enc P W 0 (fun _=>true) true ts vs ds p) (hlt:∀ x∈p,x.block<W.heap.size):
 DataW.TrodAll enc P W' 0 (fun b=>decide (b<W.heap.size)) true ts vs ds p:=
 mB hl hb (fun t ht=>by have:=List.all_eq_true.1 hr t ht;simpa using this) h hlt
theorem Hh {w:World} {base:Nat} {spare:Nat→Bool} {held:Bool} {t e:TypeId} {v:Value} {d:DataW H} {ps:List MemPlace} (T:IdTy P t e) (hc:P.cellsOf t=32) (hce:P.cellsOf e=1)
 (h:DataW.Trod enc P w base spare held t v d ps):∃ x:Id,v=gp x:=by
 obtain ⟨fuel,hf⟩:=h
 obtain ⟨xs,m,rfl,_,hlen,hxl,hel⟩:=DataW.trod_array T.desc hf
 rw [hc] at hlen
 cases v with
 |agg cs=>
  have hcs:cs.size=32:=by simpa [Value.cells] using hlen
  have key:∀ i,i<32→∃ n:Nat,n<256∧cs[i]? = some (.int .u8 (n:Int)):=fun i hi=>by
   have h1:=hel i hi
   have hx:xs[i]? = some xs[i]:=by simp
   rw [hce,hx] at h1
   have hci:cs.toList[i]? = some cs[i]:=by simp
   have hone:((Value.agg cs).cells.toList.drop (i*1)).take 1=[cs[i]]:=by
    show (cs.toList.drop (i*1)).take 1=_
    rw [Nat.mul_one,List.drop_eq_getElem_cons (by simpa [hcs] using hi)]
    simp
   rw [hone] at h1
   obtain ⟨n,he,_,hwf⟩:=DataW.trod_int T.one h1
   have hb:=bounds_u8 hwf
   refine ⟨n.toNat,by omega,?_⟩
   have hcn:cs[i]=.int .u8 n:=by simpa using he
   have:((n.toNat:Nat):Int)=n:=by omega
   rw [this,← hcn];simp [hcs,hi]
  let f:Nat→Nat:=fun i=>if h:i<32 then Classical.choose (key i h) else 0
  have hf256:∀ i,f i<256:=fun i=>by
   show (if h:i<32 then Classical.choose (key i h) else 0)<256
   split
   ·rename_i h;exact(Classical.choose_spec (key i h)).1
   ·decide
  refine ⟨yd f,?_⟩
  refine congrArg Value.agg ?_
  apply Array.ext_getElem?
  intro i
  by_cases hi:i<32
  ·rw [dP _ i hi,lW f hf256 i hi,(Classical.choose_spec (key i hi)).2]
   show _=some (Value.int .u8 ((if h:i<32 then Classical.choose (key i h) else 0:Nat):Int))
   rw [dif_pos hi]
  ·rw [Array.getElem?_eq_none (by omega),Array.getElem?_eq_none (by simp;omega)]
 |_=>simp [Value.cells] at hlen
theorem Co {n:Int} (h:(Lit.int .i64 n).wf=true) : -9223372036854775808≤n∧n≤9223372036854775807:=bounds_i64 h
end Go.Proofs.YtobfeflheaobiaaGreatDoor
namespace Go.Proofs.YtobfeflheaobiaaGreatDoor
def nV (a b:Id) (n:Nat):Prop:=n≤256∧a.toNat / 2 ^ (256 - n)=b.toNat / 2 ^ (256 - n)∧(n<256→jX a.toNat n≠jX b.toNat n)
theorem B6 {x y p q:Nat} (h:x / 2 ^ p=y / 2 ^ p) (hq:p≤q):x / 2 ^ q=y / 2 ^ q:=by
 have:2 ^ q=2 ^ p*2 ^ (q - p):=by rw [← Nat.pow_add];congr 1;omega
 rw [this,← Nat.div_div_eq_div_mul,← Nat.div_div_eq_div_mul,h]
theorem vQ {a b:Id} {n m:Nat} (h:nV a b n) (g:nV a b m):m≤n:=by
 rcases Nat.lt_or_ge n m with hlt|hge
 ·exfalso
  have h1:=g.1
  refine h.2.2 (by omega) ?_
  have:=B6 g.2.1 (show 256 - m≤255 - n by omega)
  unfold jX;rw [this]
 ·exact hge
theorem tM {a b:Id} {n m:Nat} (h:nV a b n) (g:nV a b m):n=m:=Nat.le_antisymm (vQ g h) (vQ h g)
theorem q5 (a b:Id):∀ d k,k+d=256→a.toNat / 2 ^ (256 - k)=b.toNat / 2 ^ (256 - k)→∃ n,nV a b n
 |0,k,hk,h=>⟨k,by omega,h,fun hl=>by omega⟩
 |d+1,k,hk,h=>by
  by_cases e:jX a.toNat k=jX b.toNat k
  ·exact q5 a b d (k+1) (by omega) (oM a b k (by omega) h (by rw [e]))
  ·exact ⟨k,by omega,h,fun _=>e⟩
theorem nr (a b:Id):∃ n,nV a b n:=q5 a b 256 0 rfl (oa a b)
noncomputable def iH (a b:Id):Nat:=Classical.choose (nr a b)
theorem xg (a b:Id):nV a b (iH a b):=Classical.choose_spec (nr a b)
theorem sV {a b:Id} {n:Nat} (h:nV a b n):n=iH a b:=tM h (xg a b)
theorem B5 (a b:Id):iH a b≤256:=(xg a b).1
theorem Gr (a b:Id):iH a b=256↔a=b:=by
 have h:=xg a b
 constructor
 ·intro e;rw [e] at h;exact v6 a b 256 rfl h.2.1
 ·intro e;subst e
  exact(sV ⟨Nat.le_refl _,rfl,fun hl=>by omega⟩).symm
theorem C3 (a b:Id) (k:Nat) (hk:k<256) (h:a.toNat / 2 ^ (256 - k)=b.toNat / 2 ^ (256 - k)) (he:(jX a.toNat k:Int)≠jX b.toNat k):k=iH a b:=
 sV ⟨by omega,h,fun _ e=>he (by rw [e])⟩
theorem Bu (a b:Id) (k:Nat) (hk:k=256) (h:a.toNat / 2 ^ (256 - k)=b.toNat / 2 ^ (256 - k)):k=iH a b:=
 sV ⟨by omega,h,fun hl=>by omega⟩
def jq (x:Nat):Nat:=if x=0 then 0 else x.log2+1
theorem nP (x:Nat) (h:x<256):jq x≤8:=by
 unfold jq;split
 ·omega
 ·rename_i h0
  have:x.log2<8:=(Nat.log2_lt h0).2 h
  omega
theorem Ez (x:Nat) (h:x≠0):1≤jq x:=by unfold jq;rw [if_neg h];omega
theorem tw {p q:Nat} (h:p≠q):p ^^^ q≠0:=fun e=>h (by
 have:p ^^^ q ^^^ q=0 ^^^ q:=by rw [e]
 rwa [Nat.xor_assoc,Nat.xor_self,Nat.xor_zero,Nat.zero_xor] at this)
theorem Ah (p q:Nat) (h:p≠q):p / 2 ^ jq (p ^^^ q)=q / 2 ^ jq (p ^^^ q):=by
 have h0:=tw h
 have hlt:p ^^^ q<2 ^ jq (p ^^^ q):=by unfold jq;rw [if_neg h0];exact Nat.lt_log2_self
 generalize jq (p ^^^ q)=L at *
 have:(p >>> L) ^^^ (q >>> L)=0:=by rw [← Nat.shiftRight_xor_distrib,Nat.shiftRight_eq_div_pow,Nat.div_eq_of_lt hlt]
 rw [← Nat.shiftRight_eq_div_pow,← Nat.shiftRight_eq_div_pow]
 by_cases e:p >>> L=q >>> L
 ·exact e
 ·exact absurd this (tw e)
theorem xo (p q:Nat) (h:p≠q):p / 2 ^ (jq (p ^^^ q) - 1) % 2≠q / 2 ^ (jq (p ^^^ q) - 1) % 2:=by
 have h0:=tw h
 have ht:(p ^^^ q).testBit (jq (p ^^^ q) - 1)=true:=by
  unfold jq;rw [if_neg h0,Nat.add_sub_cancel]
  exact Nat.testBit_log2 h0
 rw [Nat.testBit_xor,Nat.testBit_eq_decide_div_mod_eq,Nat.testBit_eq_decide_div_mod_eq] at ht
 intro e
 rw [e] at ht
 simp at ht
theorem ED (a b:Id) (k:Nat) (hk:k<32) (h:a.toNat / 256 ^ (32 - k)=b.toNat / 256 ^ (32 - k)) (hne:bz a k≠bz b k):
 8*(k:Int)+(8 - (jq (bz a k ^^^ bz b k):Int))=(iH a b:Int):=by
 have hx:bz a k ^^^ bz b k<256:=Nat.xor_lt_two_pow (n:=8) (go a k) (go b k)
 have hL:=nP _ hx
 have hL1:=Ez _ (tw hne)
 have hs:=Ah _ _ hne
 have ho:=xo _ _ hne
 generalize jq (bz a k ^^^ bz b k)=L at *
 have ha:=gJ a k hk
 have hb:=gJ b k hk
 have e1:(256:Nat) ^ (31 - k)=2 ^ (248 - 8*k):=by rw [show 248 - 8*k=8*(31 - k) from by omega,Nat.pow_mul]
 have key:∀ j,j≤8→∀ x:Id,x.toNat / 2 ^ (248 - 8*k+j)=(x.toNat / 256 ^ (32 - k)*256+bz x k) / 2 ^ j:=fun j _ x=>by
  rw [Nat.pow_add,← Nat.div_div_eq_div_mul,← e1,gJ x k hk]
 have split:∀ j,j≤8→∀ x:Id,x.toNat / 2 ^ (248 - 8*k+j)=x.toNat / 256 ^ (32 - k)*2 ^ (8 - j)+bz x k / 2 ^ j:=fun j hj x=>by
  have e9:(256:Nat)=2 ^ (8 - j)*2 ^ j:=by rw [← Nat.pow_add,show 8 - j+j=8 from by omega]
  rw [key j hj x]
  generalize x.toNat / 256 ^ (32 - k)=A
  rw [e9,← Nat.mul_assoc,Nat.add_comm,Nat.add_mul_div_right _ _ (Nat.pow_pos (by decide)),Nat.add_comm]
 have hc:nV a b (8*k+(8 - L)):=by
  refine ⟨by omega,?_,fun _=>?_⟩
  ·rw [show 256 - (8*k+(8 - L))=248 - 8*k+L from by omega,split L hL a,split L hL b,h,hs]
  ·unfold jX
   rw [show 255 - (8*k+(8 - L))=248 - 8*k+(L - 1) from by omega,split (L - 1) (by omega) a,split (L - 1) (by omega) b,h]
   have e2:2 ^ (8 - (L - 1))=2*2 ^ (8 - L):=by rw [← Nat.pow_succ'];congr 1;omega
   rw [e2,← Nat.mul_assoc,Nat.mul_comm _ 2,Nat.mul_assoc]
   omega
 have:=sV hc
 omega
theorem Oz {s:ByteArray} (hs:((List.range 256).all fun i=>decide (s[i]? = some (UInt8.ofNat (jq i))))=true) (x:Nat) (hx:x<256):s[x]? = some (UInt8.ofNat (jq x)):=by
 have:=List.all_eq_true.1 hs x (List.mem_range.2 hx)
 simpa using this
theorem yj (x:Nat) (hx:x<256):(UInt8.ofNat (jq x)).toNat=jq x:=by
 have:=nP x hx
 simp [UInt8.toNat_ofNat'];omega
end Go.Proofs.YtobfeflheaobiaaGreatDoor
namespace Go.Proofs.YtobfeflheaobiaaGreatDoor
open Go.RowKit
structure Elm (P:Program) (e:TypeId) (sz by_:Nat):Prop where
 info:∃ i z,P.info? e=some i∧i.zero=some z∧i.size=sz∧i.bytes=by_∧z.cells.size=sz
 pos:0<sz
theorem gc (P:Program) (g o:Nat) (t:TypeId) (fz:Nat × Nat):∀ (vs:List Value) (i:Nat) (cur:Array Value) (w:World),w.heap[g]? = some (.cells cur t fz)→(fz.2=0∨cur.size≤fz.1)→o+i+vs.length≤cur.size→(∀ v∈vs,v.oneCell'=true)→
 (storeCells ⟨g,o,none⟩ vs i).run P w=.ok () (w.setRow g (cur.toList.take (o+i)++vs++cur.toList.drop (o+i+vs.length)).toArray)
 |[],i,cur,w,hg,_,_,_=>by
  simp only [storeCells,List.append_nil,List.length_nil,Nat.add_zero,List.take_append_drop,Array.toArray_toList]
  rw [setRow_self w g cur t fz hg]
  rfl
 |v::rest,i,cur,w,hg,hz,hl,h1=>by
  have hi:o+i<cur.size:=by simp at hl;omega
  have hadd:(⟨g,o,none⟩:Addr).add i=⟨g,o+i,none⟩:=by unfold Addr.add;split<;>simp_all
  have hcell:w.cell? ⟨g,o+i,none⟩=some cur[o+i]:=by simp [World.cell?,hg,hi]
  have hfro:w.frozen? ⟨g,o+i,none⟩=false:=by
   simp [World.frozen?,hg]
   omega
  have hst:(store ((⟨g,o,none⟩:Addr).add i) v).run P w=.ok () (w.setRow g (cur.setIfInBounds (o+i) v)):=by
   rw [hadd,run_store P w _ v _ (h1 v (by simp)),hcell]
   simp [hfro,setCell_eq_setRow w g (o+i) cur t fz v hg]
  have ih:=gc P g o t fz rest (i+1) (cur.setIfInBounds (o+i) v) (w.setRow g (cur.setIfInBounds (o+i) v)) (setRow_heap w g cur _ t _ hg) (by simpa using hz) (by simp at hl ⊢;omega) (fun x hx=>h1 x (by simp [hx]))
  simp only [storeCells,Sem.run_bind,hst,Result.andThen_ok,ih,setRow_setRow]
  congr 3
  have e:=list_seg_step cur.toList (o+i) v rest (by simp at hl ⊢;omega)
  simpa [Array.toList_setIfInBounds,Nat.add_assoc] using e
theorem ov {P:Program} (w:World) (t ty e:TypeId) (i:TypeInfo) (ht:P.underlying t=some (.slice e)) (hi:P.info? e=some i)
 (g sLen sCap:Nat) (cur:Array Value) (fz:Nat × Nat) (hg:w.heap[g]? = some (.cells cur e fz)) (hz:fz.2=0∨cur.size≤fz.1)
 (a:Addr) (m c:Nat) (news:List Value) (hl:news.length=m*i.size) (hnews:∀ j u,news[j]? = some u→w.cell? (a.add j)=some u) (h1:∀ u∈news,u.oneCell'=true)
 (hroom:sLen+m≤sCap) (hfit:sLen*i.size+news.length≤cur.size):
 (Builtin.append_ #[t,t] ty #[.slice (some ⟨g,0,none⟩) sLen sCap,.slice (some a) m c]).run P w =
  .ok (.slice (some ⟨g,0,none⟩) (sLen+m) sCap) (w.setRow g (cur.toList.take (sLen*i.size)++news++cur.toList.drop (sLen*i.size+news.length)).toArray):=by
 have hf:=run_firstCells_some (P:=P) w i.size m a m c news hl hnews
 have hst:=gc P g (sLen*i.size) e fz news 0 cur w hg hz (by simpa using hfit) h1
 simp only [Nat.add_zero] at hst
 simp [Builtin.append_,run_underlying ht,sizeOf,typeInfo,hi,Builtin.lenOf,hroom,hf,Addr.add_lit,hst]
theorem mK {P:Program} {w w0:World} {t ty e:TypeId} {sz by_:Nat} (ht:P.underlying t=some (.slice e)) (E:Elm P e sz by_) {v:Value} {n:Nat} {xs:List Value} (hown:cB w w0.heap.size e sz v n xs)
 {a:Addr} {m c:Nat} {news:List Value} (hl:news.length=m*sz) (hnews:∀ (j:Nat) u,news[j]? = some u→w.cell? (a.add j)=some u) (h1:∀ u∈news,u.oneCell'=true) (hm:1≤m)
 (h63:n+m≤maxLen) (hbytes:(n+m)*by_≤140737488355328) (hbase:w0.heap.size≤w.heap.size):
 ∃ v' w',(Builtin.append_ #[t,t] ty #[v,.slice (some a) m c]).run P w=.ok v' w'∧cB w' w0.heap.size e sz v' (n+m) (xs++news)∧Grw w w' v.ownBlock∧(v'.ownBlock=v.ownBlock∨v'.ownBlock=some w.heap.size):=by
 obtain ⟨i,z,hi,hz,rfl,rfl,hzs⟩:=E.info
 have hsmall:n+m≤9223372036854775807:=by simp only [maxLen] at h63;omega
 have hlen:(xs++news).length=(n+m)*i.size:=by rw [List.length_append,hown.1,hl,Nat.add_mul]
 have hnew:∀ (cap:Nat) (rest:Array Value),n+m≤cap→cap≤maxLen→rest.size=(cap - (n+m))*i.size→cB (w.drew.alloc (.cells (xs.toArray++news.toArray++rest) e)) w0.heap.size e i.size (.slice (some ⟨w.heap.size,0,none⟩) (n+m) cap) (n+m) (xs++news):=fun cap rest h2 h3 h4=>by
  refine ⟨hlen,.inr ⟨w.heap.size,cap,_,(0,0),rfl,hbase,heap_alloc_new w.drew _,.inl rfl,h2,h3,?_,?_⟩⟩
  ·rw [Array.size_append,Array.size_append,List.size_toArray,List.size_toArray,hown.1,hl,h4,← Nat.add_mul,← Nat.add_mul]
   congr 1;omega
  ·rw [Array.toList_append,Array.toList_append,← hlen];exact List.take_left
 have hgrow:∀ (o:Obj) (row:Option Nat),Grw w (w.drew.alloc o) row:=fun o row=>⟨⟨rfl,rfl,rfl,by simp,fun k hk _=>Below.heap_alloc w.drew _ k hk⟩,Nat.le_succ _⟩
 have hrest:∀ old,(Builtin.zeroCells z.cells (grownCap w (n+m) old e - (n+m))).size=(grownCap w (n+m) old e - (n+m))*i.size:=fun old=>by rw [size_zeroCells,hzs]
 rcases hown.2 with ⟨rfl,rfl⟩|⟨g,cap,cur,fz,rfl,hbg,hg,hfz,hnc,hcm,hcs,htake⟩
 ·have hx:xs=[]:=List.eq_nil_of_length_eq_zero (by simpa using hown.1)
  subst hx
  have hr:=run_append_nil (P:=P) w t ty e i z ht hi hz a m c news hl hnews (by omega) (by omega) (by have hb:=hbytes;simp only [Nat.zero_add] at hb;omega)
  have h9:=hnew (grownCap w (0+m) 0 e) _ (grownCap_ge w _ 0 e) (grownCap_le_maxLen w _ 0 e h63) (hrest 0)
  simp only [Nat.zero_add,List.nil_append,Array.empty_append] at h9 hr ⊢
  exact ⟨_,_,hr,h9,hgrow _ _,.inr rfl⟩
 ·by_cases hroom:n+m≤cap
  ·have hfit:n*i.size+news.length≤cur.size:=by rw [hl,hcs,← Nat.add_mul];exact Nat.mul_le_mul_right _ hroom
   have hr:=ov (P:=P) w t ty e i ht hi g n cap cur fz hg hfz a m c news hl hnews h1 hroom hfit
   refine ⟨_,_,hr,⟨hlen,.inr ⟨g,cap,_,fz,rfl,hbg,setRow_heap w g cur _ e _ hg,?_,hroom,hcm,?_,?_⟩⟩,⟨⟨rfl,rfl,rfl,by simp,fun k _ hk=>setRow_other w g k _ (fun e=>hk (by simp [Value.ownBlock,e]))⟩,Nat.le_refl _⟩,.inl rfl⟩
   ·refine hfz.imp id fun h9=>?_
    simp only [List.size_toArray,List.length_append,List.length_take,List.length_drop,Array.length_toList]
    omega
   ·simp only [List.size_toArray,List.length_append,List.length_take,List.length_drop,Array.length_toList]
    omega
   ·rw [htake,← hlen]
    exact List.take_left
  ·have hcells:∀ (j:Nat) u,xs[j]? = some u→w.cell? ((⟨g,0,none⟩:Addr).add j)=some u:=hown.cells (g:=g) rfl
   have hr:=run_append_grow (P:=P) w t ty e i z ht hi hz ⟨g,0,none⟩ n cap xs hown.1 hcells a m c news hl hnews (by omega) (by omega) (growslice_fits (by omega) hbytes)
   exact ⟨_,_,hr,hnew _ _ (grownCap_ge w _ cap e) (grownCap_le_maxLen w _ cap e h63) (hrest cap),hgrow _ _,.inr rfl⟩
section
variable {ro:Option Nat} {P:Program} {ops:Array Oper} {Q:Act→World→Prop} {l:List Oper} {a:Act} {w w0:World} {N:Nat} {L:List (Nat × Value)} {Df:List Deferred} {B:List Own} {d:Tmp} {ty:TypeId} {pos:String} {af:Array Edge} {x y:Operand} {t e:TypeId}
theorem jw {w:World} {base:Nat} {e:TypeId} {sz:Nat} {v:Value} {n:Nat} {xs:List Value} (h:cB w base e sz v n xs):∃ a c,v=.slice a n c:=by
 rcases h.2 with ⟨rfl,rfl⟩|⟨g,cap,cur,fz,rfl,_⟩
 ·exact ⟨none,0,rfl⟩
 ·exact ⟨_,cap,rfl⟩
theorem tp {w:World} {base:Nat} {e:TypeId} {sz:Nat} {v:Value} {n:Nat} {xs:List Value} (h:cB w base e sz v n xs) (hn:1≤n):∃ g c,v=.slice (some ⟨g,0,none⟩) n c:=by
 rcases h.2 with ⟨rfl,rfl⟩|⟨g,cap,cur,fz,rfl,_⟩
 ·omega
 ·exact ⟨g,cap,rfl⟩
theorem cq {v v2:Value} {sz by_ n m:Nat} {xs ys:List Value} (i j:Nat) (h:Sl N a L Df) (s:St w0 B w) (ht:P.underlying t=some (.slice e)) (E:Elm P e sz by_) (hx:eu L x=some v) (hy:eu L y=some v2)
 (hi:B[i]? = some (.sl v e sz n xs)) (hj:B[j]? = some (.sl v2 e sz m ys)) (hm:1≤m) (h1:∀ u∈ys,u.oneCell'=true) (h63:n+m≤maxLen) (hbytes:(n+m)*by_≤140737488355328) (hd:Nat.blt d N=true)
 (k:∀ a' w' v',Sl N a' ((d,v')::L) Df→St w0 (B.set i (.sl v' e sz (n+m) (xs++ys))) w'→bX P ops Q l a' w'):
 bX P ops Q (⟨some d,.call {callee:=.builtin .append,args:=#[x,y],argTypes:=#[t,t]},ty,pos,af,none⟩::l) a w:=by
 have hv:=s.getSl i hi
 have hv2:=s.getSl j hj
 obtain ⟨g2,c2,rfl⟩:=tp hv2 hm
 obtain ⟨v',w',hr,h2,h3,h4⟩:=mK (ty:=ty) ht E hv (a:=⟨g2,0,none⟩) (m:=m) (c:=c2) (news:=ys) hv2.1 (hv2.cells (g:=g2) rfl) h1 hm h63 hbytes s.ext.le
 refine dw (R:=fun u w''=>u=v'∧w''=w') h (by
  unfold db
  simp only [execOp,resolve,invoke,builtin,Sem.run_bind,Sem.run_pure,Result.andThen_ok,List.map_toArray,List.map_cons,List.map_nil,h.ev hx,h.ev hy,hr]
  first|exact ⟨rfl,rfl⟩|exact ⟨trivial,rfl⟩|exact ⟨trivial,trivial⟩|trivial) hd fun a' w'' u ⟨e1,e2⟩ hs=>?_
 subst e1;subst e2
 refine k _ _ _ hs (s.upd i hi h3.os h3.tape h3.output h3.size h2 (fun k hk=>?_) (fun k hk hne=>?_) h3.drawn)
 ·rcases h4 with h4|h4
  ·exact .inl (Own.at_sl.2 (by rw [← Own.at_sl.1 hk];exact h4.symm))
  ·right
   have:u.ownBlock=some k:=Own.at_sl.1 hk
   rw [h4] at this;cases this;exact Nat.le_refl _
 ·exact h3.block k hk fun e=>hne (Own.at_sl.2 e.symm)
end
theorem na (o:Nat):∀ (l:List Value) (k:Nat) (cells:Array Value),o+k+l.length≤cells.size→
 ((l.zipIdx k).foldl (fun cs p=>cs.setIfInBounds (o+p.2) p.1) cells).toList=cells.toList.take (o+k)++l++cells.toList.drop (o+k+l.length)
 |[],k,cells,_=>by simp
 |c::l,k,cells,h=>by
  simp only [List.length_cons] at h
  rw [List.zipIdx_cons,List.foldl_cons,na o l (k+1) _ (by simp;omega)]
  have hlt:o+k<cells.toList.length:=by simp;omega
  simp only [Array.toList_setIfInBounds,List.length_cons]
  have e1:List.take (o+k+1) (cells.toList.set (o+k) c)=List.take (o+k) cells.toList++[c]:=by
   rw [List.take_set,List.take_succ_eq_append_getElem hlt,List.set_append_right _ _ (by simp;omega)]
   have:o+k - (List.take (o+k) cells.toList).length=0:=by simp;omega
   rw [this];rfl
  rw [show o+(k+1)=o+k+1 from by omega,e1,List.drop_set_of_lt (by omega),show o+k+1+l.length=o+k+(l.length+1) from by omega]
  simp
theorem qp (sz:Nat):∀ (vs:List Value) (k:Nat) (cells:Array Value),(∀ v∈vs,v.cells.size=sz)→(k+vs.length)*sz≤cells.size→
 ∃ D:Array Value,Instr.fill (fun i=>some (i*sz,sz)) cells ((vs.zipIdx k).map fun p=>(p.2,p.1))=some D∧D.toList=cells.toList.take (k*sz)++vs.flatMap (·.cells.toList)++cells.toList.drop ((k+vs.length)*sz)
 |[],k,cells,_,_=>⟨cells,rfl,by simp⟩
 |v::vs,k,cells,hv,hs=>by
  have hv1:=hv v List.mem_cons_self
  have e9:(k+(v::vs).length)*sz=k*sz+sz+vs.length*sz:=by simp [Nat.add_mul];omega
  have hroom:k*sz+0+v.cells.toList.length≤cells.size:=by
   simp only [Array.length_toList,hv1];omega
  have hf:=na (k*sz) v.cells.toList 0 cells hroom
  generalize hD:(v.cells.toList.zipIdx).foldl (fun cs p=>cs.setIfInBounds (k*sz+p.2) p.1) cells=C1 at hf
  simp only [Nat.add_zero,Array.length_toList,hv1] at hf
  have hC1:C1.size=cells.size:=by
   have:=congrArg List.length hf
   simp only [Array.length_toList,List.length_append,List.length_take,List.length_drop,hv1] at this
   omega
  obtain ⟨D,h1,h2⟩:=qp sz vs (k+1) C1 (fun u hu=>hv u (List.mem_cons_of_mem _ hu)) (by rw [hC1];simp [Nat.add_mul] at e9 hs ⊢;omega)
  refine ⟨D,?_,?_⟩
  ·rw [List.zipIdx_cons,List.map_cons,Instr.fill]
   have hc:¬ ((v.cells.size≠sz || decide (k*sz+v.cells.size>cells.size))=true):=by
    rw [hv1];simp only [ne_eq,not_true_eq_false,decide_false,Bool.false_or,decide_eq_true_eq];simp at hroom;omega
   have hz:v.cells.zipIdx.foldl (fun cs (x:Value × Nat)=>match x with|(c,j)=>cs.setIfInBounds (k*sz+j) c) cells=C1:=by
    rw [← hD,← Array.foldl_toList,Array.toList_zipIdx]
   simp only
   rw [if_neg hc,hz]
   exact h1
  ·rw [h2,hf]
   have hl1:(cells.toList.take (k*sz)).length=k*sz:=by simp;omega
   have hl2:(cells.toList.take (k*sz)++v.cells.toList).length=(k+1)*sz:=by
    rw [List.length_append,hl1,Array.length_toList,hv1,Nat.add_mul];omega
   rw [List.take_append_of_le_length (Nat.le_of_eq hl2.symm),List.take_of_length_le (Nat.le_of_eq hl2)]
   rw [List.drop_append,hl2,List.drop_eq_nil_of_le (by rw [hl2];exact Nat.mul_le_mul_right _ (by omega)),List.nil_append,List.drop_drop]
   rw [List.flatMap_cons,List.append_assoc,List.append_assoc,List.append_assoc,List.append_assoc]
   congr 4
   have e5:(k+1+vs.length)*sz=(k+1)*sz+vs.length*sz:=Nat.add_mul ..
   have e6:(k+(v::vs).length)*sz=(k+1)*sz+vs.length*sz:=by rw [← Nat.add_mul];congr 1;simp;omega
   have e7:(k+1)*sz=k*sz+sz:=Nat.succ_mul ..
   omega
section
variable {ro:Option Nat} {P:Program} {ops:Array Oper} {Q:Act→World→Prop} {l:List Oper} {a:Act} {w w0:World} {N:Nat} {L:List (Nat × Value)} {Df:List Deferred} {B:List Own} {d:Tmp} {ty:TypeId} {pos:String} {af:Array Edge} {x y:Operand} {t t' e:TypeId}
theorem OT {as:List Operand} {vs:List Value} (h:Sl N a L Df) (hvs:as.map (eu L)=vs.map some):as.map a.eval=vs:=by
 induction as generalizing vs with
 |nil=>cases vs with
  |nil=>rfl
  |cons v vs=>simp at hvs
 |cons x as ih=>cases vs with
  |nil=>simp at hvs
  |cons v vs=>
   simp only [List.map_cons,List.cons.injEq] at hvs
   simp only [List.map_cons,h.ev hvs.1,ih hvs.2]
theorem wi {sz:Nat}:∀ (vs:List Value),(∀ v∈vs,v.cells.size=sz)→(vs.flatMap (·.cells.toList)).length=vs.length*sz
 |[],_=>by simp
 |v::vs,hv=>by rw [List.flatMap_cons,List.length_append,wi vs (fun u hu=>hv u (List.mem_cons_of_mem _ hu)),Array.length_toList,hv v List.mem_cons_self,List.length_cons,Nat.add_mul];omega
theorem bn {sz by_ len:Nat} {parts:Array (Nat × Operand)} (xs:List Operand) {vs:List Value} (h:Sl N a L Df) (s:St w0 B w) (ht:P.underlying t=some (.slice e)) (E:Elm P e sz by_)
 (hp:parts.toList=xs.zipIdx.map fun p=>(p.2,p.1)) (hxs:xs.map (eu L)=vs.map some) (hv:∀ v∈vs,v.cells.size=sz) (hl:vs.length=len) (hlen:Nat.ble (len*sz) 16777216=true) (hd:Nat.blt d N=true)
 (k:∀ a' w' v',Sl N a' ((d,v')::L) Df→St w0 (.sl v' e sz len (vs.flatMap (·.cells.toList))::B) w'→bX P ops Q l a' w'):
 bX P ops Q (⟨some d,.buildSlice t len parts,ty,pos,af,none⟩::l) a w:=by
 obtain ⟨i,z,hi,hz,hsz,_,hzs⟩:=E.info
 have hpos:=E.pos
 have hle:len*sz≤16777216:=by simpa using hlen
 obtain ⟨C,hf,hC⟩:∃ C:Array Value,Instr.fill (fun i=>some (i*sz,sz)) ((Array.range (len*sz)).map ((if len*sz=0 then #[] else z.cells)[· % (if len*sz=0 then (#[]:Array Value) else z.cells).size]!)) (parts.map fun (i,x)=>(i,a.eval x)).toList=some C∧C.toList=vs.flatMap (·.cells.toList):=by
  obtain ⟨C,h1,h2⟩:=qp sz vs 0 ((Array.range (len*sz)).map ((if len*sz=0 then #[] else z.cells)[· % (if len*sz=0 then (#[]:Array Value) else z.cells).size]!)) hv (by simp [hl])
  refine ⟨C,?_,?_⟩
  ·rw [← h1]
   congr 1
   rw [Array.toList_map,hp,List.map_map]
   have:=OT h hxs
   rw [← this]
   clear h1 h2 hp this
   generalize (0:Nat)=k
   clear hxs hl hv
   induction xs generalizing k with
   |nil=>rfl
   |cons x xs ih=>simp only [List.zipIdx_cons,List.map_cons,Function.comp];rw [ih]
  ·rw [h2];simp [hl]
 have hCs:C.size=len*sz:=by
  have:=congrArg List.length hC
  rw [Array.length_toList] at this
  rw [this,← hl]
  exact wi vs hv
 refine dw (R:=fun u w''=>u=.slice (some ⟨w.heap.size,0,none⟩) len len∧w''=w.alloc (.cells C e)) h ?_ hd fun a' w'' u ⟨e1,e2⟩ hs=>?_
 ·have hn:¬ len*sz>2 ^ 24:=by omega
  have hrun:(Instr.buildSlice t len (parts.map fun (i,x)=>(i,a.eval x))).run P w=.ok (.slice (some ⟨w.heap.size,0,none⟩) len len) (w.alloc (.cells C e)):=by
   unfold Instr.buildSlice
   by_cases h0:len*sz=0
   ·simp only [h0,if_true] at hf
    simp only [Sem.run_bind,run_underlying ht,Result.andThen_ok,sizeOf,typeInfo,run_program,hi,Sem.run_pure,hsz,h0,newRow]
    simp only [show ¬ (0:Nat)>2 ^ 24 by decide,if_false,if_true,Sem.run_bind,Sem.run_pure,Result.andThen_ok,hf,run_newObj]
    rfl
   ·simp only [h0,if_false] at hf
    simp only [Sem.run_bind,run_underlying ht,Result.andThen_ok,sizeOf,typeInfo,run_program,hi,Sem.run_pure,hsz,newRow]
    simp only [hn,h0,if_false,zeroValue,typeInfo,Sem.run_bind,run_program,hi,hz,Sem.run_pure,Result.andThen_ok,hf,run_newObj]
    rfl
  unfold db
  simp only [execOp,Sem.run_bind,hrun,Result.andThen_ok,Sem.run_pure]
  first|exact ⟨rfl,rfl⟩|exact ⟨trivial,rfl⟩|exact ⟨trivial,trivial⟩|trivial
 ·subst e1;subst e2
  have hl2:len≤maxLen:=by
   have:=Nat.le_mul_of_pos_right len hpos
   unfold maxLen;omega
  rw [← hC] at k
  exact k _ _ _ hs (s.plus ((Ext.refl w).alloc _) _ ⟨by simp [hCs],.inr ⟨w.heap.size,len,C,(0,0),rfl,s.ext.le,heap_alloc_new w _,.inl rfl,Nat.le_refl _,hl2,hCs,by rw [← hCs];exact List.take_of_length_le (by simp)⟩⟩ fun k hk=>by rw [Own.at_sl] at hk;simp [Value.ownBlock] at hk;omega)
theorem BJ {v:Value} {n:Nat} {ns:List Nat} (i:Nat) (h:Sl N a L Df) (s:St w0 B w) (hs:P.underlying t=some (.slice e)) (he:P.underlying e=some (.int .u8)) (hd:P.underlying t'=some .string)
 (hx:eu L x=some v) (hi:B[i]? = some (.sl v e 1 n (ns.map fun (m:Nat)=>.int .u8 (m:Int)))) (hdn:Nat.blt d N=true)
 (k:∀ a',Sl N a' ((d,.string ⟨(ns.map UInt8.ofNat).toArray⟩)::L) Df→bX P ops Q l a' w):bX P ops Q (⟨some d,.convert t t' x,ty,pos,af,none⟩::l) a w:=by
 have hown:=s.getSl i hi
 have hrun:(convert t t' v).run P w=.ok (.string ⟨(ns.map UInt8.ofNat).toArray⟩) w:=by
  have hn:ns.length=n:=by have:=hown.1;simpa using this
  rcases hown.2 with ⟨rfl,hn0⟩|⟨g,cap,cur,fz,rfl,_⟩
  ·obtain rfl:ns=[]:=List.eq_nil_of_length_eq_zero (by omega)
   rw [run_convert_bytes_string w t t' e _ _ _ hs he hd]
   rfl
  ·rw [run_convert_bytes_string w t t' e _ _ _ hs he hd,run_bytesToString w ⟨g,0,none⟩ n cap (ns.map fun (m:Nat)=>(m:Int)),List.foldl_map]
   ·congr 2
    have:ns.foldl (fun r (m:Nat)=>r.push (UInt8.ofNat ((m:Int)).toNat)) ByteArray.empty=(ns.map UInt8.ofNat).foldl (fun r c=>r.push c) ByteArray.empty:=by
     rw [List.foldl_map];simp
    rw [this,mM]
    simp [ByteArray.empty,ByteArray.emptyWithCapacity]
    rfl
   ·have:=run_loadCells_list (P:=P) w ⟨g,0,none⟩ (ns.map fun (m:Nat)=>Value.int .u8 (m:Int)) (hown.cells (g:=g) rfl)
    rw [List.length_map,hn] at this
    rw [List.map_map];exact this
 exact dw (R:=fun u w'=>u=.string ⟨(ns.map UInt8.ofNat).toArray⟩∧w'=w) h (by
  unfold db
  simp only [execOp,h.ev hx,Sem.run_bind,hrun,Result.andThen_ok,Sem.run_pure]
  first|exact ⟨rfl,rfl⟩|exact ⟨trivial,rfl⟩|exact ⟨trivial,trivial⟩|trivial) hdn fun a' w' u ⟨h1,h2⟩ hs=>by subst h1;subst h2;exact k a' hs
end
section
variable {P:Program} {ρ:Operand→Value} {d:Option Tmp} {ty:TypeId} {pos:String} {af:Array Edge} {g:Option (Nat × Bool)} {x y:Operand} {t t' e:TypeId} {k k':IntKind} {m n:Int}
theorem sy (a b:ByteArray):(a.toList == b.toList)=decide (a=b):=by
 rw [← beq_toListBytes]
 have e:(a == b)=(a.data == b.data):=rfl
 rw [e]
 by_cases h:a=b
 ·subst h;simp
 ·have:a.data≠b.data:=fun h2=>h (by cases a;cases b;simp at h2;rw [h2])
  simp [h,this]
theorem cS {a b:ByteArray} (hx:ρ x=.string a) (hy:ρ y=.string b):aM P ⟨d,.binOp .eql t x y t',ty,pos,af,g⟩ ρ (.bool (decide (a=b))):=fun w=>by
 simp [execOp,hx,hy,Sem.run_bind,eqGuard,binOp,Op.stringOp,sy]
theorem i3 {a b:ByteArray} (hx:ρ x=.string a) (hy:ρ y=.string b):aM P ⟨d,.binOp .neq t x y t',ty,pos,af,g⟩ ρ (.bool (decide (a≠b))):=fun w=>by
 simp [execOp,hx,hy,Sem.run_bind,eqGuard,binOp,Op.stringOp,sy]
theorem lU {tys:Array TypeId} (hx:ρ x=.int k m) (hy:ρ y=.int k n):aM P ⟨d,.call {callee:=.builtin .min,args:=#[x,y],argTypes:=tys},ty,pos,af,g⟩ ρ (.int k (if n<m then n else m)):=fun w=>by
 simp [execOp,resolve,hx,hy,invoke,builtin,Builtin.min_,Builtin.min2,Sem.run_bind]
theorem kJ {s:ByteArray} (j:Nat) (ht:P.underlying t=some .string) (hx:ρ x=.string s) (hy:ρ y=.int k m) (hj:m=(j:Int)) (hl:j≤s.size):aM P ⟨d,.slice t x none (some y) none,ty,pos,af,g⟩ ρ (.string (s.extract 0 j)):=fun w=>by
 subst hj
 have h2:(0:Int)≤(j:Int)∧(j:Int)≤(s.size:Int):=by omega
 simp [execOp,hx,hy,Instr.sliceAt,Sem.run_bind,run_underlying ht,Instr.slice,Instr.sliceBounds,Instr.sliceBound,asIntOf,h2,hl]
structure Ext1 (P:Program) (f:FuncId) (e:Array Value→Sem Value):Prop where
 has:∃ fn,P.funcs[f]? = some fn∧(fn.name == "runtime.NumGoroutine")=false∧fn.body.isNone=true∧Extern.findNext fn=none∧Extern.find fn=some e
end
def sb (s:ByteArray) (j:Nat):Nat:=(s.data.toList.getD j 0).toNat
theorem Ij (s:ByteArray) (j:Nat):sb s j<256:=UInt8.toNat_lt _
theorem II (s:ByteArray) (j:Nat) (h:j<s.size):∃ v:UInt8,s[j]? = some v∧v.toNat=sb s j:=by
 refine ⟨s.data[j],?_,?_⟩
 ·show (if h:j<s.size then some s[j] else none)=_
  rw [dif_pos h];rfl
 ·unfold sb
  have:j<s.data.toList.length:=h
  rw [List.getD_eq_getElem?_getD,List.getElem?_eq_getElem this];rfl
theorem vd {P:Program} {ρ:Operand→Value} {d:Option Tmp} {ty:TypeId} {pos:String} {af:Array Edge} {g:Option (Nat × Bool)} {x y:Operand} {t:TypeId} {k:IntKind} {m:Int} {s:ByteArray}
 (ht:P.underlying t=some .string) (j:Nat) (hx:ρ x=.string s) (hy:ρ y=.int k m) (hj:m=(j:Int)) (hl:j<s.size):aM P ⟨d,.index t x y,ty,pos,af,g⟩ ρ (.int .u8 (sb s j:Int)):=by
 obtain ⟨v,h1,h2⟩:=II s j hl
 exact h2▸nx ht j hx hy hj h1
def hv (c:Nat):Nat:=if 48≤c∧c<58 then c - 48 else if 97≤c∧c<103 then c - 87 else 16
end Go.Proofs.YtobfeflheaobiaaGreatDoor
