/- Messages: which may be, their parts and bytes; no Go in it. -/
import Derived.Test.YthmlflaiidhoiaaGreatDoorSp
set_option linter.unusedVariables false
set_option linter.unusedSimpArgs false
set_option linter.unusedSectionVars false
namespace Go.Proofs.YthmlflaiidhoiaaGreatDoor
structure Mg where
 k:Int
 i:Id
 t:eA
 l:List eA
 n:Int
 o:ByteArray
 d:ByteArray
theorem I1 {a b:Mg} (hk:a.k=b.k) (hi:a.i=b.i) (ht:a.t=b.t) (hl:a.l=b.l) (hn:a.n=b.n) (ho:a.o=b.o) (hd:a.d=b.d):a=b:=by
 cases a;cases b;simp_all
def UY (a b:Mg):Bool:=decide (a.k=b.k) && decide (a.i=b.i) && decide (a.t=b.t) && decide (a.l=b.l) && decide (a.n=b.n) && decide (a.o=b.o) && decide (a.d=b.d)
theorem JP (a b:Mg):UY a b=true↔a=b:=by
 unfold UY
 simp only [aq5,ar0]
 constructor
 ·rintro ⟨⟨⟨⟨⟨⟨h1,h2⟩,h3⟩,h4⟩,h5⟩,h6⟩,h7⟩;exact I1 h1 h2 h3 h4 h5 h6 h7
 ·rintro rfl;simp
def mZ:Mg:=⟨0,0#256,(0,0#256,0),[],0,⟨#[]⟩,⟨#[]⟩⟩
def Kk (m:Mg) (v:Value):Array Value:=(Value.int .i64 m.k::((aJ m.i).toList++((eR m.t).toList++[v,.int .i64 m.n,.string m.o,.string m.d]))).toArray
theorem QR (a:Id):(aJ a).toList.length=32:=by rw [ar2,az]
theorem ac0 (e:eA):(eR e).toList.length=34:=by rw [ar2,eU]
@[simp] theorem Fk (m:Mg) (v:Value):(Kk m v).size=71:=by
  simp only [Kk,List.size_toArray,at5,aq7,QR,ac0,at6]
def G5 (k:Int):Bool:=decide (1<=k) && decide (k<=10)
def lC (k:Int):Bool:=decide (2<=k) && decide (k<=10)
def jw (k:Int):Bool:=decide (2<=k) && decide (k<=6)
def ju (k:Int):Bool:=decide (k=1)
def jc (k:Int):Bool:=decide (k=1) || decide (k=2) || decide (k=4) || (decide (8<=k) && decide (k<=10))
def kW (k:Int):Bool:=decide (k=3) || decide (k=4) || decide (k=6)
def mw (k:Int):Bool:=decide (k=1)
def c1 (m:Mg):Bool:=bif lC m.k then true else decide (m.i=0#256)
def c2 (m:Mg):Bool:=bif jw m.k then kR m.t else decide (m.t=(0,0#256,0))
def c3 (m:Mg):Bool:=bif ju m.k then dw m.l else decide (m.l.length=0)
def c4 (m:Mg):Bool:=bif jc m.k then (decide (0<=m.n) && decide (m.n<=1099511627776)) else decide (m.n=0)
def c5 (m:Mg):Bool:=bif kW m.k then decide (m.o.size=16) else decide (m.o=⟨#[]⟩)
def c6 (m:Mg):Bool:=bif mw m.k then decide (m.d.size<=64) else decide (m.d=⟨#[]⟩)
def cn (m:Mg):Bool:=G5 m.k && c1 m && c2 m && c3 m && c4 m && c5 m && c6 m
def yj (n:Int):List Nat:=(List.range 8).map λi=>n.toNat / 256 ^ i % 256
theorem f8 (n:Int):(yj n).length=8:=by simp [yj]
theorem C2 (n:Int):∀ x∈yj n,x<256:=λx hx=>by
 obtain ⟨i,_,rfl⟩:=au9.1 hx;exact ax6 _ (by omega)
def uF (r:ByteArray):Nat->Nat
 |0=>0
 |k+1=>uF r k+sb r k*256 ^ k
def BR (r:ByteArray):Nat:=uF r 8
theorem EA (r:ByteArray):∀ k,uF r k<256 ^ k
 |0=>by simp [uF]
 |k+1=>by
  have ih:=EA r k
  have hb:=oQ r k
  have h1:sb r k*256 ^ k<=255*256 ^ k:=Nat.mul_le_mul_right _ (by omega)
  rw [uF,Nat.pow_succ]
  omega
theorem AL (r:ByteArray) (n:Nat):∀ k,(∀ i,i<k->sb r i=n / 256 ^ i % 256)->uF r k=n % 256 ^ k
 |0,_=>by simp [uF,Nat.mod_one]
 |k+1,h=>by
  rw [uF,AL r n k (λi hi=>h i (by omega)),h k (by omega),Nat.mod_pow_succ,Nat.mul_comm]
def og (k:Int) (i:Id):List Nat:=bif lC k then A6 i else []
def pg (k:Int) (t:eA):List Nat:=bif jw k then 1::dz t else []
def mX (k:Int) (l:List eA):List Nat:=bif ju k then mU l else []
def mv (k:Int) (n:Int):List Nat:=bif jc k then yj n else []
def Rp (m:Mg):List Nat:=[m.k.toNat]++og m.k m.i++pg m.k m.t++mX m.k m.l++mv m.k m.n
def eH (m:Mg):ByteArray:=ca (Rp m)++m.o++m.d
def Yd (k:Int) (r:ByteArray):Bool := !lC k || decide (32<=r.size)
def vI (k:Int) (r:ByteArray):Id:=bif lC k then nk (sb r) else 0#256
def rI (k:Int) (r:ByteArray):ByteArray:=bif lC k then ig r 32 else r
def Y7 (k:Int) (r:ByteArray):Bool := !jw k || (decide ((gy r).1=0) && decide ((gy r).2.1.length=1))
def vT (k:Int) (r:ByteArray):eA:=bif jw k then (gy r).2.1.getD 0 (0,0#256,0) else (0,0#256,0)
def rT (k:Int) (r:ByteArray):ByteArray:=bif jw k then ig r (gy r).2.2 else r
def W4 (k:Int) (r:ByteArray):Bool := !ju k || decide ((gy r).1=0)
def vS (k:Int) (r:ByteArray):List eA:=bif ju k then (gy r).2.1 else []
def rS (k:Int) (r:ByteArray):ByteArray:=bif ju k then ig r (gy r).2.2 else r
def Yj (k:Int) (r:ByteArray):Bool := !jc k || (decide (8<=r.size) && decide (BR r<=1099511627776))
def vN (k:Int) (r:ByteArray):Int:=bif jc k then (BR r:Int) else 0
def rN (k:Int) (r:ByteArray):ByteArray:=bif jc k then ig r 8 else r
def HS (k:Int) (r:ByteArray):Bool := !kW k || decide (16<=r.size)
def vO (k:Int) (r:ByteArray):ByteArray:=bif kW k then r.extract 0 16 else ⟨#[]⟩
def rO (k:Int) (r:ByteArray):ByteArray:=bif kW k then ig r 16 else r
def X5 (k:Int) (r:ByteArray):Bool := !mw k || decide (r.size<=64)
def vD (k:Int) (r:ByteArray):ByteArray:=bif mw k then r else ⟨#[]⟩
def YD (k:Int) (r:ByteArray):ByteArray:=bif mw k then ⟨#[]⟩ else r
def kS (s:ByteArray):Int:=((sb s 0:Nat):Int)
def q0 (s:ByteArray):ByteArray:=ig s 1
def q1 (s:ByteArray):ByteArray:=rI (kS s) (q0 s)
def q2 (s:ByteArray):ByteArray:=rT (kS s) (q1 s)
def q3 (s:ByteArray):ByteArray:=rS (kS s) (q2 s)
def q4 (s:ByteArray):ByteArray:=rN (kS s) (q3 s)
def q5 (s:ByteArray):ByteArray:=rO (kS s) (q4 s)
def q6 (s:ByteArray):ByteArray:=YD (kS s) (q5 s)
def Mk (s:ByteArray):Bool:=decide (1<=s.size) && G5 (kS s) && Yd (kS s) (q0 s) && Y7 (kS s) (q1 s) && W4 (kS s) (q2 s) && Yj (kS s) (q3 s) && HS (kS s) (q4 s) && X5 (kS s) (q5 s) && decide (q6 s=⟨#[]⟩)
def mP (s:ByteArray):Mg:=⟨kS s,vI (kS s) (q0 s),vT (kS s) (q1 s),vS (kS s) (q2 s),vN (kS s) (q3 s),vO (kS s) (q4 s),vD (kS s) (q5 s)⟩
def Ag (s:ByteArray):Mg:=bif Mk s then mP s else mZ
def Bu (s:ByteArray):Int:=bif Mk s then 0 else 5
theorem gR (u:ByteArray):(⟨#[]⟩:ByteArray)++u=u:=ByteArray.empty_append
theorem lB (ns:List Nat) (u:ByteArray) (n:Nat) (h:ns.length=n):ig (ca ns++u) n=u:=by
 rw [← h,← cF ns];exact wu _ _
theorem CJ (ns:List Nat) (u:ByteArray) (i:Nat) (hi:i<ns.length) (hb:∀ n∈ns,n<256):sb (ca ns++u) i=ns[i]:=by
 rw [dW _ _ _ (by rw [cF];exact hi),gN _ _ hi hb]
theorem Lr (a:Id):∀ n∈A6 a,n<256:=λn hn=>by
 obtain ⟨i,_,rfl⟩:=au9.1 hn;exact f4 _ _
theorem jL (r:ByteArray) (n:Nat) (h:n<=r.size):r=r.extract 0 n++ig r n:=by
 unfold ig;rw [← Cx r 0 n r.size (by omega) h (as1 _),SE]
theorem OO (k:Int) (i:Id) (u:ByteArray):Yd k (ca (og k i)++u)=true:=by
 unfold Yd og
 cases lC k
 ·rfl
 ·simp only [cond_true,Bool.not_true,Bool.false_or,ar0]
  rw [aw2,cF,ex];omega
theorem Ut (k:Int) (i:Id) (u:ByteArray) (h:(bif lC k then true else decide (i=0#256))=true):vI k (ca (og k i)++u)=i:=by
 unfold vI og
 cases hk:lC k
 ·rw [hk] at h;exact(ap9 h).symm
 ·show nk _=i
  refine rP λj hj=>?_
  rw [gb _ (λi=>oQ _ _) j hj]
  show sb (ca (A6 i)++u) j=_
  rw [CJ _ _ _ (by rw [ex];exact hj) (Lr i)]
  simp [A6]
theorem Tl (k:Int) (i:Id) (u:ByteArray):rI k (ca (og k i)++u)=u:=by
 unfold rI og
 cases lC k
 ·exact gR u
 ·exact lB _ _ _ (ex i)
theorem Xu (k:Int) (r:ByteArray) (h:Yd k r=true):r=ca (og k (vI k r))++rI k r/\(bif lC k then true else decide (vI k r=0#256))=true:=by
 unfold Yd at h;unfold og rI vI
 cases hk:lC k
 ·exact ⟨(gR r).symm,by simp⟩
 ·rw [hk] at h
  have h32:32<=r.size:=by simpa using h
  refine ⟨?_,rfl⟩
  show r=ca (A6 (nk (sb r)))++ig r 32
  have e:ca (A6 (nk (sb r)))=r.extract 0 32:=by
   refine jb (by rw [cF,ex,db _ _ _ h32]) λi hi=>?_
   rw [cF,ex] at hi
   rw [gN _ _ (by rw [ex];exact hi) (Lr _),jn _ _ _ _ h32 (by omega),Nat.zero_add]
   simp [A6,gb _ (λi=>oQ r i) i hi]
  rw [e];exact jL r 32 h32
theorem BO (t:eA) (h:kR t=true) (u:ByteArray):gy (ca (1::dz t)++u)=(0,[t],(1::dz t).length):=by
 have hr:dw [t]=true:=(eQ _).2 ⟨by simp,by simp,by simpa using h⟩
 have e:ca (1::dz t)=iq [t]:=by simp [iq,mU]
 rw [e,vG [t] hr u,← e,cF]
theorem Qd (k:Int) (t:eA) (u:ByteArray) (h:(bif jw k then kR t else decide (t=(0,0#256,0)))=true):Y7 k (ca (pg k t)++u)=true:=by
 unfold Y7 pg
 cases hk:jw k
 ·rfl
 ·rw [hk] at h
  show (_:Bool)=true
  simp only [cond_true,BO t h u];rfl
theorem VF (k:Int) (t:eA) (u:ByteArray) (h:(bif jw k then kR t else decide (t=(0,0#256,0)))=true):vT k (ca (pg k t)++u)=t:=by
 unfold vT pg
 cases hk:jw k
 ·rw [hk] at h;exact(ap9 h).symm
 ·rw [hk] at h
  simp only [cond_true,BO t h u];rfl
theorem So (k:Int) (t:eA) (u:ByteArray) (h:(bif jw k then kR t else decide (t=(0,0#256,0)))=true):rT k (ca (pg k t)++u)=u:=by
 unfold rT pg
 cases hk:jw k
 ·exact gR u
 ·rw [hk] at h
  simp only [cond_true,BO t h u];exact lB _ _ _ rfl
theorem Zq (k:Int) (r:ByteArray) (h:Y7 k r=true):r=ca (pg k (vT k r))++rT k r/\(bif jw k then kR (vT k r) else decide (vT k r=(0,0#256,0)))=true:=by
 unfold Y7 at h;unfold pg rT vT
 cases hk:jw k
 ·exact ⟨(gR r).symm,by simp⟩
 ·rw [hk] at h
  simp only [Bool.not_true,Bool.false_or,aq5,ar0] at h
  obtain ⟨h1,h2⟩:=h
  obtain ⟨hr,hle,ht⟩:=vA r h1
  obtain ⟨e,he⟩:=List.length_eq_one_iff.1 h2
  rw [he] at hr ht
  have hE:kR e=true:=by have:=((eQ _).1 hr).2.2 e (by simp);exact this
  simp only [cond_true,he,List.getD_cons_zero]
  refine ⟨?_,hE⟩
  have e9:ca (1::dz e)=iq [e]:=by simp [iq,mU]
  rw [e9,ht];exact jL r _ hle
theorem B3 (l:List eA) (h:dw l=true) (u:ByteArray):gy (ca (mU l)++u)=(0,l,(mU l).length):=by
 have:=vG l h u
 unfold iq at this
 rw [this,cF]
theorem PI (k:Int) (l:List eA) (u:ByteArray) (h:(bif ju k then dw l else decide (l.length=0))=true):W4 k (ca (mX k l)++u)=true:=by
 unfold W4 mX
 cases hk:ju k
 ·rfl
 ·rw [hk] at h
  simp only [cond_true,B3 l h u];rfl
theorem TG (k:Int) (l:List eA) (u:ByteArray) (h:(bif ju k then dw l else decide (l.length=0))=true):vS k (ca (mX k l)++u)=l:=by
 unfold vS mX
 cases hk:ju k
 ·rw [hk] at h;exact(List.length_eq_zero_iff.1 (ap9 h)).symm
 ·rw [hk] at h
  simp only [cond_true,B3 l h u]
theorem To (k:Int) (l:List eA) (u:ByteArray) (h:(bif ju k then dw l else decide (l.length=0))=true):rS k (ca (mX k l)++u)=u:=by
 unfold rS mX
 cases hk:ju k
 ·exact gR u
 ·rw [hk] at h
  simp only [cond_true,B3 l h u];exact lB _ _ _ rfl
theorem YF (k:Int) (r:ByteArray) (h:W4 k r=true):r=ca (mX k (vS k r))++rS k r/\(bif ju k then dw (vS k r) else decide ((vS k r).length=0))=true:=by
 unfold W4 at h;unfold mX rS vS
 cases hk:ju k
 ·exact ⟨(gR r).symm,by simp⟩
 ·rw [hk] at h
  simp only [Bool.not_true,Bool.false_or,ar0] at h
  obtain ⟨hr,hle,ht⟩:=vA r h
  simp only [cond_true]
  refine ⟨?_,hr⟩
  show r=iq (gy r).2.1++_
  rw [ht];exact jL r _ hle
theorem vm (n:Int) (h0:0<=n) (h:n<=1099511627776) (u:ByteArray):((BR (ca (yj n)++u):Nat):Int)=n:=by
 have hk:=AL (ca (yj n)++u) n.toNat 8 (λi hi=>by
  rw [CJ _ _ _ (by rw [f8];exact hi) (C2 n)];simp [yj])
 unfold BR
 rw [hk]
 omega
theorem O8 (k n:Int) (u:ByteArray) (h:(bif jc k then (decide (0<=n) && decide (n<=1099511627776)) else decide (n=0))=true):Yj k (ca (mv k n)++u)=true:=by
 unfold Yj mv
 cases hk:jc k
 ·rfl
 ·rw [hk] at h
  simp only [cond_true,aq5,ar0] at h
  have:=vm n h.1 h.2 u
  simp only [cond_true,Bool.not_true,Bool.false_or,aq5,ar0]
  exact ⟨by rw [aw2,cF,f8];omega,by omega⟩
theorem U0 (k n:Int) (u:ByteArray) (h:(bif jc k then (decide (0<=n) && decide (n<=1099511627776)) else decide (n=0))=true):vN k (ca (mv k n)++u)=n:=by
 unfold vN mv
 cases hk:jc k
 ·rw [hk] at h;exact(ap9 h).symm
 ·rw [hk] at h
  simp only [cond_true,aq5,ar0] at h
  exact vm n h.1 h.2 u
theorem TH (k n:Int) (u:ByteArray):rN k (ca (mv k n)++u)=u:=by
 unfold rN mv
 cases jc k
 ·exact gR u
 ·exact lB _ _ _ (f8 n)
theorem r7 (r:ByteArray):∀ k i,i<k->uF r k / 256 ^ i % 256=sb r i
 |0,_,h=>by omega
 |k+1,i,h=>by
  have hb:=oQ r k
  rw [uF]
  have hp:∀ x,0<256 ^ x:=λx=>Nat.pow_pos (by omega)
  by_cases e:i=k
  ·subst e
   rw [Nat.add_mul_div_right _ _ (hp _),Nat.div_eq_of_lt (EA r i),Nat.zero_add,Nat.mod_eq_of_lt hb]
  ·have hik:i<k:=by omega
   have e1:sb r k*256 ^ k=(sb r k*256 ^ (k - i - 1)*256)*256 ^ i:=by
    have e2:256 ^ k=256 ^ (k - i - 1)*256*256 ^ i:=by
     rw [← Nat.pow_succ,← Nat.pow_add];congr 1;omega
    rw [e2];simp only [Nat.mul_assoc]
   rw [e1,Nat.add_mul_div_right _ _ (hp _),Nat.add_mul_mod_self_right]
   exact r7 r k i hik
theorem B4 (r:ByteArray) (i:Nat) (hi:i<8):BR r / 256 ^ i % 256=sb r i:=by unfold BR;exact r7 r 8 i hi
theorem Oi (r:ByteArray) (h8:8<=r.size):ca (yj ((BR r:Nat):Int))=r.extract 0 8:=by
 refine jb (by rw [cF,f8,db _ _ _ h8]) λi hi=>?_
 rw [cF,f8] at hi
 rw [gN _ _ (by rw [f8];exact hi) (C2 _),jn _ _ _ _ h8 (by omega),Nat.zero_add]
 simp [yj,B4 r i hi]
theorem nB (x:Nat) (hn:x<=1099511627776):(decide (0<=((x:Nat):Int)) && decide (((x:Nat):Int)<=1099511627776))=true:=by
 rw [aq5];exact ⟨aq2 (by omega),aq2 (by omega)⟩
theorem WG (k:Int) (r:ByteArray) (h:Yj k r=true):r=ca (mv k (vN k r))++rN k r/\(bif jc k then (decide (0<=vN k r) && decide (vN k r<=1099511627776)) else decide (vN k r=0))=true:=by
 unfold Yj at h;unfold mv rN vN
 cases hk:jc k
 ·exact ⟨(gR r).symm,by simp⟩
 ·rw [hk,Bool.not_true,Bool.false_or,aq5] at h
  have h8:=ap9 h.1
  have hn:=ap9 h.2
  rw [cond_true,cond_true,cond_true,cond_true]
  refine ⟨?_,nB _ hn⟩
  rw [Oi r h8];exact jL r 8 h8
theorem xS (k:Int) (o u:ByteArray) (h:(bif kW k then decide (o.size=16) else decide (o=⟨#[]⟩))=true):HS k (o++u)=true/\vO k (o++u)=o/\rO k (o++u)=u:=by
 unfold HS vO rO
 cases hk:kW k
 ·rw [hk] at h
  have:=ap9 h
  subst this
  exact ⟨rfl,rfl,gR u⟩
 ·rw [hk] at h
  have h16:o.size=16:=ap9 h
  refine ⟨by simp [aw2,h16],?_,?_⟩
  ·show (o++u).extract 0 16=o
   refine jb (by rw [db _ _ _ (by rw [aw2];omega),h16]) λi hi=>?_
   rw [db _ _ _ (by rw [aw2];omega)] at hi
   rw [jn _ _ _ _ (by rw [aw2];omega) (by omega),Nat.zero_add,dW _ _ _ (by omega)]
  ·show ig (o++u) 16=u
   rw [← h16];exact wu o u
theorem Yg (k:Int) (r:ByteArray) (h:HS k r=true):r=vO k r++rO k r/\(bif kW k then decide ((vO k r).size=16) else decide (vO k r=⟨#[]⟩))=true:=by
 unfold HS at h;unfold vO rO
 cases hk:kW k
 ·exact ⟨(gR r).symm,by simp⟩
 ·rw [hk] at h
  have h16:16<=r.size:=by simpa using h
  exact ⟨jL r 16 h16,by simp [db _ _ _ h16]⟩
theorem xA (k:Int) (d:ByteArray) (h:(bif mw k then decide (d.size<=64) else decide (d=⟨#[]⟩))=true):X5 k d=true/\vD k d=d/\YD k d=⟨#[]⟩:=by
 unfold X5 vD YD
 cases hk:mw k
 ·rw [hk] at h
  have:=ap9 h
  subst this
  exact ⟨rfl,rfl,rfl⟩
 ·rw [hk] at h
  exact ⟨by simpa using h,rfl,rfl⟩
theorem Xv (k:Int) (r:ByteArray) (h:X5 k r=true) (he:YD k r=⟨#[]⟩):r=vD k r/\(bif mw k then decide ((vD k r).size<=64) else decide (vD k r=⟨#[]⟩))=true:=by
 unfold X5 at h;unfold vD;unfold YD at he
 cases hk:mw k
 ·rw [hk] at he
  exact ⟨he,by simp⟩
 ·rw [hk] at h
  exact ⟨rfl,by simpa using h⟩
theorem gZ {m:Mg} (h:cn m=true):G5 m.k=true/\c1 m=true/\c2 m=true/\c3 m=true/\c4 m=true/\c5 m=true/\c6 m=true:=by
 unfold cn at h
 simp only [aq5] at h
 obtain ⟨⟨⟨⟨⟨⟨h0,h1⟩,h2⟩,h3⟩,h4⟩,h5⟩,h6⟩:=h
 exact ⟨h0,h1,h2,h3,h4,h5,h6⟩
theorem Nc (k:Int):G5 k=true↔1<=k/\k<=10:=by simp [G5]
theorem sk (m:Mg):eH m=ca [m.k.toNat]++(ca (og m.k m.i)++(ca (pg m.k m.t)++(ca (mX m.k m.l)++(ca (mv m.k m.n)++(m.o++m.d))))):=by
 unfold eH Rp
 simp only [lx,ByteArray.append_assoc]
theorem uc {m:Mg} (h:cn m=true):Mk (eH m)=true/\mP (eH m)=m:=by
 obtain ⟨h0,h1,h2,h3,h4,h5,h6⟩:=gZ h
 have hk:=(Nc _).1 h0
 have e:=sk m
 have hkS:kS (eH m)=m.k:=by
  unfold kS;rw [e,CJ _ _ _ (by simp) (by intro n hn;rw [ar4] at hn;subst hn;omega)]
  simp;omega
 have e0:q0 (eH m)=ca (og m.k m.i)++(ca (pg m.k m.t)++(ca (mX m.k m.l)++(ca (mv m.k m.n)++(m.o++m.d)))):=by
  unfold q0;rw [e];exact lB _ _ _ rfl
 have e1:q1 (eH m)=ca (pg m.k m.t)++(ca (mX m.k m.l)++(ca (mv m.k m.n)++(m.o++m.d))):=by
  unfold q1;rw [hkS,e0];exact Tl _ _ _
 have e2:q2 (eH m)=ca (mX m.k m.l)++(ca (mv m.k m.n)++(m.o++m.d)):=by
  unfold q2;rw [hkS,e1];exact So _ _ _ h2
 have e3:q3 (eH m)=ca (mv m.k m.n)++(m.o++m.d):=by
  unfold q3;rw [hkS,e2];exact To _ _ _ h3
 have e4:q4 (eH m)=m.o++m.d:=by
  unfold q4;rw [hkS,e3];exact TH _ _ _
 have e5:q5 (eH m)=m.d:=by
  unfold q5;rw [hkS,e4];exact(xS _ _ _ h5).2.2
 have e6:q6 (eH m)=⟨#[]⟩:=by
  unfold q6;rw [hkS,e5];exact(xA _ _ h6).2.2
 have hs:1<=(eH m).size:=by rw [e,aw2,cF];simp
 constructor
 ·unfold Mk
  rw [hkS,e0,e1,e2,e3,e4,e5,e6,h0,OO,Qd _ _ _ h2,PI _ _ _ h3,O8 _ _ _ h4,(xS _ _ _ h5).1,(xA _ _ h6).1]
  simp [hs]
 ·unfold mP
  rw [hkS,e0,e1,e2,e3,e4,e5]
  exact I1 rfl (Ut _ _ _ h1) (VF _ _ _ h2) (TG _ _ _ h3) (U0 _ _ _ h4) (xS _ _ _ h5).2.1 (xA _ _ h6).2.1
theorem Bl {s:ByteArray} (h:Mk s=true):cn (mP s)=true/\eH (mP s)=s:=by
 unfold Mk at h
 simp only [aq5,ar0] at h
 obtain ⟨⟨⟨⟨⟨⟨⟨⟨hs,h0⟩,h1⟩,h2⟩,h3⟩,h4⟩,h5⟩,h6⟩,he⟩:=h
 obtain ⟨b1,d1⟩:=Xu _ _ h1
 obtain ⟨b2,d2⟩:=Zq _ _ h2
 obtain ⟨b3,d3⟩:=YF _ _ h3
 obtain ⟨b4,d4⟩:=WG _ _ h4
 obtain ⟨b5,d5⟩:=Yg _ _ h5
 obtain ⟨b6,d6⟩:=Xv _ _ h6 he
 constructor
 ·unfold cn
  have e0:G5 (mP s).k=true:=h0
  have e1:c1 (mP s)=true:=d1
  have e2:c2 (mP s)=true:=d2
  have e3:c3 (mP s)=true:=d3
  have e4:c4 (mP s)=true:=d4
  have e5:c5 (mP s)=true:=d5
  have e6:c6 (mP s)=true:=d6
  rw [e0,e1,e2,e3,e4,e5,e6];rfl
 ·rw [sk]
  show ca [(kS s).toNat]++(ca (og (kS s) (vI (kS s) (q0 s)))++(ca (pg (kS s) (vT (kS s) (q1 s)))++(ca (mX (kS s) (vS (kS s) (q2 s)))++(ca (mv (kS s) (vN (kS s) (q3 s)))++(vO (kS s) (q4 s)++vD (kS s) (q5 s))))))=s
  rw [← b6]
  show _++(_++(_++(_++(_++(vO (kS s) (q4 s)++rO (kS s) (q4 s))))))=s
  rw [← b5]
  show _++(_++(_++(_++(ca (mv (kS s) (vN (kS s) (q3 s)))++rN (kS s) (q3 s)))))=s
  rw [← b4]
  show _++(_++(_++(ca (mX (kS s) (vS (kS s) (q2 s)))++rS (kS s) (q2 s))))=s
  rw [← b3]
  show _++(_++(ca (pg (kS s) (vT (kS s) (q1 s)))++rT (kS s) (q1 s)))=s
  rw [← b2]
  show _++(ca (og (kS s) (vI (kS s) (q0 s)))++rI (kS s) (q0 s))=s
  rw [← b1]
  have e:ca [(kS s).toNat]=s.extract 0 1:=by
   refine jb (by rw [cF,db _ _ _ hs];rfl) λi hi=>?_
   rw [cF] at hi
   have:i=0:=by simpa using hi
   subst this
   have hb:=oQ s 0
   rw [gN _ _ (by simp) (by intro n hn;rw [ar4] at hn;subst hn;unfold kS;omega),jn _ _ _ _ hs (by omega)]
   simp [kS]
  rw [e];exact(jL s 1 hs).symm
def xO (m:Mg):List Nat:=[m.k.toNat]
def Y2 (m:Mg):List Nat:=xO m++og m.k m.i
variable {P:Program} {ρ:Operand->Value} {d:Option Tmp} {ty:TypeId} {pos:String} {af:Array Edge} {g:Option (Nat × Bool)} {x y:Operand} {t:TypeId}
def Pch (t:TypeId):List PanicEntry:=[{v:=.iface t (.int .i64 5),recovered:=false}]
def MR (t:TypeId) (ok:Bool) (T:Value->World->Prop) (F:World->Prop):Ending->World->Prop:=λe w=>(ok=true/\∃ v,e=.returned v/\T v w)∨(ok=false/\∃ ch,e=.panicked ch/\ch=Pch t/\F w)
theorem MR.no {t:TypeId} {ok:Bool} {T:Value->World->Prop} {F:World->Prop} {f:FuncId} {a:Array Value} {w:World} (h:Calls P f a w (MR t ok T F)) (hok:ok=false):Calls P f a w (λe w'=>∃ ch,e=.panicked ch/\(ch=Pch t/\F w')):=
 h.mono λe w' hx=>by
  rcases hx with ⟨h0,_⟩|⟨_,ch,r⟩
  ·rw [hok] at h0;cases h0
  ·exact ⟨ch,r⟩
def p1 (s:ByteArray):Mg:={mZ with k:=kS s}
def p2 (s:ByteArray):Mg:={p1 s with i:=vI (kS s) (q0 s)}
def p3 (s:ByteArray):Mg:={p2 s with t:=vT (kS s) (q1 s)}
section
variable {s:ByteArray}
theorem IJ (h:Mk s=true):Ag s=mP s:=by unfold Ag;rw [h];rfl
end
end Go.Proofs.YthmlflaiidhoiaaGreatDoor
namespace Go.Proofs.YthmlflaiidhoiaaGreatDoor
def t5 (m:Mg) (v:Value) (r:ByteArray) (ok:Bool):Array Value:=((Kk m v).toList++([.string r,.bool ok]:List Value)).toArray
theorem ai6 (m:Mg) (v:Value):(Kk m v).toList.length=71:=by rw [ar2,Fk]
@[simp] theorem ZV (m:Mg) (v:Value) (r:ByteArray) (ok:Bool):(t5 m v r ok).size=73:=by
  simp only [t5,List.size_toArray,aq7,ai6,at5,at6]
section
variable {P:Program} {ρ:Operand->Value} {d:Option Tmp} {ty:TypeId} {pos:String} {af:Array Edge} {g:Option (Nat × Bool)} {x y:Operand} {t:TypeId}
end
section
variable {s:ByteArray}
end
def hN (r:ByteArray):Nat->Nat
 |0=>0
 |d+1=>256*hN r d+sb r (5 - d)
def nd (s:ByteArray):Nat:=(bif jc (kS s) then 8 else 0)+(bif kW (kS s) then 16 else 0)
section
variable {s:ByteArray}
end
section
variable {s:ByteArray}
end
section
variable {s:ByteArray}
end
theorem E8 {m:Mg} (h:cn m=true):Ag (eH m)=m:=by rw [IJ (uc h).1,(uc h).2]
theorem Gp {s:ByteArray} (h:Mk s=true):cn (Ag s)=true:=by rw [IJ h];exact(Bl h).1
end Go.Proofs.YthmlflaiidhoiaaGreatDoor
namespace Go.Proofs.YthmlflaiidhoiaaGreatDoor
open Go.RowKit Go.ChangeShapes Go.WideShapes Go.ChangeAt
end Go.Proofs.YthmlflaiidhoiaaGreatDoor
