/- Entries, stacks and their bytes: what may be, what is written, what is read; slices of entries; no Go in it. -/
import Derived.Lib.AppendZeros
import Derived.Deep.Slices
import Derived.Test.YtkhepdpfdhdlaaaGreatDoorPr
set_option linter.unusedVariables false
set_option linter.unusedSimpArgs false
set_option linter.unusedSectionVars false
namespace Go.Proofs.YtkhepdpfdhdlaaaGreatDoor
open Go.RowKit
abbrev dN:=Int × Id × Int
def df (e:dN):Array Value:=(Value.int .i64 e.1::((aI e.2.1).toList++[.int .i64 e.2.2])).toArray
theorem ce (e:dN):(df e).size=34:=by simp [df]
theorem fS (e:dN):(df e).toList=Value.int .i64 e.1::((aI e.2.1).toList++[.int .i64 e.2.2]):=rfl
theorem jp (e:dN):∀ v∈(df e).toList,v.oneCell'=true:=λv hv=>by
 rw [fS] at hv
 rcases at1.1 hv with rfl|hv
 ·simp [Value.oneCell',Value.cells]
 ·rcases av4.1 hv with hv|hv
  ·rw [dU] at hv;exact ef _ _ v hv
  ·rw [as9] at hv;subst hv;simp [Value.oneCell',Value.cells]
theorem jA (e:dN):(df e)[0]? = some (.int .i64 e.1):=rfl
theorem gX (e:dN):(df e)[33]? = some (.int .i64 e.2.2):=by
 rw [← ay4,fS,ax4,av2 (by simp)]
 simp
theorem lS (e:dN):(df e).extract 1 (1+32)=aI e.2.1:=by
 apply Array.ext'
 rw [Array.toList_extract,List.extract_eq_take_drop,fS]
 simp
theorem AM {x y:dN} (h:(df x).toList=(df y).toList):x=y:=by
 have h':=Array.toList_inj.1 h
 have h0:=jA x;rw [h',jA] at h0
 have h1:=gX x;rw [h',gX] at h1
 have h2:=lS x;rw [h',lS] at h2
 simp at h0 h1
 have h3:=jr h2
 exact Prod.ext h0.symm (Prod.ext h3.symm h1.symm)
theorem VD (x y:dN):decide (x=y)=true↔(df x).toList=(df y).toList:=by
 rw [as5];exact ⟨λh=>by rw [h],AM⟩
def eo (l:List dN):List Value:=l.flatMap λe=>(df e).toList
theorem q7 (e:dN):eo [e]=(df e).toList:=by simp [eo]
theorem Ad (l:List dN):∀ u∈eo l,u.oneCell'=true:=λu hu=>by
 obtain ⟨x,_,hx⟩:=List.mem_flatMap.1 hu
 exact jp x u hx
theorem T5 (l:List dN) (j:Nat) (hj:j<l.length):(((eo l).drop (j*34)).take 34).toArray=df l[j]:=by
 unfold eo
 rw [fk _ 34 (λx=>by rw [as7,ce]) l j hj]
def pk (e:dN):Bool:=(decide (e.1=1) && decide (e.2.2=0)) || (decide (e.1=2) && decide (e.2.1=0#256) && decide (0<=e.2.2) && decide (e.2.2<16))
def dH (l:List dN):Bool:=decide (0<l.length) && decide (l.length<=4) && l.all pk
theorem xc (e:dN):pk e=true↔(e.1=1/\e.2.2=0)∨(e.1=2/\e.2.1=0#256/\0<=e.2.2/\e.2.2<16):=by
 unfold pk;simp [and_assoc]
theorem fc (l:List dN):dH l=true↔0<l.length/\l.length<=4/\∀ e∈l,pk e=true:=by
 unfold dH;rw [as0,as0,as5,as5,as1,and_assoc]
def RF (a:Id):List Nat:=(List.range 32).map (bQ a)
theorem mK (a:Id):(RF a).length=32:=by simp [RF]
def jh (e:dN):List Nat:=if e.1=1 then 1::RF e.2.1 else [2,e.2.2.toNat]
def nM (ns:List Nat):ByteArray:=⟨(ns.map UInt8.ofNat).toArray⟩
def kv (l:List dN):List Nat:=l.length::l.flatMap jh
def zu (l:List dN):ByteArray:=nM (kv l)
theorem jo (ns:List Nat):(nM ns).size=ns.length:=by simp [nM,ByteArray.size]
theorem kW (e:dN):(jh e).length<=33/\2<=(jh e).length:=by
 unfold jh;split
 ·simp [RF]
 ·simp
theorem oC (l:List dN):(l.flatMap jh).length<=33*l.length:=by
 induction l with
 |nil=>simp
 |cons e l ih=>have:=(kW e).1;rw [List.flatMap_cons,as2,av0];omega
theorem t6 (a:Id):(aI a).toList=je (RF a):=by
 unfold je RF aI eR
 rw [List.map_map];rfl
def gB (l:List dN) (k:Nat):List Nat:=l.length::(l.take k).flatMap jh
theorem Fu (l:List dN):gB l l.length=kv l:=by unfold gB;rw [List.take_length];rfl
theorem j3 (l:List dN) (k:Nat) (hk:k<l.length):gB l (k+1)=gB l k++jh l[k]:=by
 unfold gB
 rw [List.take_succ_eq_append_getElem hk,aw7]
 simp
theorem Fg (l:List dN) (k:Nat):(gB l k).length<=1+33*k:=by
 unfold gB
 have h1:=oC (l.take k)
 have h2:(l.take k).length<=k:=by rw [av5];omega
 rw [av0]
 omega
def Pq (t:ByteArray):Int × dN × Nat:=
 if t.size=0 then (3,(0,0#256,0),0)
 else if sb t 0=1 then
  if t.size<33 then (3,(0,0#256,0),0) else (0,(1,yr λi=>sb t (1+i),0),33)
 else if sb t 0=2 then
  if t.size<2 then (3,(0,0#256,0),0) else if 16<=sb t 1 then (5,(0,0#256,0),0) else (0,(2,0#256,(sb t 1:Int)),2)
 else (5,(0,0#256,0),0)
def tJ (s:ByteArray) (n:Nat):ByteArray:=s.extract n s.size
def OZ (s:ByteArray):Nat->Int × List dN × Nat
 |0=>(0,[],1)
 |k+1=>if (OZ s k).1=0 then
  if (Pq (tJ s (OZ s k).2.2)).1=0 then (0,(OZ s k).2.1++[(Pq (tJ s (OZ s k).2.2)).2.1],(OZ s k).2.2+(Pq (tJ s (OZ s k).2.2)).2.2)
  else ((Pq (tJ s (OZ s k).2.2)).1,[],0)
  else OZ s k
def sm (s:ByteArray):Int × List dN × Nat:=
 if s.size=0 then (3,[],0) else if sb s 0<1∨4<sb s 0 then (5,[],0) else OZ s (sb s 0)
theorem C7 (e:dN) (h:pk e=true):∀ n∈jh e,n<256:=λn hn=>by
 unfold jh at hn
 rcases (xc e).1 h with ⟨h1,h2⟩|⟨h1,h2,h3,h4⟩
 ·rw [if_pos h1] at hn
  rcases at1.1 hn with rfl|hn
  ·decide
  ·obtain ⟨i,_,rfl⟩:=aw4.1 hn;exact iw _ _
 ·rw [if_neg (by omega)] at hn
  simp only [at1,at4,or_false] at hn
  rcases hn with rfl|rfl<;>omega
end Go.Proofs.YtkhepdpfdhdlaaaGreatDoor
namespace Go.Proofs.YtkhepdpfdhdlaaaGreatDoor
open Go.RowKit Go.ChangeShapes Go.WideShapes Go.ChangeAt
theorem EqV.up {P:Program} {D:Nat} {e:TypeId} {sz:Nat} {V:List Value->Prop} {vl:List Value->Value} (E:EqV P D e sz V vl):EqV P (D+1) e sz V vl:=
 ⟨E.len,E.size,E.part,λd xs ys w hx hy=>by
  have:=E.eq (d+1) xs ys w hx hy
  rwa [show d+(D+1)=d+1+D from by omega]⟩
theorem EU (e:dN):((df e).toList.drop 0).take 1=[Value.int .i64 e.1]:=rfl
theorem Er (e:dN):((df e).toList.drop 1).take 32=(cG (bQ e.2.1) 32).toList:=by
 rw [fS,List.drop_succ_cons,List.drop_zero,List.take_append_of_le_length (by simp),au4 (by simp),dU]
theorem D6 (e:dN):((df e).toList.drop 33).take 1=[Value.int .i64 e.2.2]:=by
 rw [fS,List.drop_succ_cons,List.drop_append,List.drop_eq_nil_of_le (by simp)]
 simp
theorem iy:df (0,0#256,0)=(Value.int .i64 0::(List.replicate 32 (Value.int .u8 0)++[.int .i64 0])).toArray:=by
 unfold df;rw [ei];rfl
section
variable {P:Program} {a:Act} {w w0:World} {N:Nat} {L:List (Nat × Value)} {B:List Own} {fn:Func} {T:dz}
theorem eU {p q r t:Tmp} {b n:Nat} {C:Array Value} {u:TypeId} {V U:Value} (i:Nat) (hres:fn.results=#[.cell p t,.tmp q,.tmp r]) (h:Sl N a L) (s:St w0 B w) (hr:Row P t n) (hp:lk L p=some (.pointer (some ⟨b,0,none⟩))) (hi:B[i]? = some (.blk b (.cells C u))) (hn:C.size=n)
 (hq:lk L q=some V) (hu:lk L r=some U) (hT:T (.tuple #[.agg C,V,U]) w):bodyPost P fn (cd w0 T) .ret a w:=by
 refine ⟨h.defers,.tuple #[.agg C,V,U],?_,_,rfl,hT,s.ext⟩
 have hp':a.tmps[p]?.getD undef=.pointer (some ⟨b,0,none⟩):=by simpa using h.holds p _ hp
 have hq':a.tmps[q]?.getD undef=V:=by simpa using h.holds q _ hq
 have hu':a.tmps[r]?.getD undef=U:=by simpa using h.holds r _ hu
 simp [results,hres,hp',hq',hu',asAddr,dC hr w b C u (0,0) (s.get i hi) hn]
end
section
variable {P:Program} {ρ:Operand->Value} {d:Option Tmp} {ty:TypeId} {pos:String} {af:Array Edge} {g:Option (Nat × Bool)} {x y:Operand} {t t' e:TypeId} {k:IntKind} {m n:Int}
def eZ:List (List Value):=[[.int .i64 0],List.replicate 32 (.int .u8 0),[.int .i64 0]]
theorem gp (S:Stt P t eZ):a7 P ⟨d,.build t #[],ty,pos,af,g⟩ ρ (.agg (df (0,0#256,0))):=by
 have:=bk (P:=P) (ρ:=ρ) (d:=d) (ty:=ty) (pos:=pos) (af:=af) (g:=g) (parts:=#[]) S [] (by simp) (λi v hm=>by simp at hm) (D:=(df (0,0#256,0)).toList) (by rw [iy];rfl)
 simpa using this
theorem yV {q r:Int} (S:Stt P t eZ) (hx:ρ x=.int .i64 q) (hy:ρ y=.int .i64 r):a7 P ⟨d,.build t #[(0,x),(2,y)],ty,pos,af,g⟩ ρ (.agg (df (q,0#256,r))):=by
 have:=bk (P:=P) (ρ:=ρ) (d:=d) (ty:=ty) (pos:=pos) (af:=af) (g:=g) (parts:=#[(0,x),(2,y)]) S [(0,.int .i64 q),(2,.int .i64 r)] (by simp [hx,hy]) (λi v hm=>by
  simp at hm
  rcases hm with ⟨rfl,rfl⟩|⟨rfl,rfl⟩
  ·exact ⟨_,rfl,rfl⟩
  ·exact ⟨_,rfl,rfl⟩) (D:=(df (q,0#256,r)).toList) (by rw [fS,ei];rfl)
 simpa using this
theorem ki {b o len:Nat} (ht:P.underlying t=some (.array len e)) (he:(P.info? e).map (·.size)=some 1) (hx:ρ x=.pointer (some ⟨b,o,none⟩)):a7 P ⟨d,.slice t x none none none,ty,pos,af,g⟩ ρ (.slice (some ⟨b,o,none⟩) len len):=λw=>by
 cases hi:P.info? e with
 |none=>simp [hi] at he
 |some i=>
  have h1:i.size=1:=by simpa [hi] using he
  have ha:(⟨b,o,none⟩:Addr).add 0=⟨b,o,none⟩:=by simp [Addr.add]
  simp [execOp,hx,Instr.sliceAt,Instr.sliceBounds,aw2,as6 ht,Instr.sureAddr,sizeOf,typeInfo,hi,h1,ha]
theorem br.of_has {w:World} {b o n c:Nat} {C:Array Value} (h:aF w ⟨b,o,none⟩ C) (hn:C.size=n) (hc:n<=c):br w (.slice (Option.some ⟨b,o,none⟩) n c) 1 n C.toList:=
 ⟨by rw [as7];omega,.inr ⟨⟨b,o,none⟩,c,rfl,hc,by simpa using h⟩⟩
theorem rC (ht:P.underlying t=some (.slice e)) (hx:ρ x=.slice none 0 0):a7 P ⟨d,.call {callee:=.builtin .cap,args:=#[x],argTypes:=#[t]},ty,pos,af,g⟩ ρ (.int .i64 0):=λw=>by
 simp [execOp,resolve,invoke,builtin,hx,aw2,as6 ht,Builtin.cap_,goInt]
theorem xA {sz:Nat} (ht:P.underlying t=some (.slice e)) (he:(P.info? e).map (·.size)=some sz) (hx:ρ x=.slice none 0 0) (hy:ρ y=.int .i64 0):a7 P ⟨d,.slice t x none (some y) none,ty,pos,af,g⟩ ρ (.slice none 0 0):=λw=>by
 simp [execOp,hx,hy,Instr.sliceAt,Instr.slice,Instr.sliceBounds,Instr.sliceBound,asIntOf,aw2,as6 ht,Instr.sureAddr,dt he]
theorem sR {sz n:Nat} {v:Value} {w0:World} {base:Nat} {u:TypeId} {xs:List Value} (hO:cI w0 base u sz v n xs) (ht:P.underlying t=some (.slice e)) (he:(P.info? e).map (·.size)=some sz) (hx:ρ x=v) (hy:ρ y=.int .i64 0):a7 P ⟨d,.slice t x none (some y) none,ty,pos,af,g⟩ ρ (jK v 0):=by
 have h1:=eY (P:=P) (ρ:=ρ) (d:=d) (ty:=ty) (pos:=pos) (af:=af) (g:=g) (br.of_own hO) 0 ht he hx hy rfl (at8 _)
 exact h1
theorem cI.cut0 {w:World} {base:Nat} {e:TypeId} {sz n:Nat} {v:Value} {xs:List Value} (h:cI w base e sz v n xs):cI w base e sz (jK v 0) 0 []:=by
 refine ⟨by simp,?_⟩
 rcases h.2 with ⟨rfl,_⟩|⟨g,cap,cur,fz,rfl,h1,h2,h3,h4,h5,h6,_⟩
 ·exact .inl ⟨rfl,rfl⟩
 ·exact .inr ⟨g,cap,cur,fz,rfl,h1,h2,h3,at8 _,h5,h6,by simp⟩
end
section
variable {P:Program} {ops:Array Oper} {Q:Act->World->Prop} {l:List Oper} {a:Act} {w w0:World} {N:Nat} {L:List (Nat × Value)} {Df:List Deferred} {B:List Own} {d:Tmp} {ty:TypeId} {pos:String} {af:Array Edge} {x y:Operand} {t t' e:TypeId}
theorem sf {sz by_ n base:Nat} {kn:IntKind} (h:Sl N a L Df) (ht:P.underlying t=some (.slice e)) (htn:P.underlying t'=some (.int kn)) (E:Elm P e sz by_) (hx:ep L x=some (.slice none 0 0)) (hy:ep L y=some (.int .i64 (n:Int))) (h0:0<n) (hb:n*by_<=140737488355328) (hb1:n<=1000000) (hbase:base<=w.heap.size) (hd:Nat.blt d N=true)
 (k:∀ a' w' v' xs,Sl N a' ((d,v')::L) Df->Ext w w'->cI w' base e sz v' n xs->cB P ops Q l a' w'):
 cB P ops Q (⟨some d,.call {callee:=.builtin .append,args:=#[x,y],argTypes:=#[t,t']},ty,pos,af,none⟩::l) a w:=by
 obtain ⟨i,z,hi,hz,rfl,rfl,hzs⟩:=E.info
 have hpos:=E.pos
 have hr:=Go.Lib.run_append_nil_zeros (P:=P) w t t' ty e i z .i64 kn ht htn hi hz n h0 hpos (by omega) (by omega)
 have hge:=grownCap_ge w n 0 e
 obtain ⟨V9,W9,hr9,hE9,hO9⟩:∃ V W,(Builtin.append_ #[t,t'] ty #[.slice none 0 0,.int .i64 (n:Int)]).run P w=.ok V W/\Ext w W/\cI W base e i.size V n (Builtin.zeroCells z.cells n).toList:=by
  refine ⟨_,_,hr,(Ext.refl w).drew.alloc _,by rw [as7,size_zeroCells,hzs],.inr ⟨w.heap.size,grownCap w n 0 e,_,(0,0),rfl,hbase,heap_alloc_new w.drew _,.inl rfl,hge,grownCap_le_maxLen w _ 0 e (by unfold maxLen;omega),?_,?_⟩⟩
  ·simp only [Array.size_append,size_zeroCells,hzs]
   rw [← Nat.add_mul]
   congr 1
   omega
  ·rw [Array.toList_append,List.take_append_of_le_length (by rw [as7,size_zeroCells,hzs];exact at6 _),au4 (by rw [as7,size_zeroCells,hzs];exact at6 _)]
 refine dW (R:=λu w''=>u=V9/\w''=W9) h (by
  unfold dh
  simp only [execOp,resolve,invoke,builtin,aw2,aw3,as4,List.map_toArray,List.map_cons,List.map_nil,h.ev hx,h.ev hy,hr9]
  first|exact ⟨rfl,rfl⟩|exact ⟨trivial,rfl⟩|exact ⟨trivial,trivial⟩|trivial) hd λa' w'' u ⟨e1,e2⟩ hs=>?_
 subst e1;subst e2
 exact k _ _ _ _ hs hE9 hO9
end
theorem GM {H:Type} {enc:TypeId × Value->H} {P:Program} {w:World} {base:Nat} {spare:Nat->Bool} {held:Bool} {t tn ti e:TypeId} {f0 f1 f2:Field} {fuel:Nat} {cs:List Value} {x:DataW H × List MemPlace} (T:IdTy P ti e) (hc:P.cellsOf ti=32) (hce:P.cellsOf e=1) (hn:P.underlying tn=some (.int .i64)) (hcn:P.cellsOf tn=1)
 (ht:P.underlying t=some (.struct #[f0,f1,f2])) (h0:f0.type=tn) (h1:f1.type=ti) (h2:f2.type=tn) (o0:f0.offset=0) (o1:f1.offset=1) (o2:f2.offset=33) (hct:P.cellsOf t=34) (h:DataW.trod enc P w base spare held fuel t cs=some x):∃ l:dN,cs=(df l).toList:=by
 obtain ⟨xs,n,rfl,_,hl,hxl,hel⟩:=DataW.trod_struct ht h
 rw [hct] at hl
 have hx2:xs.length=3:=by simpa using hxl
 have e0:=hel 0 f0 rfl
 have e1:=hel 1 f1 rfl
 have e2:=hel 2 f2 rfl
 rw [h0,o0,hcn,as3 (by omega)] at e0
 rw [h1,o1,hc,as3 (by omega)] at e1
 rw [h2,o2,hcn,as3 (by omega)] at e2
 obtain ⟨k,hk,_⟩:=DataW.trod_int hn e0
 obtain ⟨a,ha⟩:=lm T hc hce e1
 obtain ⟨h9,hh,_⟩:=DataW.trod_int hn e2
 refine ⟨(k,a,h9),?_⟩
 rw [fS,← ha]
 have hdrop:cs.drop 33=[Value.int .i64 h9]:=by
  rw [au4 (by rw [au7];omega)] at hh
  exact hh
 have hsplit:cs=(cs.drop 0).take 1++((cs.drop 1).take 32++cs.drop 33):=by
  rw [List.drop_zero,show cs.drop 33=(cs.drop 1).drop 32 from by rw [List.drop_drop],au2,au2]
 rw [hk,hdrop] at hsplit
 exact hsplit
theorem Pe (e:dN) (h:e.1=1):pk e=decide (e.2.2=0):=by
 unfold pk;rw [h];simp
theorem wB (e:dN) (h:e.1=2):pk e=(decide (e.2.1=0#256) && decide (0<=e.2.2) && decide (e.2.2<16)):=by
 unfold pk;rw [h];simp
theorem Lp (e:dN) (h:¬ e.1=1) (h2:¬ e.1=2):pk e=false:=by
 unfold pk;simp [h,h2]
theorem TU {l:List dN} {k:Nat} (hk:k<l.length) (hc:(!pk l[k])=true):false=l.all pk:=by
 symm
 rw [List.all_eq_false]
 exact ⟨l[k],ax6 hk,by simpa using hc⟩
theorem PR {l:List dN} {k:Nat} (hk:l.length<=k) (h:∀ i (hi:i<l.length),i<k->pk l[i]=true):true=l.all pk:=by
 symm
 rw [as1]
 intro x hx
 obtain ⟨i,hi,e⟩:=ax7 hx
 rw [← e];exact h i hi (by omega)
theorem G8 {e:dN} (h:pk e=true):e.1=1∨e.1=2:=by
 rcases (xc e).1 h with h|h
 ·exact .inl h.1
 ·exact .inr h.1
theorem KR {e:dN} (h:pk e=true) (h1:¬ e.1=1):e.1=2/\e.2.1=0#256/\0<=e.2.2/\e.2.2<16:=by
 rcases (xc e).1 h with h|h
 ·exact az2 h.1 h1
 ·exact h
theorem Sm {l:List dN} {k:Nat} (hk:k<l.length) (h1:l[k].1=1):je (gB l k)++[Value.int .u8 ((l[k].1.toNat:Nat):Int)].flatMap (λv=>v.cells.toList)++(aI l[k].2.1).toList=je (gB l (k+1)):=by
 rw [j3 l k hk,← gV,aw8]
 refine ar8 (je (gB l k)++·) ?_
 unfold jh
 rw [if_pos h1,h1,t6]
 rfl
theorem R1 {l:List dN} {k:Nat} (hk:k<l.length) (h1:l[k].1=1):(gB l k).length+1+32=(gB l (k+1)).length:=by
 rw [j3 l k hk,as2]
 unfold jh
 rw [if_pos h1,av0,mK]
theorem Vn {l:List dN} {k:Nat} (hk:k<l.length) (h1:l[k].1=2):je (gB l k)++[Value.int .u8 ((l[k].1.toNat:Nat):Int)].flatMap (λv=>v.cells.toList)++[Value.int .u8 ((l[k].2.2.toNat:Nat):Int)].flatMap (λv=>v.cells.toList)=je (gB l (k+1)):=by
 rw [j3 l k hk,← gV,aw8]
 refine ar8 (je (gB l k)++·) ?_
 unfold jh
 rw [if_neg (by omega),h1]
 rfl
theorem Ul {l:List dN} {k:Nat} (hk:k<l.length) (h1:l[k].1=2):(gB l k).length+1+1=(gB l (k+1)).length:=by
 rw [j3 l k hk,as2]
 unfold jh
 rw [if_neg (by omega)]
 rfl
def nP (l:List dN):ByteArray:=if dH l=true then zu l else ⟨#[]⟩
def Ak (l:List dN):Int:=if dH l=true then 0 else 1
theorem d6 (w:World) (base:Nat) (e:TypeId) (sz:Nat):cI w base e sz (.slice none 0 0) 0 []:=⟨by simp,.inl ⟨rfl,rfl⟩⟩
section
variable {t:ByteArray}
end
theorem St.recell {w0 w:World} {B:List Own} {b:Nat} {C D:Array Value} {u:TypeId} (s:St w0 B w) (i:Nat) (hi:B[i]? = some (.blk b (.cells C u))) (e:C=D):St w0 (B.set i (.blk b (.cells D u))) w:=by
 subst e
 have:B.set i (.blk b (.cells C u))=B:=by
  apply List.ext_getElem?
  intro j
  by_cases h:i=j
  ·subst h
   have hl:=(ar9.1 hi).1
   rw [List.getElem?_set_self hl,hi]
  ·rw [List.getElem?_set_ne h]
 rw [this];exact s
section
variable {P:Program} {ρ:Operand->Value} {d:Option Tmp} {ty:TypeId} {pos:String} {af:Array Edge} {g:Option (Nat × Bool)} {x y:Operand} {t:TypeId}
end
theorem En {vs:List Value} {k:Nat} (h:k<vs.length):vs[k]? = some (vs.getD k undef):=by
 rw [au1,as3 h];rfl
theorem CY {l:List dN} (h:dH l=true):nP l=zu l:=by unfold nP;rw [if_pos h]
end Go.Proofs.YtkhepdpfdhdlaaaGreatDoor
