/- Entries, stacks and their bytes. -/
import Derived.Lib.AppendZeros
import Derived.Deep.Slices
import Derived.Test.YthmlflaiidhoiaaGreatDoorPr
set_option linter.unusedVariables false
set_option linter.unusedSimpArgs false
set_option linter.unusedSectionVars false
namespace Go.Proofs.YthmlflaiidhoiaaGreatDoor
open Go.RowKit
abbrev dN:=Int × Id × Int
def cG (e:dN):Array Value:=(Value.int .i64 e.1::((aH e.2.1).toList++[.int .i64 e.2.2])).toArray
theorem bR (e:dN):(cG e).size=34:=by simp [cG]
theorem f7 (e:dN):(cG e).toList=Value.int .i64 e.1::((aH e.2.1).toList++[.int .i64 e.2.2]):=rfl
theorem kw (e:dN):∀ v∈(cG e).toList,v.oneCell'=true:=λv hv=>by
 rw [f7] at hv
 rcases aI6.1 hv with rfl|hv
 ·simp [Value.oneCell',Value.cells]
 ·rcases aK9.1 hv with hv|hv
  ·rw [eg] at hv;exact eE _ _ v hv
  ·rw [aI4] at hv;subst hv;simp [Value.oneCell',Value.cells]
theorem kH (e:dN):(cG e)[0]? = some (.int .i64 e.1):=rfl
theorem ik (e:dN):(cG e)[33]? = some (.int .i64 e.2.2):=by
 rw [← aN9,f7,aM9,aK7 (by simp)]
 simp
theorem mY (e:dN):(cG e).extract 1 (1+32)=aH e.2.1:=by
 apply Array.ext'
 rw [Array.toList_extract,List.extract_eq_take_drop,f7]
 simp
theorem Bd {x y:dN} (h:(cG x).toList=(cG y).toList):x=y:=by
 have h':=Array.toList_inj.1 h
 have h0:=kH x;rw [h',kH] at h0
 have h1:=ik x;rw [h',ik] at h1
 have h2:=mY x;rw [h',mY] at h2
 simp at h0 h1
 have h3:=qF h2
 exact Prod.ext h0.symm (Prod.ext h3.symm h1.symm)
theorem U2 (x y:dN):decide (x=y)=true↔(cG x).toList=(cG y).toList:=by
 rw [aI0];exact ⟨λh=>by rw [h],Bd⟩
def ed (l:List dN):List Value:=l.flatMap λe=>(cG e).toList
theorem tq (e:dN):ed [e]=(cG e).toList:=by simp [ed]
theorem z7 (l:List dN):∀ u∈ed l,u.oneCell'=true:=λu hu=>by
 obtain ⟨x,_,hx⟩:=List.mem_flatMap.1 hu
 exact kw x u hx
theorem W4 (l:List dN) (j:Nat) (hj:j<l.length):(((ed l).drop (j*34)).take 34).toArray=cG l[j]:=by
 unfold ed
 rw [eU _ 34 (λx=>by rw [aI2,bR]) l j hj]
theorem zc {w:World} {v:Value} {ls:List dN} (h:bs w v 34 ls.length (ed ls)) (k:Nat) (hk:k<=ls.length):bs w (eT v k) 34 (ls.take k).length (ed (ls.take k)):=by
 have:=h.cut k hk
 unfold ed at this
 rw [gA _ 34 (λx=>by rw [aI2,bR])] at this
 rw [aL0,Nat.min_eq_left hk]
 exact this
def pZ (e:dN):Bool:=(decide (e.1=1) && decide (e.2.2=0)) || (decide (e.1=2) && decide (e.2.1=0#256) && decide (0<=e.2.2) && decide (e.2.2<16))
def dQ (l:List dN):Bool:=decide (0<l.length) && decide (l.length<=4) && l.all pZ
theorem xn (e:dN):pZ e=true↔(e.1=1/\e.2.2=0)∨(e.1=2/\e.2.1=0#256/\0<=e.2.2/\e.2.2<16):=by
 unfold pZ;simp [and_assoc]
theorem fN (l:List dN):dQ l=true↔0<l.length/\l.length<=4/\∀ e∈l,pZ e=true:=by
 unfold dQ;rw [aH5,aH5,aI0,aI0,aH6,and_assoc]
def Tk (a:Id):List Nat:=(List.range 32).map (bP a)
theorem n5 (a:Id):(Tk a).length=32:=by simp [Tk]
def kg (e:dN):List Nat:=if e.1=1 then 1::Tk e.2.1 else [2,e.2.2.toNat]
def pL (ns:List Nat):ByteArray:=⟨(ns.map UInt8.ofNat).toArray⟩
def lD (l:List dN):List Nat:=l.length::l.flatMap kg
def An (l:List dN):ByteArray:=pL (lD l)
theorem km (ns:List Nat):(pL ns).size=ns.length:=by simp [pL,ByteArray.size]
theorem mq (e:dN):(kg e).length<=33/\2<=(kg e).length:=by
 unfold kg;split
 ·simp [Tk]
 ·simp
theorem p8 (l:List dN):(l.flatMap kg).length<=33*l.length:=by
 induction l with
 |nil=>simp
 |cons e l ih=>have:=(mq e).1;rw [List.flatMap_cons,aH7,aK5];omega
theorem xa (a:Id):(aH a).toList=j6 (Tk a):=by
 unfold j6 Tk aH fo
 rw [List.map_map];rfl
def g8 (l:List dN) (k:Nat):List Nat:=l.length::(l.take k).flatMap kg
theorem Il (l:List dN):g8 l l.length=lD l:=by unfold g8;rw [List.take_length];rfl
theorem lu (l:List dN) (k:Nat) (hk:k<l.length):g8 l (k+1)=g8 l k++kg l[k]:=by
 unfold g8
 rw [List.take_succ_eq_append_getElem hk,aM2]
 simp
theorem Hk (l:List dN) (k:Nat):(g8 l k).length<=1+33*k:=by
 unfold g8
 have h1:=p8 (l.take k)
 have h2:(l.take k).length<=k:=by rw [aL0];omega
 rw [aK5]
 omega
def Rp (t:ByteArray):Int × dN × Nat:=
 if t.size=0 then (3,(0,0#256,0),0)
 else if sb t 0=1 then
  if t.size<33 then (3,(0,0#256,0),0) else (0,(1,Co λi=>sb t (1+i),0),33)
 else if sb t 0=2 then
  if t.size<2 then (3,(0,0#256,0),0) else if 16<=sb t 1 then (5,(0,0#256,0),0) else (0,(2,0#256,(sb t 1:Int)),2)
 else (5,(0,0#256,0),0)
def vE (s:ByteArray) (n:Nat):ByteArray:=s.extract n s.size
def QV (s:ByteArray):Nat->Int × List dN × Nat
 |0=>(0,[],1)
 |k+1=>if (QV s k).1=0 then
  if (Rp (vE s (QV s k).2.2)).1=0 then (0,(QV s k).2.1++[(Rp (vE s (QV s k).2.2)).2.1],(QV s k).2.2+(Rp (vE s (QV s k).2.2)).2.2)
  else ((Rp (vE s (QV s k).2.2)).1,[],0)
  else QV s k
def sY (s:ByteArray):Int × List dN × Nat:=
 if s.size=0 then (3,[],0) else if sb s 0<1∨4<sb s 0 then (5,[],0) else QV s (sb s 0)
theorem E7 (e:dN) (h:pZ e=true):∀ n∈kg e,n<256:=λn hn=>by
 unfold kg at hn
 rcases (xn e).1 h with ⟨h1,h2⟩|⟨h1,h2,h3,h4⟩
 ·rw [if_pos h1] at hn
  rcases aI6.1 hn with rfl|hn
  ·decide
  ·obtain ⟨i,_,rfl⟩:=aL9.1 hn;exact iu _ _
 ·rw [if_neg (by omega)] at hn
  simp only [aI6,aI9,or_false] at hn
  rcases hn with rfl|rfl<;>omega
end Go.Proofs.YthmlflaiidhoiaaGreatDoor
namespace Go.Proofs.YthmlflaiidhoiaaGreatDoor
open Go.RowKit Go.ChangeShapes Go.WideShapes Go.ChangeAt
theorem EqV.up {P:Program} {D:Nat} {e:TypeId} {sz:Nat} {V:List Value->Prop} {vl:List Value->Value} (E:EqV P D e sz V vl):EqV P (D+1) e sz V vl:=
 ⟨E.len,E.size,E.part,λd xs ys w hx hy=>by
  have:=E.eq (d+1) xs ys w hx hy
  rwa [show d+(D+1)=d+1+D from by omega]⟩
theorem E8 (e:dN):((cG e).toList.drop 0).take 1=[Value.int .i64 e.1]:=rfl
theorem FZ (e:dN):((cG e).toList.drop 1).take 32=(cS (bP e.2.1) 32).toList:=by
 rw [f7,List.drop_succ_cons,List.drop_zero,List.take_append_of_le_length (by simp),aJ9 (by simp),eg]
theorem F2 (e:dN):((cG e).toList.drop 33).take 1=[Value.int .i64 e.2.2]:=by
 rw [f7,List.drop_succ_cons,List.drop_append,List.drop_eq_nil_of_le (by simp)]
 simp
theorem iH:cG (0,0#256,0)=(Value.int .i64 0::(List.replicate 32 (Value.int .u8 0)++[.int .i64 0])).toArray:=by
 unfold cG;rw [eJ];rfl
section
variable {P:Program} {a:Act} {w w0:World} {N:Nat} {L:List (Nat × Value)} {B:List Own} {fn:Func} {T:ez}
theorem GC {t u v:Tmp} {V U X:Value} (hr:fn.results=#[.tmp t,.tmp u,.tmp v]) (h:Sl N a L) (s:St w0 B w) (hv:lk L t=some V) (hu:lk L u=some U) (hx:lk L v=some X) (hT:T (.tuple #[V,U,X]) w):bodyPost P fn (cb w0 T) .ret a w:=
 ⟨h.defers,.tuple #[V,U,X],by rw [results_tmp3 hr,h.holds t V hv,h.holds u U hu,h.holds v X hx],_,rfl,hT,s.ext⟩
theorem cY {p q r t:Tmp} {b n:Nat} {C:Array Value} {u:TypeId} {V U:Value} (i:Nat) (hres:fn.results=#[.cell p t,.tmp q,.tmp r]) (h:Sl N a L) (s:St w0 B w) (hr:Row P t n) (hp:lk L p=some (.pointer (some ⟨b,0,none⟩))) (hi:B[i]? = some (.blk b (.cells C u))) (hn:C.size=n)
 (hq:lk L q=some V) (hu:lk L r=some U) (hT:T (.tuple #[.agg C,V,U]) w):bodyPost P fn (cb w0 T) .ret a w:=by
 refine ⟨h.defers,.tuple #[.agg C,V,U],?_,_,rfl,hT,s.ext⟩
 have hp':a.tmps[p]?.getD undef=.pointer (some ⟨b,0,none⟩):=by simpa using h.holds p _ hp
 have hq':a.tmps[q]?.getD undef=V:=by simpa using h.holds q _ hq
 have hu':a.tmps[r]?.getD undef=U:=by simpa using h.holds r _ hu
 simp [results,hres,hp',hq',hu',asAddr,eO hr w b C u (0,0) (s.get i hi) hn]
end
section
variable {P:Program} {ρ:Operand->Value} {d:Option Tmp} {ty:TypeId} {pos:String} {af:Array Edge} {g:Option (Nat × Bool)} {x y:Operand} {t t' e:TypeId} {k:IntKind} {m n:Int}
def eZ:List (List Value):=[[.int .i64 0],List.replicate 32 (.int .u8 0),[.int .i64 0]]
theorem gK (S:Stt P t eZ):aZ P ⟨d,.build t #[],ty,pos,af,g⟩ ρ (.agg (cG (0,0#256,0))):=by
 have:=bw (P:=P) (ρ:=ρ) (d:=d) (ty:=ty) (pos:=pos) (af:=af) (g:=g) (parts:=#[]) S [] (by simp) (λi v hm=>by simp at hm) (D:=(cG (0,0#256,0)).toList) (by rw [iH];rfl)
 simpa using this
theorem zR {q r:Int} (S:Stt P t eZ) (hx:ρ x=.int .i64 q) (hy:ρ y=.int .i64 r):aZ P ⟨d,.build t #[(0,x),(2,y)],ty,pos,af,g⟩ ρ (.agg (cG (q,0#256,r))):=by
 have:=bw (P:=P) (ρ:=ρ) (d:=d) (ty:=ty) (pos:=pos) (af:=af) (g:=g) (parts:=#[(0,x),(2,y)]) S [(0,.int .i64 q),(2,.int .i64 r)] (by simp [hx,hy]) (λi v hm=>by
  simp at hm
  rcases hm with ⟨rfl,rfl⟩|⟨rfl,rfl⟩
  ·exact ⟨_,rfl,rfl⟩
  ·exact ⟨_,rfl,rfl⟩) (D:=(cG (q,0#256,r)).toList) (by rw [f7,eJ];rfl)
 simpa using this
theorem lB {b o len:Nat} (ht:P.underlying t=some (.array len e)) (he:(P.info? e).map (·.size)=some 1) (hx:ρ x=.pointer (some ⟨b,o,none⟩)):aZ P ⟨d,.slice t x none none none,ty,pos,af,g⟩ ρ (.slice (some ⟨b,o,none⟩) len len):=λw=>by
 cases hi:P.info? e with
 |none=>simp [hi] at he
 |some i=>
  have h1:i.size=1:=by simpa [hi] using he
  have ha:(⟨b,o,none⟩:Addr).add 0=⟨b,o,none⟩:=by simp [Addr.add]
  simp [execOp,hx,Instr.sliceAt,Instr.sliceBounds,aL7,aI1 ht,Instr.sureAddr,sizeOf,typeInfo,hi,h1,ha]
theorem bs.of_has {w:World} {b o n c:Nat} {C:Array Value} (h:aJ w ⟨b,o,none⟩ C) (hn:C.size=n) (hc:n<=c):bs w (.slice (Option.some ⟨b,o,none⟩) n c) 1 n C.toList:=
 ⟨by rw [aI2];omega,.inr ⟨⟨b,o,none⟩,c,rfl,hc,by simpa using h⟩⟩
theorem lz (ht:P.underlying t=some (.slice e)) (hx:ρ x=.slice none 0 0):aZ P ⟨d,.call {callee:=.builtin .cap,args:=#[x],argTypes:=#[t]},ty,pos,af,g⟩ ρ (.int .i64 0):=λw=>by
 simp [execOp,resolve,invoke,builtin,hx,aL7,aI1 ht,Builtin.cap_,goInt]
theorem pw {sz:Nat} (ht:P.underlying t=some (.slice e)) (he:(P.info? e).map (·.size)=some sz) (hx:ρ x=.slice none 0 0) (hy:ρ y=.int .i64 0):aZ P ⟨d,.slice t x none (some y) none,ty,pos,af,g⟩ ρ (.slice none 0 0):=λw=>by
 simp [execOp,hx,hy,Instr.sliceAt,Instr.slice,Instr.sliceBounds,Instr.sliceBound,asIntOf,aL7,aI1 ht,Instr.sureAddr,cZ he]
theorem nN {sz n:Nat} {v:Value} {w0:World} {base:Nat} {u:TypeId} {xs:List Value} (hO:cF w0 base u sz v n xs) (ht:P.underlying t=some (.slice e)) (he:(P.info? e).map (·.size)=some sz) (hx:ρ x=v) (hy:ρ y=.int .i64 0):aZ P ⟨d,.slice t x none (some y) none,ty,pos,af,g⟩ ρ (eT v 0):=by
 have h1:=eA (P:=P) (ρ:=ρ) (d:=d) (ty:=ty) (pos:=pos) (af:=af) (g:=g) (bs.of_own hO) 0 ht he hx hy rfl (aJ3 _)
 exact h1
theorem cF.cut0 {w:World} {base:Nat} {e:TypeId} {sz n:Nat} {v:Value} {xs:List Value} (h:cF w base e sz v n xs):cF w base e sz (eT v 0) 0 []:=by
 refine ⟨by simp,?_⟩
 rcases h.2 with ⟨rfl,_⟩|⟨g,cap,cur,fz,rfl,h1,h2,h3,h4,h5,h6,_⟩
 ·exact .inl ⟨rfl,rfl⟩
 ·exact .inr ⟨g,cap,cur,fz,rfl,h1,h2,h3,aJ3 _,h5,h6,by simp⟩
end
section
variable {P:Program} {ops:Array Oper} {Q:Act->World->Prop} {l:List Oper} {a:Act} {w w0:World} {N:Nat} {L:List (Nat × Value)} {Df:List Deferred} {B:List Own} {d:Tmp} {ty:TypeId} {pos:String} {af:Array Edge} {x y:Operand} {t t' e:TypeId}
theorem md {sz by_ n base:Nat} {kn:IntKind} (h:Sl N a L Df) (ht:P.underlying t=some (.slice e)) (htn:P.underlying t'=some (.int kn)) (E:Elm P e sz by_) (hx:eI L x=some (.slice none 0 0)) (hy:eI L y=some (.int .i64 (n:Int))) (h0:0<n) (hb:n*by_<=140737488355328) (hb1:n<=1000000) (hbase:base<=w.heap.size) (hd:Nat.blt d N=true)
 (k:∀ a' w' v' xs,Sl N a' ((d,v')::L) Df->Ext w w'->cF w' base e sz v' n xs->cQ P ops Q l a' w'):
 cQ P ops Q (⟨some d,.call {callee:=.builtin .append,args:=#[x,y],argTypes:=#[t,t']},ty,pos,af,none⟩::l) a w:=by
 obtain ⟨i,z,hi,hz,rfl,rfl,hzs⟩:=E.info
 have hpos:=E.pos
 have hr:=Go.Lib.run_append_nil_zeros (P:=P) w t t' ty e i z .i64 kn ht htn hi hz n h0 hpos (by omega) (by omega)
 have hge:=grownCap_ge w n 0 e
 obtain ⟨V9,W9,hr9,hE9,hO9⟩:∃ V W,(Builtin.append_ #[t,t'] ty #[.slice none 0 0,.int .i64 (n:Int)]).run P w=.ok V W/\Ext w W/\cF W base e i.size V n (Builtin.zeroCells z.cells n).toList:=by
  refine ⟨_,_,hr,(Ext.refl w).drew.alloc _,by rw [aI2,size_zeroCells,hzs],.inr ⟨w.heap.size,grownCap w n 0 e,_,(0,0),rfl,hbase,heap_alloc_new w.drew _,.inl rfl,hge,grownCap_le_maxLen w _ 0 e (by unfold maxLen;omega),?_,?_⟩⟩
  ·simp only [Array.size_append,size_zeroCells,hzs]
   rw [← Nat.add_mul]
   congr 1
   omega
  ·rw [Array.toList_append,List.take_append_of_le_length (by rw [aI2,size_zeroCells,hzs];exact aJ1 _),aJ9 (by rw [aI2,size_zeroCells,hzs];exact aJ1 _)]
 refine ee (R:=λu w''=>u=V9/\w''=W9) h (by
  unfold dp
  simp only [execOp,resolve,invoke,builtin,aL7,aL8,aH9,List.map_toArray,List.map_cons,List.map_nil,h.ev hx,h.ev hy,hr9]
  first|exact ⟨rfl,rfl⟩|exact ⟨trivial,rfl⟩|exact ⟨trivial,trivial⟩|trivial) hd λa' w'' u ⟨e1,e2⟩ hs=>?_
 subst e1;subst e2
 exact k _ _ _ _ hs hE9 hO9
end
theorem wR {H:Type} {enc:TypeId × Value->H} {P:Program} {w:World} {base:Nat} {spare:Nat->Bool} {held:Bool} {t tn ti e:TypeId} {f0 f1 f2:Field} {fuel:Nat} {cs:List Value} {x:DataW H × List MemPlace} (T:IdTy P ti e) (hc:P.cellsOf ti=32) (hce:P.cellsOf e=1) (hn:P.underlying tn=some (.int .i64)) (hcn:P.cellsOf tn=1)
 (ht:P.underlying t=some (.struct #[f0,f1,f2])) (h0:f0.type=tn) (h1:f1.type=ti) (h2:f2.type=tn) (o0:f0.offset=0) (o1:f1.offset=1) (o2:f2.offset=33) (hct:P.cellsOf t=34) (h:DataW.trod enc P w base spare held fuel t cs=some x):∃ l:dN,cs=(cG l).toList:=by
 obtain ⟨xs,n,rfl,_,hl,hxl,hel⟩:=DataW.trod_struct ht h
 rw [hct] at hl
 have hx2:xs.length=3:=by simpa using hxl
 have e0:=hel 0 f0 rfl
 have e1:=hel 1 f1 rfl
 have e2:=hel 2 f2 rfl
 rw [h0,o0,hcn,aH8 (by omega)] at e0
 rw [h1,o1,hc,aH8 (by omega)] at e1
 rw [h2,o2,hcn,aH8 (by omega)] at e2
 obtain ⟨k,hk,_⟩:=DataW.trod_int hn e0
 obtain ⟨a,ha⟩:=ky T hc hce e1
 obtain ⟨h9,hh,_⟩:=DataW.trod_int hn e2
 refine ⟨(k,a,h9),?_⟩
 rw [f7,← ha]
 have hdrop:cs.drop 33=[Value.int .i64 h9]:=by
  rw [aJ9 (by rw [aK2];omega)] at hh
  exact hh
 have hsplit:cs=(cs.drop 0).take 1++((cs.drop 1).take 32++cs.drop 33):=by
  rw [List.drop_zero,show cs.drop 33=(cs.drop 1).drop 32 from by rw [List.drop_drop],aJ7,aJ7]
 rw [hk,hdrop] at hsplit
 exact hsplit
theorem RC (e:dN) (h:e.1=1):pZ e=decide (e.2.2=0):=by
 unfold pZ;rw [h];simp
theorem xG (e:dN) (h:e.1=2):pZ e=(decide (e.2.1=0#256) && decide (0<=e.2.2) && decide (e.2.2<16)):=by
 unfold pZ;rw [h];simp
theorem Ok (e:dN) (h:¬ e.1=1) (h2:¬ e.1=2):pZ e=false:=by
 unfold pZ;simp [h,h2]
theorem qD {x:Option Value} {a b:Bool} (h:x=some (.bool a)) (e:a=b):x=some (.bool b):=e▸h
theorem Va {l:List dN} {k:Nat} (hk:k<l.length) (hc:(!pZ l[k])=true):false=l.all pZ:=by
 symm
 rw [List.all_eq_false]
 exact ⟨l[k],aN1 hk,by simpa using hc⟩
theorem Pr {l:List dN} {k:Nat} (hk:l.length<=k) (h:∀ i (hi:i<l.length),i<k->pZ l[i]=true):true=l.all pZ:=by
 symm
 rw [aH6]
 intro x hx
 obtain ⟨i,hi,e⟩:=aN2 hx
 rw [← e];exact h i hi (by omega)
theorem NL {e:dN} (h:pZ e=true):e.1=1∨e.1=2:=by
 rcases (xn e).1 h with h|h
 ·exact .inl h.1
 ·exact .inr h.1
theorem Oz {e:dN} (h:pZ e=true) (h1:¬ e.1=1):e.1=2/\e.2.1=0#256/\0<=e.2.2/\e.2.2<16:=by
 rcases (xn e).1 h with h|h
 ·exact aO7 h.1 h1
 ·exact h
theorem XE {l:List dN} {k:Nat} (hk:k<l.length) (h1:l[k].1=1):j6 (g8 l k)++[Value.int .u8 ((l[k].1.toNat:Nat):Int)].flatMap (λv=>v.cells.toList)++(aH l[k].2.1).toList=j6 (g8 l (k+1)):=by
 rw [lu l k hk,← iI,aM3]
 refine aH3 (j6 (g8 l k)++·) ?_
 unfold kg
 rw [if_pos h1,h1,xa]
 rfl
theorem Vh {l:List dN} {k:Nat} (hk:k<l.length) (h1:l[k].1=1):(g8 l k).length+1+32=(g8 l (k+1)).length:=by
 rw [lu l k hk,aH7]
 unfold kg
 rw [if_pos h1,aK5,n5]
theorem U8 {l:List dN} {k:Nat} (hk:k<l.length) (h1:l[k].1=2):j6 (g8 l k)++[Value.int .u8 ((l[k].1.toNat:Nat):Int)].flatMap (λv=>v.cells.toList)++[Value.int .u8 ((l[k].2.2.toNat:Nat):Int)].flatMap (λv=>v.cells.toList)=j6 (g8 l (k+1)):=by
 rw [lu l k hk,← iI,aM3]
 refine aH3 (j6 (g8 l k)++·) ?_
 unfold kg
 rw [if_neg (by omega),h1]
 rfl
theorem UY {l:List dN} {k:Nat} (hk:k<l.length) (h1:l[k].1=2):(g8 l k).length+1+1=(g8 l (k+1)).length:=by
 rw [lu l k hk,aH7]
 unfold kg
 rw [if_neg (by omega)]
 rfl
def pT (l:List dN):ByteArray:=if dQ l=true then An l else ⟨#[]⟩
def Bg (l:List dN):Int:=if dQ l=true then 0 else 1
theorem eh (w:World) (base:Nat) (e:TypeId) (sz:Nat):cF w base e sz (.slice none 0 0) 0 []:=⟨by simp,.inl ⟨rfl,rfl⟩⟩
section
variable {t:ByteArray}
end
theorem St.recell {w0 w:World} {B:List Own} {b:Nat} {C D:Array Value} {u:TypeId} (s:St w0 B w) (i:Nat) (hi:B[i]? = some (.blk b (.cells C u))) (e:C=D):St w0 (B.set i (.blk b (.cells D u))) w:=by
 subst e
 have:B.set i (.blk b (.cells C u))=B:=by
  apply List.ext_getElem?
  intro j
  by_cases h:i=j
  ·subst h
   have hl:=(aH4.1 hi).1
   rw [List.getElem?_set_self hl,hi]
  ·rw [List.getElem?_set_ne h]
 rw [this];exact s
section
variable {P:Program} {ρ:Operand->Value} {d:Option Tmp} {ty:TypeId} {pos:String} {af:Array Edge} {g:Option (Nat × Bool)} {x y:Operand} {t:TypeId}
end
theorem r6 {vs:List Value} {k:Nat} (h:k<vs.length):vs[k]? = some (vs.getD k undef):=by
 rw [aJ6,aH8 h];rfl
theorem Fj {l:List dN} (h:dQ l=true):pT l=An l:=by unfold pT;rw [if_pos h]
end Go.Proofs.YthmlflaiidhoiaaGreatDoor
