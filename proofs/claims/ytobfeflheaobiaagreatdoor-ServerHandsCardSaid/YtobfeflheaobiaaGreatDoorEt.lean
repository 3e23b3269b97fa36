/- Entries, stacks and their bytes: what may be, what is written, what is read; slices of entries; no Go in it. -/
import Derived.Lib.AppendZeros
import Derived.Deep.Slices
import Derived.Test.YtobfeflheaobiaaGreatDoorPr
set_option linter.unusedVariables false
set_option linter.unusedSimpArgs false
set_option linter.unusedSectionVars false
namespace Go.Proofs.YtobfeflheaobiaaGreatDoor
open Go.RowKit
abbrev cw:=Int × Id × Int
def bc (e:cw):Array Value:=(Value.int .i64 e.1::((aw e.2.1).toList++[.int .i64 e.2.2])).toArray
theorem aK (e:cw):(bc e).size=34:=by simp [bc]
theorem dP (e:cw):(bc e).toList=Value.int .i64 e.1::((aw e.2.1).toList++[.int .i64 e.2.2]):=rfl
theorem fO (e:cw):∀ v∈(bc e).toList,v.oneCell'=true:=fun v hv=>by
 rw [dP] at hv
 rcases List.mem_cons.1 hv with rfl|hv
 ·simp [Value.oneCell',Value.cells]
 ·rcases List.mem_append.1 hv with hv|hv
  ·rw [dF] at hv;exact bM _ _ v hv
  ·rw [List.mem_singleton] at hv;subst hv;simp [Value.oneCell',Value.cells]
theorem dC (e:cw):(bc e)[0]? = some (.int .i64 e.1):=rfl
theorem df (e:cw):(bc e)[33]? = some (.int .i64 e.2.2):=by
 rw [← Array.getElem?_toList,dP,List.getElem?_cons_succ,List.getElem?_append_right (by simp)]
 simp
theorem gh (e:cw):(bc e).extract 1 (1+32)=aw e.2.1:=by
 apply Array.ext'
 rw [Array.toList_extract,List.extract_eq_take_drop,dP]
 simp
theorem r6 {x y:cw} (h:(bc x).toList=(bc y).toList):x=y:=by
 have h':=Array.toList_inj.1 h
 have h0:=dC x;rw [h',dC] at h0
 have h1:=df x;rw [h',df] at h1
 have h2:=gh x;rw [h',gh] at h2
 simp at h0 h1
 have h3:=oT h2
 exact Prod.ext h0.symm (Prod.ext h3.symm h1.symm)
theorem FE (x y:cw):decide (x=y)=true↔(bc x).toList=(bc y).toList:=by
 rw [decide_eq_true_eq];exact ⟨fun h=>by rw [h],r6⟩
def bB (l:List cw):List Value:=l.flatMap fun e=>(bc e).toList
theorem tr (l r:List cw):bB (l++r)=bB l++bB r:=List.flatMap_append
theorem na (e:cw):bB [e]=(bc e).toList:=by simp [bB]
theorem qL (l:List cw):∀ u∈bB l,u.oneCell'=true:=fun u hu=>by
 obtain ⟨x,_,hx⟩:=List.mem_flatMap.1 hu
 exact fO x u hx
theorem G2 (l:List cw) (j:Nat) (hj:j<l.length):(((bB l).drop (j*34)).take 34).toArray=bc l[j]:=by
 unfold bB
 rw [iO _ 34 (fun x=>by rw [Array.length_toList,aK]) l j hj]
def eR (e:cw):Bool:=(decide (e.1=1) && decide (e.2.2=0)) || (decide (e.1=2) && decide (e.2.1=0#256) && decide (0≤e.2.2) && decide (e.2.2<16))
def iH (l:List cw):Bool:=decide (0<l.length) && decide (l.length≤4) && l.all eR
theorem kB (e:cw):eR e=true↔(e.1=1∧e.2.2=0)∨(e.1=2∧e.2.1=0#256∧0≤e.2.2∧e.2.2<16):=by
 unfold eR;simp [and_assoc]
theorem nN (l:List cw):iH l=true↔0<l.length∧l.length≤4∧∀ e∈l,eR e=true:=by
 unfold iH;rw [Bool.and_eq_true,Bool.and_eq_true,decide_eq_true_eq,decide_eq_true_eq,List.all_eq_true,and_assoc]
def zB (a:Id) (k:Nat):Bool:=(List.range k).all fun i=>decide (aS a i=0)
theorem mE (a:Id) (k:Nat):zB a (k+1)=(zB a k && decide (aS a k=0)):=by
 unfold zB;rw [List.range_succ,List.all_append];simp
theorem sh (i:Nat):aS 0#256 i=0:=by unfold aS fG;simp
theorem sR (a:Id):zB a 32=decide (a=0#256):=by
 rw [Bool.eq_iff_iff,decide_eq_true_eq]
 unfold zB
 rw [List.all_eq_true]
 constructor
 ·intro h
  refine pB fun i hi=>?_
  rw [sh]
  exact of_decide_eq_true (h i (List.mem_range.2 hi))
 ·intro h i _
  rw [h,sh];rfl
def Kp (a:Id):List Nat:=(List.range 32).map (aS a)
def JN (e:cw):List Nat:=if e.1=1 then 1::Kp e.2.1 else [2,e.2.2.toNat]
def B7 (t:ByteArray):Int × cw × Nat:=
 if t.size=0 then (3,(0,0#256,0),0)
 else if sb t 0=1 then
  if t.size<33 then (3,(0,0#256,0),0) else (0,(1,qG fun i=>sb t (1+i),0),33)
 else if sb t 0=2 then
  if t.size<2 then (3,(0,0#256,0),0) else if 16≤sb t 1 then (5,(0,0#256,0),0) else (0,(2,0#256,(sb t 1:Int)),2)
 else (5,(0,0#256,0),0)
def sr (s:ByteArray) (n:Nat):ByteArray:=s.extract n s.size
def BV (s:ByteArray):Nat→Int × List cw × Nat
 |0=>(0,[],1)
 |k+1=>if (BV s k).1=0 then
  if (B7 (sr s (BV s k).2.2)).1=0 then (0,(BV s k).2.1++[(B7 (sr s (BV s k).2.2)).2.1],(BV s k).2.2+(B7 (sr s (BV s k).2.2)).2.2)
  else ((B7 (sr s (BV s k).2.2)).1,[],0)
  else BV s k
def xZ (s:ByteArray):Int × List cw × Nat:=
 if s.size=0 then (3,[],0) else if sb s 0<1∨4<sb s 0 then (5,[],0) else BV s (sb s 0)
def fH (l f:List cw):Int:=if (f.all eR && l.all eR)=true then if f.length+l.length>4 then 12 else 0 else 1
def ia (l f:List cw):List cw:=if fH l f=0 then f++l else []
end Go.Proofs.YtobfeflheaobiaaGreatDoor
namespace Go.Proofs.YtobfeflheaobiaaGreatDoor
open Go.RowKit Go.ChangeShapes Go.WideShapes Go.ChangeAt
theorem EqV.up {P:Program} {D:Nat} {e:TypeId} {sz:Nat} {V:List Value→Prop} {vl:List Value→Value} (E:EqV P D e sz V vl):EqV P (D+1) e sz V vl:=
 ⟨E.len,E.size,E.part,fun d xs ys w hx hy=>by
  have:=E.eq (d+1) xs ys w hx hy
  rwa [show d+(D+1)=d+1+D from by omega]⟩
theorem vS (e:cw):((bc e).toList.drop 0).take 1=[Value.int .i64 e.1]:=rfl
theorem uA (e:cw):((bc e).toList.drop 1).take 32=(aG (aS e.2.1) 32).toList:=by
 rw [dP,List.drop_succ_cons,List.drop_zero,List.take_append_of_le_length (by simp),List.take_of_length_le (by simp),dF]
theorem uR (e:cw):((bc e).toList.drop 33).take 1=[Value.int .i64 e.2.2]:=by
 rw [dP,List.drop_succ_cons,List.drop_append,List.drop_eq_nil_of_le (by simp)]
 simp
theorem eV:bc (0,0#256,0)=(Value.int .i64 0::(List.replicate 32 (Value.int .u8 0)++[.int .i64 0])).toArray:=by
 unfold bc;rw [eY];rfl
section
variable {P:Program} {a:Act} {w w0:World} {N:Nat} {L:List (Nat × Value)} {B:List Own} {fn:Func} {T:bY}
theorem wk {t u v:Tmp} {V U X:Value} (hr:fn.results=#[.tmp t,.tmp u,.tmp v]) (h:Sl N a L) (s:St w0 B w) (hv:lk L t=some V) (hu:lk L u=some U) (hx:lk L v=some X) (hT:T (.tuple #[V,U,X]) w):bodyPost P fn (bT w0 T) .ret a w:=
 ⟨h.defers,.tuple #[V,U,X],by rw [results_tmp3 hr,h.holds t V hv,h.holds u U hu,h.holds v X hx],_,rfl,hT,s.ext⟩
theorem bs {p q r t:Tmp} {b n:Nat} {C:Array Value} {u:TypeId} {V U:Value} (i:Nat) (hres:fn.results=#[.cell p t,.tmp q,.tmp r]) (h:Sl N a L) (s:St w0 B w) (hr:Row P t n) (hp:lk L p=some (.pointer (some ⟨b,0,none⟩))) (hi:B[i]? = some (.blk b (.cells C u))) (hn:C.size=n)
 (hq:lk L q=some V) (hu:lk L r=some U) (hT:T (.tuple #[.agg C,V,U]) w):bodyPost P fn (bT w0 T) .ret a w:=by
 refine ⟨h.defers,.tuple #[.agg C,V,U],?_,_,rfl,hT,s.ext⟩
 have hp':a.tmps[p]?.getD undef=.pointer (some ⟨b,0,none⟩):=by simpa using h.holds p _ hp
 have hq':a.tmps[q]?.getD undef=V:=by simpa using h.holds q _ hq
 have hu':a.tmps[r]?.getD undef=U:=by simpa using h.holds r _ hu
 simp [results,hres,hp',hq',hu',asAddr,dJ hr w b C u (0,0) (s.get i hi) hn]
end
section
variable {P:Program} {ρ:Operand→Value} {d:Option Tmp} {ty:TypeId} {pos:String} {af:Array Edge} {g:Option (Nat × Bool)} {x y:Operand} {t t' e:TypeId} {k:IntKind} {m n:Int}
def eZ:List (List Value):=[[.int .i64 0],List.replicate 32 (.int .u8 0),[.int .i64 0]]
theorem eF (S:Stt P t eZ):aD P ⟨d,.build t #[],ty,pos,af,g⟩ ρ (.agg (bc (0,0#256,0))):=by
 have:=aW (P:=P) (ρ:=ρ) (d:=d) (ty:=ty) (pos:=pos) (af:=af) (g:=g) (parts:=#[]) S [] (by simp) (fun i v hm=>by simp at hm) (D:=(bc (0,0#256,0)).toList) (by rw [eV];rfl)
 simpa using this
theorem qY {q r:Int} (S:Stt P t eZ) (hx:ρ x=.int .i64 q) (hy:ρ y=.int .i64 r):aD P ⟨d,.build t #[(0,x),(2,y)],ty,pos,af,g⟩ ρ (.agg (bc (q,0#256,r))):=by
 have:=aW (P:=P) (ρ:=ρ) (d:=d) (ty:=ty) (pos:=pos) (af:=af) (g:=g) (parts:=#[(0,x),(2,y)]) S [(0,.int .i64 q),(2,.int .i64 r)] (by simp [hx,hy]) (fun i v hm=>by
  simp at hm
  rcases hm with ⟨rfl,rfl⟩|⟨rfl,rfl⟩
  ·exact ⟨_,rfl,rfl⟩
  ·exact ⟨_,rfl,rfl⟩) (D:=(bc (q,0#256,r)).toList) (by rw [dP,eY];rfl)
 simpa using this
theorem gZ (ht:P.underlying t=some (.slice e)) (hx:ρ x=.slice none 0 0):aD P ⟨d,.call {callee:=.builtin .cap,args:=#[x],argTypes:=#[t]},ty,pos,af,g⟩ ρ (.int .i64 0):=fun w=>by
 simp [execOp,resolve,invoke,builtin,hx,Sem.run_bind,run_underlying ht,Builtin.cap_,goInt]
theorem kN {sz:Nat} (ht:P.underlying t=some (.slice e)) (he:(P.info? e).map (·.size)=some sz) (hx:ρ x=.slice none 0 0) (hy:ρ y=.int .i64 0):aD P ⟨d,.slice t x none (some y) none,ty,pos,af,g⟩ ρ (.slice none 0 0):=fun w=>by
 simp [execOp,hx,hy,Instr.sliceAt,Instr.slice,Instr.sliceBounds,Instr.sliceBound,asIntOf,Sem.run_bind,run_underlying ht,Instr.sureAddr,ci he]
theorem jt {sz n:Nat} {v:Value} {w0:World} {base:Nat} {u:TypeId} {xs:List Value} (hO:cb w0 base u sz v n xs) (ht:P.underlying t=some (.slice e)) (he:(P.info? e).map (·.size)=some sz) (hx:ρ x=v) (hy:ρ y=.int .i64 0):aD P ⟨d,.slice t x none (some y) none,ty,pos,af,g⟩ ρ (dE v 0):=by
 have h1:=eK (P:=P) (ρ:=ρ) (d:=d) (ty:=ty) (pos:=pos) (af:=af) (g:=g) (bK.of_own hO) 0 ht he hx hy rfl (Nat.zero_le _)
 exact h1
theorem cb.cut0 {w:World} {base:Nat} {e:TypeId} {sz n:Nat} {v:Value} {xs:List Value} (h:cb w base e sz v n xs):cb w base e sz (dE v 0) 0 []:=by
 refine ⟨by simp,?_⟩
 rcases h.2 with ⟨rfl,_⟩|⟨g,cap,cur,fz,rfl,h1,h2,h3,h4,h5,h6,_⟩
 ·exact .inl ⟨rfl,rfl⟩
 ·exact .inr ⟨g,cap,cur,fz,rfl,h1,h2,h3,Nat.zero_le _,h5,h6,by simp⟩
end
section
variable {P:Program} {ops:Array Oper} {Q:Act→World→Prop} {l:List Oper} {a:Act} {w w0:World} {N:Nat} {L:List (Nat × Value)} {Df:List Deferred} {B:List Own} {d:Tmp} {ty:TypeId} {pos:String} {af:Array Edge} {x y:Operand} {t t' e:TypeId}
theorem iy {sz by_ n base:Nat} {kn:IntKind} (h:Sl N a L Df) (ht:P.underlying t=some (.slice e)) (htn:P.underlying t'=some (.int kn)) (E:Elm P e sz by_) (hx:dw L x=some (.slice none 0 0)) (hy:dw L y=some (.int .i64 (n:Int))) (h0:0<n) (hb:n*by_≤140737488355328) (hb1:n≤1000000) (hbase:base≤w.heap.size) (hd:Nat.blt d N=true)
 (k:∀ a' w' v' xs,Sl N a' ((d,v')::L) Df→Ext w w'→cb w' base e sz v' n xs→bE P ops Q l a' w'):
 bE P ops Q (⟨some d,.call {callee:=.builtin .append,args:=#[x,y],argTypes:=#[t,t']},ty,pos,af,none⟩::l) a w:=by
 obtain ⟨i,z,hi,hz,rfl,rfl,hzs⟩:=E.info
 have hpos:=E.pos
 have hr:=Go.Lib.run_append_nil_zeros (P:=P) w t t' ty e i z .i64 kn ht htn hi hz n h0 hpos (by omega) (by omega)
 have hge:=grownCap_ge w n 0 e
 obtain ⟨V9,W9,hr9,hE9,hO9⟩:∃ V W,(Builtin.append_ #[t,t'] ty #[.slice none 0 0,.int .i64 (n:Int)]).run P w=.ok V W∧Ext w W∧cb W base e i.size V n (Builtin.zeroCells z.cells n).toList:=by
  refine ⟨_,_,hr,(Ext.refl w).drew.alloc _,by rw [Array.length_toList,size_zeroCells,hzs],.inr ⟨w.heap.size,grownCap w n 0 e,_,(0,0),rfl,hbase,heap_alloc_new w.drew _,.inl rfl,hge,grownCap_le_maxLen w _ 0 e (by unfold maxLen;omega),?_,?_⟩⟩
  ·simp only [Array.size_append,size_zeroCells,hzs]
   rw [← Nat.add_mul]
   congr 1
   omega
  ·rw [Array.toList_append,List.take_append_of_le_length (by rw [Array.length_toList,size_zeroCells,hzs];exact Nat.le_refl _),List.take_of_length_le (by rw [Array.length_toList,size_zeroCells,hzs];exact Nat.le_refl _)]
 refine cB (R:=fun u w''=>u=V9∧w''=W9) h (by
  unfold cf
  simp only [execOp,resolve,invoke,builtin,Sem.run_bind,Sem.run_pure,Result.andThen_ok,List.map_toArray,List.map_cons,List.map_nil,h.ev hx,h.ev hy,hr9]
  first|exact ⟨rfl,rfl⟩|exact ⟨trivial,rfl⟩|exact ⟨trivial,trivial⟩|trivial) hd fun a' w'' u ⟨e1,e2⟩ hs=>?_
 subst e1;subst e2
 exact k _ _ _ _ hs hE9 hO9
end
theorem xC {H:Type} {enc:TypeId × Value→H} {P:Program} {w:World} {base:Nat} {spare:Nat→Bool} {held:Bool} {t tn ti e:TypeId} {f0 f1 f2:Field} {fuel:Nat} {cs:List Value} {x:DataW H × List MemPlace} (T:IdTy P ti e) (hc:P.cellsOf ti=32) (hce:P.cellsOf e=1) (hn:P.underlying tn=some (.int .i64)) (hcn:P.cellsOf tn=1)
 (ht:P.underlying t=some (.struct #[f0,f1,f2])) (h0:f0.type=tn) (h1:f1.type=ti) (h2:f2.type=tn) (o0:f0.offset=0) (o1:f1.offset=1) (o2:f2.offset=33) (hct:P.cellsOf t=34) (h:DataW.trod enc P w base spare held fuel t cs=some x):∃ l:cw,cs=(bc l).toList:=by
 obtain ⟨xs,n,rfl,_,hl,hxl,hel⟩:=DataW.trod_struct ht h
 rw [hct] at hl
 have hx2:xs.length=3:=by simpa using hxl
 have e0:=hel 0 f0 rfl
 have e1:=hel 1 f1 rfl
 have e2:=hel 2 f2 rfl
 rw [h0,o0,hcn,List.getElem?_eq_getElem (by omega)] at e0
 rw [h1,o1,hc,List.getElem?_eq_getElem (by omega)] at e1
 rw [h2,o2,hcn,List.getElem?_eq_getElem (by omega)] at e2
 obtain ⟨k,hk,_⟩:=DataW.trod_int hn e0
 obtain ⟨a,ha⟩:=rM T hc hce e1
 obtain ⟨h9,hh,_⟩:=DataW.trod_int hn e2
 refine ⟨(k,a,h9),?_⟩
 rw [dP,← ha]
 have hdrop:cs.drop 33=[Value.int .i64 h9]:=by
  rw [List.take_of_length_le (by rw [List.length_drop];omega)] at hh
  exact hh
 have hsplit:cs=(cs.drop 0).take 1++((cs.drop 1).take 32++cs.drop 33):=by
  rw [List.drop_zero,show cs.drop 33=(cs.drop 1).drop 32 from by rw [List.drop_drop],List.take_append_drop,List.take_append_drop]
 rw [hk,hdrop] at hsplit
 exact hsplit
theorem pF (e:cw) (h:e.1=1):eR e=decide (e.2.2=0):=by
 unfold eR;rw [h];simp
theorem i3 (e:cw) (h:e.1=2):eR e=(decide (e.2.1=0#256) && decide (0≤e.2.2) && decide (e.2.2<16)):=by
 unfold eR;rw [h];simp
theorem qE (e:cw) (h:¬ e.1=1) (h2:¬ e.1=2):eR e=false:=by
 unfold eR;simp [h,h2]
theorem fh {x:Option Value} {a b:Bool} (h:x=some (.bool a)) (e:a=b):x=some (.bool b):=e▸h
theorem Ew {l:List cw} {k:Nat} (hk:k<l.length) (hc:(!eR l[k])=true):false=l.all eR:=by
 symm
 rw [List.all_eq_false]
 exact ⟨l[k],List.getElem_mem hk,by simpa using hc⟩
theorem Do {l:List cw} {k:Nat} (hk:l.length≤k) (h:∀ i (hi:i<l.length),i<k→eR l[i]=true):true=l.all eR:=by
 symm
 rw [List.all_eq_true]
 intro x hx
 obtain ⟨i,hi,e⟩:=List.getElem_of_mem hx
 rw [← e];exact h i hi (by omega)
theorem Am {e:cw} (h:eR e=true) (h1:¬ e.1=1):e.1=2∧e.2.1=0#256∧0≤e.2.2∧e.2.2<16:=by
 rcases (kB e).1 h with h|h
 ·exact absurd h.1 h1
 ·exact h
theorem km (w:World) (base:Nat) (e:TypeId) (sz:Nat):cb w base e sz (.slice none 0 0) 0 []:=⟨by simp,.inl ⟨rfl,rfl⟩⟩
section
variable {t:ByteArray}
end
theorem St.recell {w0 w:World} {B:List Own} {b:Nat} {C D:Array Value} {u:TypeId} (s:St w0 B w) (i:Nat) (hi:B[i]? = some (.blk b (.cells C u))) (e:C=D):St w0 (B.set i (.blk b (.cells D u))) w:=by
 subst e
 have:B.set i (.blk b (.cells C u))=B:=by
  apply List.ext_getElem?
  intro j
  by_cases h:i=j
  ·subst h
   have hl:=(List.getElem?_eq_some_iff.1 hi).1
   rw [List.getElem?_set_self hl,hi]
  ·rw [List.getElem?_set_ne h]
 rw [this];exact s
section
variable {P:Program} {ρ:Operand→Value} {d:Option Tmp} {ty:TypeId} {pos:String} {af:Array Edge} {g:Option (Nat × Bool)} {x y:Operand} {t:TypeId}
end
theorem mM {vs:List Value} {k:Nat} (h:k<vs.length):vs[k]? = some (vs.getD k undef):=by
 rw [List.getD_eq_getElem?_getD,List.getElem?_eq_getElem h];rfl
theorem ow (ls:List (List cw)) (k:Nat) (h:k<ls.length):(ls.take (k+1)).flatten=(ls.take k).flatten++ls.getD k []:=by
 rw [List.take_succ_eq_append_getElem h,List.flatten_append,List.getD_eq_getElem?_getD,List.getElem?_eq_getElem h];simp
theorem m6 (ls:List (List cw)) (k:Nat) (h:k<ls.length):(ls.take k).flatten.length+(ls.getD k []).length=(ls.take (k+1)).flatten.length:=by
 rw [ow ls k h,List.length_append]
theorem sZ (ls:List (List cw)) (k:Nat) (h:k<ls.length):bB (ls.take k).flatten++bB (ls.getD k [])=bB (ls.take (k+1)).flatten:=by
 rw [ow ls k h,tr]
theorem uQ (ls:List (List cw)) (k:Nat):(ls.take k).flatten.length≤ls.flatten.length:=by
 have h:=congrArg (fun l=>(List.flatten l).length) (List.take_append_drop k ls)
 simp only [List.flatten_append,List.length_append] at h
 omega
theorem kU {w:World} {v:Value} {sz n:Nat} {xs:List Value} (h:bK w v sz n xs):v.cells=#[v]:=by
 obtain ⟨a,c,rfl⟩:=h.len;rfl
theorem zQ {v u:Value} (hv:v.cells=#[v]) (hu:u.cells=#[u]):[v,u].flatMap (fun x=>x.cells.toList)=[v,u]:=by simp [hv,hu]
theorem EL {w:World} {v u:Value} {l m:List cw} (hv:bK w v 34 l.length (bB l)) (hu:bK w u 34 m.length (bB m)):∀ k,k<[v,u].length→bK w ([v,u].getD k undef) 34 (([l,m]:List (List cw)).getD k []).length (bB (([l,m]:List (List cw)).getD k []))
 |0,_=>hv
 |1,_=>hu
 |k+2,h=>absurd h (by simp only [List.length_cons,List.length_nil];omega)
theorem C6 {l f:List cw} (h:f.all eR=false):fH l f=1:=by unfold fH;rw [h];rfl
theorem CW {l f:List cw} (h:l.all eR=false):fH l f=1:=by unfold fH;rw [h,Bool.and_false];rfl
theorem yd {l f:List cw} (hf:f.all eR=true) (hl:l.all eR=true) (h:(4:Int)<((f.length:Nat):Int)+((l.length:Nat):Int)):fH l f=12:=by
 unfold fH;rw [hf,hl,if_pos (show (true && true)=true from rfl),if_pos (by omega)]
theorem pI {l f:List cw} (hf:f.all eR=true) (hl:l.all eR=true) (h:¬ (4:Int)<((f.length:Nat):Int)+((l.length:Nat):Int)):fH l f=0:=by
 unfold fH;rw [hf,hl,if_pos (show (true && true)=true from rfl),if_neg (by omega)]
theorem wr {l f:List cw} (h:fH l f=0):ia l f=f++l:=by unfold ia;rw [if_pos h]
theorem Dm {l f:List cw} {e:Int} (h:fH l f=e) (he:e≠0):ia l f=[]:=by unfold ia;rw [if_neg (by rw [h];exact he)]
theorem q7 {w:World} {base:Nat} {e:TypeId} {l f:List cw} {err:Int} {vs:Value} (h:fH l f=err) (hO:cb w base e 34 vs (ia l f).length (bB (ia l f))):
 ∃ v',Value.tuple #[vs,.int .i64 err]=.tuple #[v',.int .i64 (fH l f)]∧cb w base e 34 v' (ia l f).length (bB (ia l f)):=by
 rw [h];exact ⟨vs,rfl,hO⟩
theorem nO {w:World} {base:Nat} {e:TypeId} {l f:List cw} {err:Int} (h:fH l f=err) (he:err≠0):
 ∃ v',Value.tuple #[.slice none 0 0,.int .i64 err]=.tuple #[v',.int .i64 (fH l f)]∧cb w base e 34 v' (ia l f).length (bB (ia l f)):=
 q7 h (by rw [Dm h he];exact km _ _ _ _)
theorem t6 {w:World} {base:Nat} {e:TypeId} {v:Value} {ls:List (List cw)} {i:Nat} (hi:ls.length≤i) (h:cb w base e 34 v (ls.take i).flatten.length (bB (ls.take i).flatten)):cb w base e 34 v ls.flatten.length (bB ls.flatten):=by
 rwa [List.take_of_length_le hi] at h
end Go.Proofs.YtobfeflheaobiaaGreatDoor
