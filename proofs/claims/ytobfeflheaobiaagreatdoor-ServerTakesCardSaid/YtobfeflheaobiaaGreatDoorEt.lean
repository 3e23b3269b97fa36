/- Entries, stacks and their bytes: what may be, what is written, what is read; slices of entries; no Go in it. -/
import Derived.Lib.AppendZeros
import Derived.Deep.Slices
import Derived.Test.YtobfeflheaobiaaGreatDoorPr
set_option linter.unusedVariables false
set_option linter.unusedSimpArgs false
set_option linter.unusedSectionVars false
namespace Go.Proofs.YtobfeflheaobiaaGreatDoor
open Go.RowKit
abbrev cU:=Int × Id × Int
def bg (e:cU):Array Value:=(Value.int .i64 e.1::((aA e.2.1).toList++[.int .i64 e.2.2])).toArray
theorem aC (e:cU):(bg e).size=34:=by simp [bg]
theorem eS (e:cU):(bg e).toList=Value.int .i64 e.1::((aA e.2.1).toList++[.int .i64 e.2.2]):=rfl
theorem fD (e:cU):∀ v∈(bg e).toList,v.oneCell'=true:=fun v hv=>by
 rw [eS] at hv
 rcases List.mem_cons.1 hv with rfl|hv
 ·simp [Value.oneCell',Value.cells]
 ·rcases List.mem_append.1 hv with hv|hv
  ·rw [d4] at hv;exact bc _ _ v hv
  ·rw [List.mem_singleton] at hv;subst hv;simp [Value.oneCell',Value.cells]
theorem d7 (e:cU):(bg e)[0]? = some (.int .i64 e.1):=rfl
theorem dO (e:cU):(bg e)[33]? = some (.int .i64 e.2.2):=by
 rw [← Array.getElem?_toList,eS,List.getElem?_cons_succ,List.getElem?_append_right (by simp)]
 simp
theorem fR (e:cU):(bg e).extract 1 (1+32)=aA e.2.1:=by
 apply Array.ext'
 rw [Array.toList_extract,List.extract_eq_take_drop,eS]
 simp
theorem we {x y:cU} (h:(bg x).toList=(bg y).toList):x=y:=by
 have h':=Array.toList_inj.1 h
 have h0:=d7 x;rw [h',d7] at h0
 have h1:=dO x;rw [h',dO] at h1
 have h2:=fR x;rw [h',fR] at h2
 simp at h0 h1
 have h3:=rW h2
 exact Prod.ext h0.symm (Prod.ext h3.symm h1.symm)
theorem BR (x y:cU):decide (x=y)=true↔(bg x).toList=(bg y).toList:=by
 rw [decide_eq_true_eq];exact ⟨fun h=>by rw [h],we⟩
theorem NR (x y:cU):decide (x=y)=true↔(bg x).toList=(bg y).toList:=BR x y
def br (l:List cU):List Value:=l.flatMap fun e=>(bg e).toList
theorem xK (l:List cU):(br l).length=l.length*34:=jC _ 34 (fun x=>by rw [Array.length_toList,aC]) l
theorem rh (l r:List cU):br (l++r)=br l++br r:=List.flatMap_append
theorem nb (e:cU):br [e]=(bg e).toList:=by simp [br]
theorem lA (l:List cU):∀ u∈br l,u.oneCell'=true:=fun u hu=>by
 obtain ⟨x,_,hx⟩:=List.mem_flatMap.1 hu
 exact fD x u hx
theorem CZ (l:List cU) (j:Nat) (hj:j<l.length):(((br l).drop (j*34)).take 34).toArray=bg l[j]:=by
 unfold br
 rw [lS _ 34 (fun x=>by rw [Array.length_toList,aC]) l j hj]
theorem ym {w:World} {v:Value} {ls:List cU} (h:bI w v 34 ls.length (br ls)) (k:Nat) (hk:k≤ls.length):bI w (dQ v k) 34 (ls.take k).length (br (ls.take k)):=by
 have:=h.cut k hk
 unfold br at this
 rw [kA _ 34 (fun x=>by rw [Array.length_toList,aC])] at this
 rw [List.length_take,Nat.min_eq_left hk]
 exact this
def fK (e:cU):Bool:=(decide (e.1=1) && decide (e.2.2=0)) || (decide (e.1=2) && decide (e.2.1=0#256) && decide (0≤e.2.2) && decide (e.2.2<16))
def gi (l:List cU):Bool:=decide (0<l.length) && decide (l.length≤4) && l.all fK
theorem np (e:cU):fK e=true↔(e.1=1∧e.2.2=0)∨(e.1=2∧e.2.1=0#256∧0≤e.2.2∧e.2.2<16):=by
 unfold fK;simp [and_assoc]
theorem kx (l:List cU):gi l=true↔0<l.length∧l.length≤4∧∀ e∈l,fK e=true:=by
 unfold gi;rw [Bool.and_eq_true,Bool.and_eq_true,decide_eq_true_eq,decide_eq_true_eq,List.all_eq_true,and_assoc]
def zB (a:Id) (k:Nat):Bool:=(List.range k).all fun i=>decide (bz a i=0)
theorem pP (a:Id) (k:Nat):zB a (k+1)=(zB a k && decide (bz a k=0)):=by
 unfold zB;rw [List.range_succ,List.all_append];simp
theorem vU (i:Nat):bz 0#256 i=0:=by unfold bz lf;simp
theorem xD (a:Id):zB a 32=decide (a=0#256):=by
 rw [Bool.eq_iff_iff,decide_eq_true_eq]
 unfold zB
 rw [List.all_eq_true]
 constructor
 ·intro h
  refine wT fun i hi=>?_
  rw [vU]
  exact of_decide_eq_true (h i (List.mem_range.2 hi))
 ·intro h i _
  rw [h,vU];rfl
def Mm (a:Id):List Nat:=(List.range 32).map (bz a)
theorem xv (a:Id):(Mm a).length=32:=by simp [Mm]
def AQ (e:cU):List Nat:=if e.1=1 then 1::Mm e.2.1 else [2,e.2.2.toNat]
def Ik (l:List cU):List Nat:=l.length::l.flatMap AQ
theorem oX (e:cU):(AQ e).length≤33∧2≤(AQ e).length:=by
 unfold AQ;split
 ·simp [Mm]
 ·simp
theorem A0 (l:List cU):(l.flatMap AQ).length≤33*l.length:=by
 induction l with
 |nil=>simp
 |cons e l ih=>have:=(oX e).1;rw [List.flatMap_cons,List.length_append,List.length_cons];omega
def Gp (t:ByteArray):Int × cU × Nat:=
 if t.size=0 then (3,(0,0#256,0),0)
 else if sb t 0=1 then
  if t.size<33 then (3,(0,0#256,0),0) else (0,(1,yd fun i=>sb t (1+i),0),33)
 else if sb t 0=2 then
  if t.size<2 then (3,(0,0#256,0),0) else if 16≤sb t 1 then (5,(0,0#256,0),0) else (0,(2,0#256,(sb t 1:Int)),2)
 else (5,(0,0#256,0),0)
def uW (s:ByteArray) (n:Nat):ByteArray:=s.extract n s.size
def Fp (s:ByteArray):Nat→Int × List cU × Nat
 |0=>(0,[],1)
 |k+1=>if (Fp s k).1=0 then
  if (Gp (uW s (Fp s k).2.2)).1=0 then (0,(Fp s k).2.1++[(Gp (uW s (Fp s k).2.2)).2.1],(Fp s k).2.2+(Gp (uW s (Fp s k).2.2)).2.2)
  else ((Gp (uW s (Fp s k).2.2)).1,[],0)
  else Fp s k
def B0 (s:ByteArray):Int × List cU × Nat:=
 if s.size=0 then (3,[],0) else if sb s 0<1∨4<sb s 0 then (5,[],0) else Fp s (sb s 0)
def iy (l f:List cU):Int:=if (f.all fK && l.all fK)=true then if f.length+l.length>4 then 12 else 0 else 1
def ld (l f:List cU):List cU:=if iy l f=0 then f++l else []
end Go.Proofs.YtobfeflheaobiaaGreatDoor
namespace Go.Proofs.YtobfeflheaobiaaGreatDoor
open Go.RowKit Go.ChangeShapes Go.WideShapes Go.ChangeAt
theorem EqV.up {P:Program} {D:Nat} {e:TypeId} {sz:Nat} {V:List Value→Prop} {vl:List Value→Value} (E:EqV P D e sz V vl):EqV P (D+1) e sz V vl:=
 ⟨E.len,E.size,E.part,fun d xs ys w hx hy=>by
  have:=E.eq (d+1) xs ys w hx hy
  rwa [show d+(D+1)=d+1+D from by omega]⟩
theorem zR (e:cU):((bg e).toList.drop 0).take 1=[Value.int .i64 e.1]:=rfl
theorem zS (e:cU):((bg e).toList.drop 1).take 32=(aO (bz e.2.1) 32).toList:=by
 rw [eS,List.drop_succ_cons,List.drop_zero,List.take_append_of_le_length (by simp),List.take_of_length_le (by simp),d4]
theorem zw (e:cU):((bg e).toList.drop 33).take 1=[Value.int .i64 e.2.2]:=by
 rw [eS,List.drop_succ_cons,List.drop_append,List.drop_eq_nil_of_le (by simp)]
 simp
theorem gR:bg (0,0#256,0)=(Value.int .i64 0::(List.replicate 32 (Value.int .u8 0)++[.int .i64 0])).toArray:=by
 unfold bg;rw [gT];rfl
section
variable {P:Program} {a:Act} {w w0:World} {N:Nat} {L:List (Nat × Value)} {B:List Own} {fn:Func} {T:cW}
theorem cm {p q r t:Tmp} {b n:Nat} {C:Array Value} {u:TypeId} {V U:Value} (i:Nat) (hres:fn.results=#[.cell p t,.tmp q,.tmp r]) (h:Sl N a L) (s:St w0 B w) (hr:Row P t n) (hp:lk L p=some (.pointer (some ⟨b,0,none⟩))) (hi:B[i]? = some (.blk b (.cells C u))) (hn:C.size=n)
 (hq:lk L q=some V) (hu:lk L r=some U) (hT:T (.tuple #[.agg C,V,U]) w):bodyPost P fn (cp w0 T) .ret a w:=by
 refine ⟨h.defers,.tuple #[.agg C,V,U],?_,_,rfl,hT,s.ext⟩
 have hp':a.tmps[p]?.getD undef=.pointer (some ⟨b,0,none⟩):=by simpa using h.holds p _ hp
 have hq':a.tmps[q]?.getD undef=V:=by simpa using h.holds q _ hq
 have hu':a.tmps[r]?.getD undef=U:=by simpa using h.holds r _ hu
 simp [results,hres,hp',hq',hu',asAddr,ew hr w b C u (0,0) (s.get i hi) hn]
end
section
variable {P:Program} {ρ:Operand→Value} {d:Option Tmp} {ty:TypeId} {pos:String} {af:Array Edge} {g:Option (Nat × Bool)} {x y:Operand} {t t' e:TypeId} {k:IntKind} {m n:Int}
def eZ:List (List Value):=[[.int .i64 0],List.replicate 32 (.int .u8 0),[.int .i64 0]]
theorem gm (S:Stt P t eZ):aM P ⟨d,.build t #[],ty,pos,af,g⟩ ρ (.agg (bg (0,0#256,0))):=by
 have:=bb (P:=P) (ρ:=ρ) (d:=d) (ty:=ty) (pos:=pos) (af:=af) (g:=g) (parts:=#[]) S [] (by simp) (fun i v hm=>by simp at hm) (D:=(bg (0,0#256,0)).toList) (by rw [gR];rfl)
 simpa using this
theorem ur {q r:Int} (S:Stt P t eZ) (hx:ρ x=.int .i64 q) (hy:ρ y=.int .i64 r):aM P ⟨d,.build t #[(0,x),(2,y)],ty,pos,af,g⟩ ρ (.agg (bg (q,0#256,r))):=by
 have:=bb (P:=P) (ρ:=ρ) (d:=d) (ty:=ty) (pos:=pos) (af:=af) (g:=g) (parts:=#[(0,x),(2,y)]) S [(0,.int .i64 q),(2,.int .i64 r)] (by simp [hx,hy]) (fun i v hm=>by
  simp at hm
  rcases hm with ⟨rfl,rfl⟩|⟨rfl,rfl⟩
  ·exact ⟨_,rfl,rfl⟩
  ·exact ⟨_,rfl,rfl⟩) (D:=(bg (q,0#256,r)).toList) (by rw [eS,gT];rfl)
 simpa using this
theorem bI.has0 {w:World} {v:Value} {n:Nat} {xs:List Value} (h:bI w v 1 n xs) (h0:0<n) {D:Array Value} (hD:xs.toArray=D):aG w (dy v 0) D:=by
 rcases h.2 with ⟨_,h9⟩|⟨p,c,rfl,_,hH⟩
 ·omega
 ·have e:dy (.slice (Option.some p) n c) 0=p:=by simp [dy,Addr.add]
  rw [e,← hD];exact hH
theorem kB (ht:P.underlying t=some (.slice e)) (hx:ρ x=.slice none 0 0):aM P ⟨d,.call {callee:=.builtin .cap,args:=#[x],argTypes:=#[t]},ty,pos,af,g⟩ ρ (.int .i64 0):=fun w=>by
 simp [execOp,resolve,invoke,builtin,hx,Sem.run_bind,run_underlying ht,Builtin.cap_,goInt]
theorem ny {sz:Nat} (ht:P.underlying t=some (.slice e)) (he:(P.info? e).map (·.size)=some sz) (hx:ρ x=.slice none 0 0) (hy:ρ y=.int .i64 0):aM P ⟨d,.slice t x none (some y) none,ty,pos,af,g⟩ ρ (.slice none 0 0):=fun w=>by
 simp [execOp,hx,hy,Instr.sliceAt,Instr.slice,Instr.sliceBounds,Instr.sliceBound,asIntOf,Sem.run_bind,run_underlying ht,Instr.sureAddr,dt he]
theorem mD {sz n:Nat} {v:Value} {w0:World} {base:Nat} {u:TypeId} {xs:List Value} (hO:cB w0 base u sz v n xs) (ht:P.underlying t=some (.slice e)) (he:(P.info? e).map (·.size)=some sz) (hx:ρ x=v) (hy:ρ y=.int .i64 0):aM P ⟨d,.slice t x none (some y) none,ty,pos,af,g⟩ ρ (dQ v 0):=by
 have h1:=gv (P:=P) (ρ:=ρ) (d:=d) (ty:=ty) (pos:=pos) (af:=af) (g:=g) (bI.of_own hO) 0 ht he hx hy rfl (Nat.zero_le _)
 exact h1
theorem cB.cut0 {w:World} {base:Nat} {e:TypeId} {sz n:Nat} {v:Value} {xs:List Value} (h:cB w base e sz v n xs):cB w base e sz (dQ v 0) 0 []:=by
 refine ⟨by simp,?_⟩
 rcases h.2 with ⟨rfl,_⟩|⟨g,cap,cur,fz,rfl,h1,h2,h3,h4,h5,h6,_⟩
 ·exact .inl ⟨rfl,rfl⟩
 ·exact .inr ⟨g,cap,cur,fz,rfl,h1,h2,h3,Nat.zero_le _,h5,h6,by simp⟩
end
section
variable {P:Program} {ops:Array Oper} {Q:Act→World→Prop} {l:List Oper} {a:Act} {w w0:World} {N:Nat} {L:List (Nat × Value)} {Df:List Deferred} {B:List Own} {d:Tmp} {ty:TypeId} {pos:String} {af:Array Edge} {x y:Operand} {t t' e:TypeId}
theorem lG {sz by_ n base:Nat} {kn:IntKind} (h:Sl N a L Df) (ht:P.underlying t=some (.slice e)) (htn:P.underlying t'=some (.int kn)) (E:Elm P e sz by_) (hx:eu L x=some (.slice none 0 0)) (hy:eu L y=some (.int .i64 (n:Int))) (h0:0<n) (hb:n*by_≤140737488355328) (hb1:n≤1000000) (hbase:base≤w.heap.size) (hd:Nat.blt d N=true)
 (k:∀ a' w' v' xs,Sl N a' ((d,v')::L) Df→Ext w w'→cB w' base e sz v' n xs→bX P ops Q l a' w'):
 bX P ops Q (⟨some d,.call {callee:=.builtin .append,args:=#[x,y],argTypes:=#[t,t']},ty,pos,af,none⟩::l) a w:=by
 obtain ⟨i,z,hi,hz,rfl,rfl,hzs⟩:=E.info
 have hpos:=E.pos
 have hr:=Go.Lib.run_append_nil_zeros (P:=P) w t t' ty e i z .i64 kn ht htn hi hz n h0 hpos (by omega) (by omega)
 have hge:=grownCap_ge w n 0 e
 obtain ⟨V9,W9,hr9,hE9,hO9⟩:∃ V W,(Builtin.append_ #[t,t'] ty #[.slice none 0 0,.int .i64 (n:Int)]).run P w=.ok V W∧Ext w W∧cB W base e i.size V n (Builtin.zeroCells z.cells n).toList:=by
  refine ⟨_,_,hr,(Ext.refl w).drew.alloc _,by rw [Array.length_toList,size_zeroCells,hzs],.inr ⟨w.heap.size,grownCap w n 0 e,_,(0,0),rfl,hbase,heap_alloc_new w.drew _,.inl rfl,hge,grownCap_le_maxLen w _ 0 e (by unfold maxLen;omega),?_,?_⟩⟩
  ·simp only [Array.size_append,size_zeroCells,hzs]
   rw [← Nat.add_mul]
   congr 1
   omega
  ·rw [Array.toList_append,List.take_append_of_le_length (by rw [Array.length_toList,size_zeroCells,hzs];exact Nat.le_refl _),List.take_of_length_le (by rw [Array.length_toList,size_zeroCells,hzs];exact Nat.le_refl _)]
 refine dw (R:=fun u w''=>u=V9∧w''=W9) h (by
  unfold db
  simp only [execOp,resolve,invoke,builtin,Sem.run_bind,Sem.run_pure,Result.andThen_ok,List.map_toArray,List.map_cons,List.map_nil,h.ev hx,h.ev hy,hr9]
  first|exact ⟨rfl,rfl⟩|exact ⟨trivial,rfl⟩|exact ⟨trivial,trivial⟩|trivial) hd fun a' w'' u ⟨e1,e2⟩ hs=>?_
 subst e1;subst e2
 exact k _ _ _ _ hs hE9 hO9
end
theorem oD {H:Type} {enc:TypeId × Value→H} {P:Program} {w:World} {base:Nat} {spare:Nat→Bool} {held:Bool} {t tn ti e:TypeId} {f0 f1 f2:Field} {fuel:Nat} {cs:List Value} {x:DataW H × List MemPlace} (T:IdTy P ti e) (hc:P.cellsOf ti=32) (hce:P.cellsOf e=1) (hn:P.underlying tn=some (.int .i64)) (hcn:P.cellsOf tn=1)
 (ht:P.underlying t=some (.struct #[f0,f1,f2])) (h0:f0.type=tn) (h1:f1.type=ti) (h2:f2.type=tn) (o0:f0.offset=0) (o1:f1.offset=1) (o2:f2.offset=33) (hct:P.cellsOf t=34) (h:DataW.trod enc P w base spare held fuel t cs=some x):∃ l:cU,cs=(bg l).toList:=by
 obtain ⟨xs,n,rfl,_,hl,hxl,hel⟩:=DataW.trod_struct ht h
 rw [hct] at hl
 have hx2:xs.length=3:=by simpa using hxl
 have e0:=hel 0 f0 rfl
 have e1:=hel 1 f1 rfl
 have e2:=hel 2 f2 rfl
 rw [h0,o0,hcn,List.getElem?_eq_getElem (by omega)] at e0
 rw [h1,o1,hc,List.getElem?_eq_getElem (by omega)] at e1
 rw [h2,o2,hcn,List.getElem?_eq_getElem (by omega)] at e2
 obtain ⟨k,hk,_⟩:=DataW.trod_int hn e0
 obtain ⟨a,ha⟩:=qQ T hc hce e1
 obtain ⟨h9,hh,_⟩:=DataW.trod_int hn e2
 refine ⟨(k,a,h9),?_⟩
 rw [eS,← ha]
 have hdrop:cs.drop 33=[Value.int .i64 h9]:=by
  rw [List.take_of_length_le (by rw [List.length_drop];omega)] at hh
  exact hh
 have hsplit:cs=(cs.drop 0).take 1++((cs.drop 1).take 32++cs.drop 33):=by
  rw [List.drop_zero,show cs.drop 33=(cs.drop 1).drop 32 from by rw [List.drop_drop],List.take_append_drop,List.take_append_drop]
 rw [hk,hdrop] at hsplit
 exact hsplit
theorem sQ (e:cU) (h:e.1=1):fK e=decide (e.2.2=0):=by
 unfold fK;rw [h];simp
theorem mu (e:cU) (h:e.1=2):fK e=(decide (e.2.1=0#256) && decide (0≤e.2.2) && decide (e.2.2<16)):=by
 unfold fK;rw [h];simp
theorem vp (e:cU) (h:¬ e.1=1) (h2:¬ e.1=2):fK e=false:=by
 unfold fK;simp [h,h2]
theorem d5 {x:Option Value} {a b:Bool} (h:x=some (.bool a)) (e:a=b):x=some (.bool b):=e▸h
theorem CQ {l:List cU} {k:Nat} (hk:k<l.length) (hc:(!fK l[k])=true):false=l.all fK:=by
 symm
 rw [List.all_eq_false]
 exact ⟨l[k],List.getElem_mem hk,by simpa using hc⟩
theorem zP {l:List cU} {k:Nat} (hk:l.length≤k) (h:∀ i (hi:i<l.length),i<k→fK l[i]=true):true=l.all fK:=by
 symm
 rw [List.all_eq_true]
 intro x hx
 obtain ⟨i,hi,e⟩:=List.getElem_of_mem hx
 rw [← e];exact h i hi (by omega)
theorem Al {l m:List cU} {k:Nat} (h:∀ i (_:i<l.length),i<k→l[i]? = m[i]?) (hk:k<l.length) (hm:k<m.length) (hc:(!decide (l[k]=m[k]))=false):∀ i (_:i<l.length),i<k+1→l[i]? = m[i]? := fun i hi h9=>by
 by_cases e:i=k
 ·subst e
  rw [List.getElem?_eq_getElem hk,List.getElem?_eq_getElem hm]
  have:l[i]=m[i]:=by simpa using hc
  rw [this]
 ·exact h i hi (by omega)
theorem Fk {l m:List cU} {k:Nat} (hk:k<l.length) (hm:k<m.length) (hc:(!decide (l[k]=m[k]))=true):false=decide (l=m):=by
 symm
 refine decide_eq_false fun h=>?_
 subst h
 simp at hc
theorem DE {l m:List cU} {k:Nat} (hlm:l.length=m.length) (hk:l.length≤k) (h:∀ i (_:i<l.length),i<k→l[i]? = m[i]?):true=decide (l=m):=by
 symm
 refine decide_eq_true (List.ext_getElem? fun i=>?_)
 by_cases hi:i<l.length
 ·exact h i hi (by omega)
 ·rw [List.getElem?_eq_none (by omega),List.getElem?_eq_none (by omega)]
theorem uU {e:cU} (h:fK e=true) (h1:¬ e.1=1):e.1=2∧e.2.1=0#256∧0≤e.2.2∧e.2.2<16:=by
 rcases (np e).1 h with h|h
 ·exact absurd h.1 h1
 ·exact h
theorem nN (w:World) (base:Nat) (e:TypeId) (sz:Nat):cB w base e sz (.slice none 0 0) 0 []:=⟨by simp,.inl ⟨rfl,rfl⟩⟩
section
variable {t:ByteArray}
end
theorem St.recell {w0 w:World} {B:List Own} {b:Nat} {C D:Array Value} {u:TypeId} (s:St w0 B w) (i:Nat) (hi:B[i]? = some (.blk b (.cells C u))) (e:C=D):St w0 (B.set i (.blk b (.cells D u))) w:=by
 subst e
 have:B.set i (.blk b (.cells C u))=B:=by
  apply List.ext_getElem?
  intro j
  by_cases h:i=j
  ·subst h
   have hl:=(List.getElem?_eq_some_iff.1 hi).1
   rw [List.getElem?_set_self hl,hi]
  ·rw [List.getElem?_set_ne h]
 rw [this];exact s
section
variable {P:Program} {ρ:Operand→Value} {d:Option Tmp} {ty:TypeId} {pos:String} {af:Array Edge} {g:Option (Nat × Bool)} {x y:Operand} {t:TypeId}
end
theorem pQ {vs:List Value} {k:Nat} (h:k<vs.length):vs[k]? = some (vs.getD k undef):=by
 rw [List.getD_eq_getElem?_getD,List.getElem?_eq_getElem h];rfl
theorem rX (ls:List (List cU)) (k:Nat) (h:k<ls.length):(ls.take (k+1)).flatten=(ls.take k).flatten++ls.getD k []:=by
 rw [List.take_succ_eq_append_getElem h,List.flatten_append,List.getD_eq_getElem?_getD,List.getElem?_eq_getElem h];simp
theorem qx (ls:List (List cU)) (k:Nat) (h:k<ls.length):(ls.take k).flatten.length+(ls.getD k []).length=(ls.take (k+1)).flatten.length:=by
 rw [rX ls k h,List.length_append]
theorem wA (ls:List (List cU)) (k:Nat) (h:k<ls.length):br (ls.take k).flatten++br (ls.getD k [])=br (ls.take (k+1)).flatten:=by
 rw [rX ls k h,rh]
theorem zU (ls:List (List cU)) (k:Nat):(ls.take k).flatten.length≤ls.flatten.length:=by
 have h:=congrArg (fun l=>(List.flatten l).length) (List.take_append_drop k ls)
 simp only [List.flatten_append,List.length_append] at h
 omega
theorem nh {w:World} {v:Value} {sz n:Nat} {xs:List Value} (h:bI w v sz n xs):v.cells=#[v]:=by
 obtain ⟨a,c,rfl⟩:=h.len;rfl
theorem Ca {v u:Value} (hv:v.cells=#[v]) (hu:u.cells=#[u]):[v,u].flatMap (fun x=>x.cells.toList)=[v,u]:=by simp [hv,hu]
theorem IZ {w:World} {v u:Value} {l m:List cU} (hv:bI w v 34 l.length (br l)) (hu:bI w u 34 m.length (br m)):∀ k,k<[v,u].length→bI w ([v,u].getD k undef) 34 (([l,m]:List (List cU)).getD k []).length (br (([l,m]:List (List cU)).getD k []))
 |0,_=>hv
 |1,_=>hu
 |k+2,h=>absurd h (by simp only [List.length_cons,List.length_nil];omega)
theorem Gn {l f:List cU} (h:f.all fK=false):iy l f=1:=by unfold iy;rw [h];rfl
theorem Hu {l f:List cU} (h:l.all fK=false):iy l f=1:=by unfold iy;rw [h,Bool.and_false];rfl
theorem El {l f:List cU} (hf:f.all fK=true) (hl:l.all fK=true) (h:(4:Int)<((f.length:Nat):Int)+((l.length:Nat):Int)):iy l f=12:=by
 unfold iy;rw [hf,hl,if_pos (show (true && true)=true from rfl),if_pos (by omega)]
theorem th {l f:List cU} (hf:f.all fK=true) (hl:l.all fK=true) (h:¬ (4:Int)<((f.length:Nat):Int)+((l.length:Nat):Int)):iy l f=0:=by
 unfold iy;rw [hf,hl,if_pos (show (true && true)=true from rfl),if_neg (by omega)]
theorem zi {l f:List cU} (h:iy l f=0):ld l f=f++l:=by unfold ld;rw [if_pos h]
theorem GN {l f:List cU} {e:Int} (h:iy l f=e) (he:e≠0):ld l f=[]:=by unfold ld;rw [if_neg (by rw [h];exact he)]
theorem uB {w:World} {base:Nat} {e:TypeId} {l f:List cU} {err:Int} {vs:Value} (h:iy l f=err) (hO:cB w base e 34 vs (ld l f).length (br (ld l f))):
 ∃ v',Value.tuple #[vs,.int .i64 err]=.tuple #[v',.int .i64 (iy l f)]∧cB w base e 34 v' (ld l f).length (br (ld l f)):=by
 rw [h];exact ⟨vs,rfl,hO⟩
theorem qz {w:World} {base:Nat} {e:TypeId} {l f:List cU} {err:Int} (h:iy l f=err) (he:err≠0):
 ∃ v',Value.tuple #[.slice none 0 0,.int .i64 err]=.tuple #[v',.int .i64 (iy l f)]∧cB w base e 34 v' (ld l f).length (br (ld l f)):=
 uB h (by rw [GN h he];exact nN _ _ _ _)
theorem wP {w:World} {base:Nat} {e:TypeId} {v:Value} {ls:List (List cU)} {i:Nat} (hi:ls.length≤i) (h:cB w base e 34 v (ls.take i).flatten.length (br (ls.take i).flatten)):cB w base e 34 v ls.flatten.length (br ls.flatten):=by
 rwa [List.take_of_length_le hi] at h
end Go.Proofs.YtobfeflheaobiaaGreatDoor
