/- Entries, stacks and their bytes: what may be, what is written, what is read; slices of entries; no Go in it. -/
import Derived.Lib.AppendZeros
import Derived.Deep.Slices
import Derived.Test.YtkhepdpfdhdlaaaGreatDoorPr
set_option linter.unusedVariables false
set_option linter.unusedSimpArgs false
set_option linter.unusedSectionVars false
namespace Go.Proofs.YtkhepdpfdhdlaaaGreatDoor
open Go.RowKit
abbrev cO:=Int × Id × Int
def co (e:cO):Array Value:=(Value.int .i64 e.1::((aA e.2.1).toList++[.int .i64 e.2.2])).toArray
theorem br (e:cO):(co e).size=34:=by simp [co]
theorem eA (e:cO):(co e).toList=Value.int .i64 e.1::((aA e.2.1).toList++[.int .i64 e.2.2]):=rfl
theorem go (e:cO):∀ v∈(co e).toList,v.oneCell'=true:=λv hv=>by
 rw [eA] at hv
 rcases YH.1 hv with rfl|hv
 ·simp [Value.oneCell',Value.cells]
 ·rcases Y4.1 hv with hv|hv
  ·rw [di] at hv;exact dB _ _ v hv
  ·rw [YF] at hv;subst hv;simp [Value.oneCell',Value.cells]
theorem ic (e:cO):(co e)[0]? = some (.int .i64 e.1):=rfl
theorem fH (e:cO):(co e)[33]? = some (.int .i64 e.2.2):=by
 rw [← Zy,eA,Zo,Y2 (by simp)]
 simp
theorem j9 (e:cO):(co e).extract 1 (1+32)=aA e.2.1:=by
 apply Array.ext'
 rw [Array.toList_extract,List.extract_eq_take_drop,eA]
 simp
theorem G0 {x y:cO} (h:(co x).toList=(co y).toList):x=y:=by
 have h':=Array.toList_inj.1 h
 have h0:=ic x;rw [h',ic] at h0
 have h1:=fH x;rw [h',fH] at h1
 have h2:=j9 x;rw [h',j9] at h2
 simp at h0 h1
 have h3:=rm h2
 exact Prod.ext h0.symm (Prod.ext h3.symm h1.symm)
theorem QT (x y:cO):decide (x=y)=true↔(co x).toList=(co y).toList:=by
 rw [YB];exact ⟨λh=>by rw [h],G0⟩
def db (l:List cO):List Value:=l.flatMap λe=>(co e).toList
theorem yx (l:List cO):(db l).length=l.length*34:=dW _ 34 (λx=>by rw [YD,br]) l
theorem oO (e:cO):db [e]=(co e).toList:=by simp [db]
theorem wD (l:List cO):∀ u∈db l,u.oneCell'=true:=λu hu=>by
 obtain ⟨x,_,hx⟩:=List.mem_flatMap.1 hu
 exact go x u hx
theorem Nv (l:List cO) (j:Nat) (hj:j<l.length):(((db l).drop (j*34)).take 34).toArray=co l[j]:=by
 unfold db
 rw [dS _ 34 (λx=>by rw [YD,br]) l j hj]
def lY (e:cO):Bool:=(decide (e.1=1) && decide (e.2.2=0)) || (decide (e.1=2) && decide (e.2.1=0#256) && decide (0<=e.2.2) && decide (e.2.2<16))
def cZ (l:List cO):Bool:=decide (0<l.length) && decide (l.length<=4) && l.all lY
theorem ol (e:cO):lY e=true↔(e.1=1/\e.2.2=0)∨(e.1=2/\e.2.1=0#256/\0<=e.2.2/\e.2.2<16):=by
 unfold lY;simp [and_assoc]
theorem ee (l:List cO):cZ l=true↔0<l.length/\l.length<=4/\∀ e∈l,lY e=true:=by
 unfold cZ;rw [Yw,Yw,YB,YB,Yx,and_assoc]
def M9 (a:Id):List Nat:=(List.range 32).map (bu a)
theorem ll (a:Id):(M9 a).length=32:=by simp [M9]
def g7 (e:cO):List Nat:=if e.1=1 then 1::M9 e.2.1 else [2,e.2.2.toNat]
def mi (ns:List Nat):ByteArray:=⟨(ns.map UInt8.ofNat).toArray⟩
def i6 (l:List cO):List Nat:=l.length::l.flatMap g7
def xy (l:List cO):ByteArray:=mi (i6 l)
theorem ig (ns:List Nat):(mi ns).size=ns.length:=by simp [mi,ByteArray.size]
theorem jC (e:cO):(g7 e).length<=33/\2<=(g7 e).length:=by
 unfold g7;split
 ·simp [M9]
 ·simp
theorem mV (l:List cO):(l.flatMap g7).length<=33*l.length:=by
 induction l with
 |nil=>simp
 |cons e l ih=>have:=(jC e).1;rw [List.flatMap_cons,Yy,Y0];omega
theorem rk (a:Id):(aA a).toList=g6 (M9 a):=by
 unfold g6 M9 aA d4
 rw [List.map_map];rfl
def fv (l:List cO) (k:Nat):List Nat:=l.length::(l.take k).flatMap g7
theorem CF (l:List cO):fv l l.length=i6 l:=by unfold fv;rw [List.take_length];rfl
theorem iS (l:List cO) (k:Nat) (hk:k<l.length):fv l (k+1)=fv l k++g7 l[k]:=by
 unfold fv
 rw [List.take_succ_eq_append_getElem hk,Zh]
 simp
theorem Co (l:List cO) (k:Nat):(fv l k).length<=1+33*k:=by
 unfold fv
 have h1:=mV (l.take k)
 have h2:(l.take k).length<=k:=by rw [Y5];omega
 rw [Y0]
 omega
def JI (t:ByteArray):Int × cO × Nat:=
 if t.size=0 then (3,(0,0#256,0),0)
 else if sb t 0=1 then
  if t.size<33 then (3,(0,0#256,0),0) else (0,(1,wH λi=>sb t (1+i),0),33)
 else if sb t 0=2 then
  if t.size<2 then (3,(0,0#256,0),0) else if 16<=sb t 1 then (5,(0,0#256,0),0) else (0,(2,0#256,(sb t 1:Int)),2)
 else (5,(0,0#256,0),0)
def qM (s:ByteArray) (n:Nat):ByteArray:=s.extract n s.size
def KY (s:ByteArray):Nat->Int × List cO × Nat
 |0=>(0,[],1)
 |k+1=>if (KY s k).1=0 then
  if (JI (qM s (KY s k).2.2)).1=0 then (0,(KY s k).2.1++[(JI (qM s (KY s k).2.2)).2.1],(KY s k).2.2+(JI (qM s (KY s k).2.2)).2.2)
  else ((JI (qM s (KY s k).2.2)).1,[],0)
  else KY s k
def oP (s:ByteArray):Int × List cO × Nat:=
 if s.size=0 then (3,[],0) else if sb s 0<1∨4<sb s 0 then (5,[],0) else KY s (sb s 0)
theorem Bo (e:cO) (h:lY e=true):∀ n∈g7 e,n<256:=λn hn=>by
 unfold g7 at hn
 rcases (ol e).1 h with ⟨h1,h2⟩|⟨h1,h2,h3,h4⟩
 ·rw [if_pos h1] at hn
  rcases YH.1 hn with rfl|hn
  ·decide
  ·obtain ⟨i,_,rfl⟩:=Ze.1 hn;exact gq _ _
 ·rw [if_neg (by omega)] at hn
  simp only [YH,YK,or_false] at hn
  rcases hn with rfl|rfl<;>omega
end Go.Proofs.YtkhepdpfdhdlaaaGreatDoor
namespace Go.Proofs.YtkhepdpfdhdlaaaGreatDoor
open Go.RowKit Go.ChangeShapes Go.WideShapes Go.ChangeAt
theorem EqV.up {P:Program} {D:Nat} {e:TypeId} {sz:Nat} {V:List Value->Prop} {vl:List Value->Value} (E:EqV P D e sz V vl):EqV P (D+1) e sz V vl:=
 ⟨E.len,E.size,E.part,λd xs ys w hx hy=>by
  have:=E.eq (d+1) xs ys w hx hy
  rwa [show d+(D+1)=d+1+D from by omega]⟩
theorem As (e:cO):((co e).toList.drop 0).take 1=[Value.int .i64 e.1]:=rfl
theorem BK (e:cO):((co e).toList.drop 1).take 32=(ca (bu e.2.1) 32).toList:=by
 rw [eA,List.drop_succ_cons,List.drop_zero,List.take_append_of_le_length (by simp),YU (by simp),di]
theorem BO (e:cO):((co e).toList.drop 33).take 1=[Value.int .i64 e.2.2]:=by
 rw [eA,List.drop_succ_cons,List.drop_append,List.drop_eq_nil_of_le (by simp)]
 simp
theorem gm:co (0,0#256,0)=(Value.int .i64 0::(List.replicate 32 (Value.int .u8 0)++[.int .i64 0])).toArray:=by
 unfold co;rw [dC];rfl
section
variable {P:Program} {a:Act} {w w0:World} {N:Nat} {L:List (Nat × Value)} {B:List Own} {fn:Func} {T:c8}
theorem d5 {p q r t:Tmp} {b n:Nat} {C:Array Value} {u:TypeId} {V U:Value} (i:Nat) (hres:fn.results=#[.cell p t,.tmp q,.tmp r]) (h:Sl N a L) (s:St w0 B w) (hr:Row P t n) (hp:lk L p=some (.pointer (some ⟨b,0,none⟩))) (hi:B[i]? = some (.blk b (.cells C u))) (hn:C.size=n)
 (hq:lk L q=some V) (hu:lk L r=some U) (hT:T (.tuple #[.agg C,V,U]) w):bodyPost P fn (bW w0 T) .ret a w:=by
 refine ⟨h.defers,.tuple #[.agg C,V,U],?_,_,rfl,hT,s.ext⟩
 have hp':a.tmps[p]?.getD undef=.pointer (some ⟨b,0,none⟩):=by simpa using h.holds p _ hp
 have hq':a.tmps[q]?.getD undef=V:=by simpa using h.holds q _ hq
 have hu':a.tmps[r]?.getD undef=U:=by simpa using h.holds r _ hu
 simp [results,hres,hp',hq',hu',asAddr,fq hr w b C u (0,0) (s.get i hi) hn]
end
section
variable {P:Program} {ρ:Operand->Value} {d:Option Tmp} {ty:TypeId} {pos:String} {af:Array Edge} {g:Option (Nat × Bool)} {x y:Operand} {t t' e:TypeId} {k:IntKind} {m n:Int}
def eZ:List (List Value):=[[.int .i64 0],List.replicate 32 (.int .u8 0),[.int .i64 0]]
theorem eW (S:Stt P t eZ):aP P ⟨d,.build t #[],ty,pos,af,g⟩ ρ (.agg (co (0,0#256,0))):=by
 have:=aU (P:=P) (ρ:=ρ) (d:=d) (ty:=ty) (pos:=pos) (af:=af) (g:=g) (parts:=#[]) S [] (by simp) (λi v hm=>by simp at hm) (D:=(co (0,0#256,0)).toList) (by rw [gm];rfl)
 simpa using this
theorem nj {q r:Int} (S:Stt P t eZ) (hx:ρ x=.int .i64 q) (hy:ρ y=.int .i64 r):aP P ⟨d,.build t #[(0,x),(2,y)],ty,pos,af,g⟩ ρ (.agg (co (q,0#256,r))):=by
 have:=aU (P:=P) (ρ:=ρ) (d:=d) (ty:=ty) (pos:=pos) (af:=af) (g:=g) (parts:=#[(0,x),(2,y)]) S [(0,.int .i64 q),(2,.int .i64 r)] (by simp [hx,hy]) (λi v hm=>by
  simp at hm
  rcases hm with ⟨rfl,rfl⟩|⟨rfl,rfl⟩
  ·exact ⟨_,rfl,rfl⟩
  ·exact ⟨_,rfl,rfl⟩) (D:=(co (q,0#256,r)).toList) (by rw [eA,dC];rfl)
 simpa using this
theorem i7 {b o len:Nat} (ht:P.underlying t=some (.array len e)) (he:(P.info? e).map (·.size)=some 1) (hx:ρ x=.pointer (some ⟨b,o,none⟩)):aP P ⟨d,.slice t x none none none,ty,pos,af,g⟩ ρ (.slice (some ⟨b,o,none⟩) len len):=λw=>by
 cases hi:P.info? e with
 |none=>simp [hi] at he
 |some i=>
  have h1:i.size=1:=by simpa [hi] using he
  have ha:(⟨b,o,none⟩:Addr).add 0=⟨b,o,none⟩:=by simp [Addr.add]
  simp [execOp,hx,Instr.sliceAt,Instr.sliceBounds,Zc,YC ht,Instr.sureAddr,sizeOf,typeInfo,hi,h1,ha]
theorem bp.of_has {w:World} {b o n c:Nat} {C:Array Value} (h:aJ w ⟨b,o,none⟩ C) (hn:C.size=n) (hc:n<=c):bp w (.slice (Option.some ⟨b,o,none⟩) n c) 1 n C.toList:=
 ⟨by rw [YD];omega,.inr ⟨⟨b,o,none⟩,c,rfl,hc,by simpa using h⟩⟩
theorem pd (ht:P.underlying t=some (.slice e)) (hx:ρ x=.slice none 0 0):aP P ⟨d,.call {callee:=.builtin .cap,args:=#[x],argTypes:=#[t]},ty,pos,af,g⟩ ρ (.int .i64 0):=λw=>by
 simp [execOp,resolve,invoke,builtin,hx,Zc,YC ht,Builtin.cap_,goInt]
theorem sh {sz:Nat} (ht:P.underlying t=some (.slice e)) (he:(P.info? e).map (·.size)=some sz) (hx:ρ x=.slice none 0 0) (hy:ρ y=.int .i64 0):aP P ⟨d,.slice t x none (some y) none,ty,pos,af,g⟩ ρ (.slice none 0 0):=λw=>by
 simp [execOp,hx,hy,Instr.sliceAt,Instr.slice,Instr.sliceBounds,Instr.sliceBound,asIntOf,Zc,YC ht,Instr.sureAddr,dv he]
theorem qS {sz n:Nat} {v:Value} {w0:World} {base:Nat} {u:TypeId} {xs:List Value} (hO:cq w0 base u sz v n xs) (ht:P.underlying t=some (.slice e)) (he:(P.info? e).map (·.size)=some sz) (hx:ρ x=v) (hy:ρ y=.int .i64 0):aP P ⟨d,.slice t x none (some y) none,ty,pos,af,g⟩ ρ (fI v 0):=by
 have h1:=dL (P:=P) (ρ:=ρ) (d:=d) (ty:=ty) (pos:=pos) (af:=af) (g:=g) (bp.of_own hO) 0 ht he hx hy rfl (YO _)
 exact h1
theorem cq.cut0 {w:World} {base:Nat} {e:TypeId} {sz n:Nat} {v:Value} {xs:List Value} (h:cq w base e sz v n xs):cq w base e sz (fI v 0) 0 []:=by
 refine ⟨by simp,?_⟩
 rcases h.2 with ⟨rfl,_⟩|⟨g,cap,cur,fz,rfl,h1,h2,h3,h4,h5,h6,_⟩
 ·exact .inl ⟨rfl,rfl⟩
 ·exact .inr ⟨g,cap,cur,fz,rfl,h1,h2,h3,YO _,h5,h6,by simp⟩
end
section
variable {P:Program} {ops:Array Oper} {Q:Act->World->Prop} {l:List Oper} {a:Act} {w w0:World} {N:Nat} {L:List (Nat × Value)} {Df:List Deferred} {B:List Own} {d:Tmp} {ty:TypeId} {pos:String} {af:Array Edge} {x y:Operand} {t t' e:TypeId}
theorem qf {sz by_ n base:Nat} {kn:IntKind} (h:Sl N a L Df) (ht:P.underlying t=some (.slice e)) (htn:P.underlying t'=some (.int kn)) (E:Elm P e sz by_) (hx:dO L x=some (.slice none 0 0)) (hy:dO L y=some (.int .i64 (n:Int))) (h0:0<n) (hb:n*by_<=140737488355328) (hb1:n<=1000000) (hbase:base<=w.heap.size) (hd:Nat.blt d N=true)
 (k:∀ a' w' v' xs,Sl N a' ((d,v')::L) Df->Ext w w'->cq w' base e sz v' n xs->bZ P ops Q l a' w'):
 bZ P ops Q (⟨some d,.call {callee:=.builtin .append,args:=#[x,y],argTypes:=#[t,t']},ty,pos,af,none⟩::l) a w:=by
 obtain ⟨i,z,hi,hz,rfl,rfl,hzs⟩:=E.info
 have hpos:=E.pos
 have hr:=Go.Lib.run_append_nil_zeros (P:=P) w t t' ty e i z .i64 kn ht htn hi hz n h0 hpos (by omega) (by omega)
 have hge:=grownCap_ge w n 0 e
 obtain ⟨V9,W9,hr9,hE9,hO9⟩:∃ V W,(Builtin.append_ #[t,t'] ty #[.slice none 0 0,.int .i64 (n:Int)]).run P w=.ok V W/\Ext w W/\cq W base e i.size V n (Builtin.zeroCells z.cells n).toList:=by
  refine ⟨_,_,hr,(Ext.refl w).drew.alloc _,by rw [YD,size_zeroCells,hzs],.inr ⟨w.heap.size,grownCap w n 0 e,_,(0,0),rfl,hbase,heap_alloc_new w.drew _,.inl rfl,hge,grownCap_le_maxLen w _ 0 e (by unfold maxLen;omega),?_,?_⟩⟩
  ·simp only [Array.size_append,size_zeroCells,hzs]
   rw [← Nat.add_mul]
   congr 1
   omega
  ·rw [Array.toList_append,List.take_append_of_le_length (by rw [YD,size_zeroCells,hzs];exact YM _),YU (by rw [YD,size_zeroCells,hzs];exact YM _)]
 refine dy (R:=λu w''=>u=V9/\w''=W9) h (by
  unfold cN
  simp only [execOp,resolve,invoke,builtin,Zc,Zd,YA,List.map_toArray,List.map_cons,List.map_nil,h.ev hx,h.ev hy,hr9]
  first|exact ⟨rfl,rfl⟩|exact ⟨trivial,rfl⟩|exact ⟨trivial,trivial⟩|trivial) hd λa' w'' u ⟨e1,e2⟩ hs=>?_
 subst e1;subst e2
 exact k _ _ _ _ hs hE9 hO9
end
theorem q9 {H:Type} {enc:TypeId × Value->H} {P:Program} {w:World} {base:Nat} {spare:Nat->Bool} {held:Bool} {t tn ti e:TypeId} {f0 f1 f2:Field} {fuel:Nat} {cs:List Value} {x:DataW H × List MemPlace} (T:IdTy P ti e) (hc:P.cellsOf ti=32) (hce:P.cellsOf e=1) (hn:P.underlying tn=some (.int .i64)) (hcn:P.cellsOf tn=1)
 (ht:P.underlying t=some (.struct #[f0,f1,f2])) (h0:f0.type=tn) (h1:f1.type=ti) (h2:f2.type=tn) (o0:f0.offset=0) (o1:f1.offset=1) (o2:f2.offset=33) (hct:P.cellsOf t=34) (h:DataW.trod enc P w base spare held fuel t cs=some x):∃ l:cO,cs=(co l).toList:=by
 obtain ⟨xs,n,rfl,_,hl,hxl,hel⟩:=DataW.trod_struct ht h
 rw [hct] at hl
 have hx2:xs.length=3:=by simpa using hxl
 have e0:=hel 0 f0 rfl
 have e1:=hel 1 f1 rfl
 have e2:=hel 2 f2 rfl
 rw [h0,o0,hcn,Yz (by omega)] at e0
 rw [h1,o1,hc,Yz (by omega)] at e1
 rw [h2,o2,hcn,Yz (by omega)] at e2
 obtain ⟨k,hk,_⟩:=DataW.trod_int hn e0
 obtain ⟨a,ha⟩:=jr T hc hce e1
 obtain ⟨h9,hh,_⟩:=DataW.trod_int hn e2
 refine ⟨(k,a,h9),?_⟩
 rw [eA,← ha]
 have hdrop:cs.drop 33=[Value.int .i64 h9]:=by
  rw [YU (by rw [YX];omega)] at hh
  exact hh
 have hsplit:cs=(cs.drop 0).take 1++((cs.drop 1).take 32++cs.drop 33):=by
  rw [List.drop_zero,show cs.drop 33=(cs.drop 1).drop 32 from by rw [List.drop_drop],YS,YS]
 rw [hk,hdrop] at hsplit
 exact hsplit
theorem B2 {H:Type} {enc:TypeId × Value->H} {P:Program} {W:World} {r:Reach} {b0:Nat} {ts t tn ti e:TypeId} {f0 f1 f2:Field} {v:Value} {d:DataW H} {ps:List MemPlace} (T:IdTy P ti e) (hc:P.cellsOf ti=32) (hce:P.cellsOf e=1) (hn:P.underlying tn=some (.int .i64)) (hcn:P.cellsOf tn=1)
 (hts:P.underlying ts=some (.slice t)) (ht:P.underlying t=some (.struct #[f0,f1,f2])) (h0:f0.type=tn) (h1:f1.type=ti) (h2:f2.type=tn) (o0:f0.offset=0) (o1:f1.offset=1) (o2:f2.offset=33) (hct:P.cellsOf t=34)
 (hval:Value.okWide P W r b0 ts v) (h:DataW.Trod enc P W 0 (λ_=>true) true ts v d ps):∃ ls:List cO,bp W v 34 ls.length (db ls):=by
 obtain ⟨a,n,c,rfl⟩:=okWide_slice hts hval
 obtain ⟨fuel,hf⟩:=h
 rcases Go.Deep.open_slice hts hf with ⟨hcs,_⟩|⟨a',len,cap,m,k,D,Pl,hcs,_,hl,_,hm,_,hel⟩
 ·have:Value.slice a n c=.slice none 0 0:=by simpa [Value.cells] using hcs
  exact ⟨[],rfl,.inl ⟨this,rfl⟩⟩
 ·have hv:Value.slice a n c=.slice (some a') len cap:=by simpa [Value.cells] using hcs
  have hml:len<=m:=by rw [hm];split<;>omega
  have each:∀ i,∃ l:cO,i<len->aJ W (a'.add (i*34)) (co l):=λi=>by
   by_cases hi:i<len
   ·obtain ⟨cs',hc1,hc2⟩:=hel i (by omega)
    obtain ⟨l,rfl⟩:=q9 T hc hce hn hcn ht h0 h1 h2 o0 o1 o2 hct hc2
    refine ⟨l,λ_ j u hj=>?_⟩
    rw [hct] at hc1
    obtain ⟨_,hlen,hall⟩:=World.cells?_some hc1
    have hj34:j<34:=by have:=(ZA.1 hj).1;rw [br] at this;exact this
    have:=hall j hj34
    rw [this,Zy];exact hj
   ·exact ⟨(0,0#256,0),λh9=>ZF h9 hi⟩
  obtain ⟨L,hL⟩:=Classical.axiomOfChoice each
  refine ⟨(List.range len).map L,?_,.inr ⟨a',cap,by rw [hv];simp,by simpa using hl,?_⟩⟩
  ·rw [yx]
  ·refine js _ 34 (by decide) (λx=>by rw [YD,br]) _ λi hi=>?_
   have hi':i<len:=by simpa using hi
   have:=hL i hi'
   simpa using this
theorem I6 (e:cO) (h:e.1=1):lY e=decide (e.2.2=0):=by
 unfold lY;rw [h];simp
theorem sP (e:cO) (h:e.1=2):lY e=(decide (e.2.1=0#256) && decide (0<=e.2.2) && decide (e.2.2<16)):=by
 unfold lY;rw [h];simp
theorem Hl (e:cO) (h:¬ e.1=1) (h2:¬ e.1=2):lY e=false:=by
 unfold lY;simp [h,h2]
theorem Pc {l:List cO} {k:Nat} (hk:k<l.length) (hc:(!lY l[k])=true):false=l.all lY:=by
 symm
 rw [List.all_eq_false]
 exact ⟨l[k],Zq hk,by simpa using hc⟩
theorem KC {l:List cO} {k:Nat} (hk:l.length<=k) (h:∀ i (hi:i<l.length),i<k->lY l[i]=true):true=l.all lY:=by
 symm
 rw [Yx]
 intro x hx
 obtain ⟨i,hi,e⟩:=Zr hx
 rw [← e];exact h i hi (by omega)
theorem Ig {e:cO} (h:lY e=true):e.1=1∨e.1=2:=by
 rcases (ol e).1 h with h|h
 ·exact .inl h.1
 ·exact .inr h.1
theorem Ey {e:cO} (h:lY e=true) (h1:¬ e.1=1):e.1=2/\e.2.1=0#256/\0<=e.2.2/\e.2.2<16:=by
 rcases (ol e).1 h with h|h
 ·exact ZF h.1 h1
 ·exact h
theorem O9 {l:List cO} {k:Nat} (hk:k<l.length) (h1:l[k].1=1):g6 (fv l k)++[Value.int .u8 ((l[k].1.toNat:Nat):Int)].flatMap (λv=>v.cells.toList)++(aA l[k].2.1).toList=g6 (fv l (k+1)):=by
 rw [iS l k hk,← fJ,Zi]
 refine Yu (g6 (fv l k)++·) ?_
 unfold g7
 rw [if_pos h1,h1,rk]
 rfl
theorem QC {l:List cO} {k:Nat} (hk:k<l.length) (h1:l[k].1=1):(fv l k).length+1+32=(fv l (k+1)).length:=by
 rw [iS l k hk,Yy]
 unfold g7
 rw [if_pos h1,Y0,ll]
theorem NF {l:List cO} {k:Nat} (hk:k<l.length) (h1:l[k].1=2):g6 (fv l k)++[Value.int .u8 ((l[k].1.toNat:Nat):Int)].flatMap (λv=>v.cells.toList)++[Value.int .u8 ((l[k].2.2.toNat:Nat):Int)].flatMap (λv=>v.cells.toList)=g6 (fv l (k+1)):=by
 rw [iS l k hk,← fJ,Zi]
 refine Yu (g6 (fv l k)++·) ?_
 unfold g7
 rw [if_neg (by omega),h1]
 rfl
theorem QI {l:List cO} {k:Nat} (hk:k<l.length) (h1:l[k].1=2):(fv l k).length+1+1=(fv l (k+1)).length:=by
 rw [iS l k hk,Yy]
 unfold g7
 rw [if_neg (by omega)]
 rfl
def lI (l:List cO):ByteArray:=if cZ l=true then xy l else ⟨#[]⟩
def wz (l:List cO):Int:=if cZ l=true then 0 else 1
theorem dT (w:World) (base:Nat) (e:TypeId) (sz:Nat):cq w base e sz (.slice none 0 0) 0 []:=⟨by simp,.inl ⟨rfl,rfl⟩⟩
section
variable {t:ByteArray}
end
theorem St.recell {w0 w:World} {B:List Own} {b:Nat} {C D:Array Value} {u:TypeId} (s:St w0 B w) (i:Nat) (hi:B[i]? = some (.blk b (.cells C u))) (e:C=D):St w0 (B.set i (.blk b (.cells D u))) w:=by
 subst e
 have:B.set i (.blk b (.cells C u))=B:=by
  apply List.ext_getElem?
  intro j
  by_cases h:i=j
  ·subst h
   have hl:=(Yv.1 hi).1
   rw [List.getElem?_set_self hl,hi]
  ·rw [List.getElem?_set_ne h]
 rw [this];exact s
section
variable {P:Program} {ρ:Operand->Value} {d:Option Tmp} {ty:TypeId} {pos:String} {af:Array Edge} {g:Option (Nat × Bool)} {x y:Operand} {t:TypeId}
end
theorem Bn {vs:List Value} {k:Nat} (h:k<vs.length):vs[k]? = some (vs.getD k undef):=by
 rw [YR,Yz h];rfl
theorem Bz {l:List cO} (h:cZ l=true):lI l=xy l:=by unfold lI;rw [if_pos h]
end Go.Proofs.YtkhepdpfdhdlaaaGreatDoor
