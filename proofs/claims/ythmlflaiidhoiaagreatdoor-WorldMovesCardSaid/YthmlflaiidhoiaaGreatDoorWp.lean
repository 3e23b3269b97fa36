/- Ways that meet again, calls that panic; ranges over functions; drawn regions by resources. -/
import Derived.DefersIn
import Derived.RecoverIn
import Derived.Laws.OwnMore
import Derived.Lib.UnsafeStr
import Derived.MapKept
import Derived.Lib.AppendStr
import Derived.RangeFuncLeaves
import Derived.Test.YthmlflaiidhoiaaGreatDoorEt
set_option linter.unusedVariables false
set_option linter.unusedSimpArgs false
set_option linter.unusedSectionVars false
namespace Go.Proofs.YthmlflaiidhoiaaGreatDoor
open Go.RowKit
section
variable {ro:Option Nat} {P:Program} {Q:Exit->Act->World->Prop} {K:Act->World->Prop} {a:Act} {w w0:World} {N i:Nat} {L:List (Nat × Value)} {Df:List Deferred} {B:List Own} {ch:List PanicEntry}
theorem uE {x:Code} (mid:Act->World->Prop) (h:x.wpIn (FR ro) 0 P (Exit.then mid Q) a w) (hm:∀ a w,mid a w->Q .normal a w):x.wpIn (FR ro) 0 P Q a w:=
 wpIn_mono h λe a w he=>by cases e<;>first|exact hm _ _ he|exact he
theorem dt {ρ:Operand->Value} {dst:Option Tmp} {ty:TypeId} {pos:String} {af:Array Edge} {g:Option (Nat × Bool)} {x:Operand} {t:TypeId} {V:Value} {s:TypeDesc} (ht:P.underlying t=some s) (hn:(match s with|.interface _=>false|_=>true)=true) (hx:ρ x=V):
 aZ P ⟨dst,.makeInterface t x,ty,pos,af,g⟩ ρ (.iface t V):=λw=>by
 simp only [execOp,hx]
 cases s<;>simp_all [Instr.makeInterface,aI1 ht,Result.andThen]
end
section
variable {P:Program} {a:Act} {w w0:World} {N:Nat} {L:List (Nat × Value)} {Df:List Deferred} {B:List Own}
section
variable {ops:Array Oper} {Q:Exit->Act->List Frame->World->Prop} {cs:List Frame} {i:Nat} {rest:List Nat} {o:Oper} {V:Value} {w':World}
end
end
section
variable {P:Program} {a:Act} {w w0:World} {N:Nat} {L:List (Nat × Value)} {B:List Own} {fn:Func} {R:Ending->World->Prop}
end
section
variable {P:Program} {ops:Array Oper} {Q:Act->World->Prop} {l:List Oper} {a:Act} {w w0:World} {N:Nat} {L:List (Nat × Value)} {Df:List Deferred} {B:List Own} {d:Tmp} {ty:TypeId} {pos:String} {af:Array Edge} {x y z:Operand} {t:TypeId}
theorem qJ (h:Sl N a L Df) (s:St w0 B w) (hd:Nat.blt d N=true) (k:∀ a' w' b,Sl N a' ((d,.map (some b))::L) Df->St w0 (.blk b (.map #[] 0)::B) w'->cQ P ops Q l a' w'):
 cQ P ops Q (⟨some d,.makeMap t none,ty,pos,af,none⟩::l) a w:=
 ee h (R:=λv w'=>v=.map (some w.heap.size)/\w'=w.alloc (.map #[] 0)) (by simp [dp,execOp,run_makeMap,Result.andThen]) hd λa' w' v ⟨hv,hw⟩ h'=>by
  subst hv;subst hw;exact k _ _ _ h' (s.new _)
theorem cL {kt et:TypeId} {kd:TypeDesc} {b:Nat} {es:Array MapEntry} {c:Nat} {K V:Value} (i:Nat) (h:Sl N a L Df) (s:St w0 B w) (ht:P.underlying t=some (.map kt et)) (hk:P.underlying kt=some kd) (hkd:MapKept.IsKey kd K)
 (hx:eI L x=some (.map (some b))) (hy:eI L y=some K) (hz:eI L z=some V) (hi:B[i]? = some (.blk b (.map es c))) (hf:Instr.findNow kd K es.toList 0=some none)
 (k:∀ w',St w0 (B.set i (.blk b (.map (es.push {key:=K,val:=V,born:=c}) (c+1)))) w'->cQ P ops Q l a w'):cQ P ops Q (⟨none,.insert t x y z,ty,pos,af,none⟩::l) a w:=by
 have hb:=s.get i hi
 have hrun:(Instr.mapUpdate t (.map (some b)) K V).run P w=.ok () (w.putObj b (.map (es.push {key:=K,val:=V,born:=c}) (c+1))):=by
  simp [Instr.mapUpdate,aI1 ht,MapKept.run_getObj_map hb,MapKept.run_checkKey hk hkd,MapKept.run_findKey hk hf,MapKept.run_setObj_map _ hb,Result.andThen,World.putObj]
 refine jV (R:=λv w'=>w'=w.putObj b (.map (es.push {key:=K,val:=V,born:=c}) (c+1))) ?_ λw' v hw=>by subst hw;exact k _ (s.putObj i hi _)
 simp [dp,execOp,h.ev hx,h.ev hy,h.ev hz,hrun,Result.andThen]
theorem AH {kt et:TypeId} {kd:TypeDesc} {b:Nat} {es:Array MapEntry} {c:Nat} {K Z V:Value} {ok:Bool} (i:Nat) (h:Sl N a L Df) (s:St w0 B w) (ht:P.underlying t=some (.map kt et)) (hk:P.underlying kt=some kd) (hkd:MapKept.IsKey kd K) (hZ:(P.info? et).bind (·.zero)=some Z)
 (hx:eI L x=some (.map (some b))) (hy:eI L y=some K) (hi:B[i]? = some (.blk b (.map es c)))
 (hf:(∃ j,Instr.findNow kd K es.toList 0=some (some (j,V))/\ok=true)∨(Instr.findNow kd K es.toList 0=some none/\V=Z/\ok=false)) (hd:Nat.blt d N=true)
 (k:∀ a',Sl N a' ((d,.tuple #[V,.bool ok])::L) Df->cQ P ops Q l a' w):cQ P ops Q (⟨some d,.lookup t x y true,ty,pos,af,none⟩::l) a w:=by
 have hb:=s.get i hi
 have hzr:(zeroValue et).run P w=.ok Z w:=by
  cases hi9:P.info? et with
  |none=>simp [hi9] at hZ
  |some info=>simp [hi9] at hZ;simp [zeroValue,typeInfo,hi9,hZ,Result.andThen]
 have hrun:(Instr.lookup t (.map (some b)) K true).run P w=.ok (.tuple #[V,.bool ok]) w:=by
  rcases hf with ⟨j,hf,rfl⟩|⟨hf,rfl,rfl⟩
  ·simp [Instr.lookup,aI1 ht,MapKept.run_getObj_map hb,MapKept.run_checkKey hk hkd,MapKept.run_findKey hk hf,Result.andThen]
  ·simp [Instr.lookup,aI1 ht,MapKept.run_getObj_map hb,MapKept.run_checkKey hk hkd,MapKept.run_findKey hk hf,hzr,Result.andThen]
 refine ee h (R:=λv w'=>v=.tuple #[V,.bool ok]/\w'=w) ?_ hd λa' w' v ⟨hv,hw⟩ h'=>by subst hv;subst hw;exact k _ h'
 simp [dp,execOp,h.ev hx,h.ev hy,hrun,Result.andThen]
end
section
variable {P:Program} {ops:Array Oper} {Q:Act->World->Prop} {l:List Oper} {a:Act} {w w0:World} {N:Nat} {L:List (Nat × Value)} {Df:List Deferred} {B:List Own} {d:Tmp} {ty:TypeId} {pos:String} {af:Array Edge} {x y:Operand} {t e:TypeId}
end
section
variable {P:Program} {ops:Array Oper} {Q:Act->World->Prop} {l:List Oper} {a:Act} {w w0:World} {N:Nat} {L:List (Nat × Value)} {Df:List Deferred} {B:List Own} {d:Tmp} {ty:TypeId} {pos:String} {af:Array Edge} {x y:Operand} {t:TypeId} {fn:Func}
theorem iP {b o n:Nat} {C D:Array Value} {u:TypeId} (i:Nat) (h:Sl N a L Df) (s:St w0 B w) (hr:Row P t n) (hx:eI L x=some (.pointer (some ⟨b,o,none⟩))) (hy:eI L y=some (.agg D)) (hi:B[i]? = some (.blk b (.cells C u))) (hD:D.size=n) (hC:o+n<=C.size) (hv:∀ v∈D.toList,v.oneCell'=true)
 (k:∀ w',St w0 (B.set i (.blk b (.cells (C.toList.take o++D.toList++C.toList.drop (o+D.size)).toArray u))) w'->cQ P ops Q l a w'):cQ P ops Q (⟨none,.store t x y,ty,pos,af,none⟩::l) a w:=
 jV (R:=λ_ w'=>w'=w.setRow b (C.toList.take o++D.toList++C.toList.drop (o+D.size)).toArray) (by
  have hs:(sizeOf t).run P w=.ok D.size w:=by
   cases hq:P.info? t with
   |none=>have:=hr.size;simp [hq] at this
   |some i=>have:=hr.size;simp [hq] at this;simp [sizeOf,typeInfo,aL7,hq,this,hD]
  have hst:(storeVar t ⟨b,o,none⟩ (.agg D)).run P w=.ok () (w.setRow b (C.toList.take o++D.toList++C.toList.drop (o+D.size)).toArray):=by
   have:=c8 P b o u (0,0) D.toList 0 C w (s.get i hi) (.inl rfl) (by rw [aI2];omega) hv
   simp only [Nat.add_zero,aI2] at this
   simp [storeVar,aL7,hs,Value.cells,this]
  unfold dp
  simp only [execOp,h.ev hx,h.ev hy,Instr.storeAt,Instr.sureAddr,aL7,aL8,aH9,hst]) λw' _ hw=>by subst hw;exact k _ (s.row i hi _)
theorem Vy {R:Ending->World->Prop} {p t:Tmp} {b n:Nat} {C:Array Value} {u:TypeId} (i:Nat) (hres:fn.results=#[.cell p t]) (h:Sl N a L) (s:St w0 B w) (hr:Row P t n) (hp:lk L p=some (.pointer (some ⟨b,0,none⟩))) (hi:B[i]? = some (.blk b (.cells C u))) (hn:C.size=n)
 (hR:R (.returned (.agg C)) w):bodyPost P fn R .ret a w:=by
 refine ⟨h.defers,.agg C,?_,hR⟩
 have hp':a.tmps[p]?.getD undef=.pointer (some ⟨b,0,none⟩):=by simpa using h.holds p _ hp
 simp [results,hres,hp',asAddr,eO hr w b C u (0,0) (s.get i hi) hn]
end
theorem l6 {P:Program} (w:World) (t u ty e:TypeId) (i:TypeInfo) (ht:P.underlying t=some (.slice e)) (hu:P.underlying u=some .string) (hi:P.info? e=some i) (hs1:i.size=1)
 (g sLen sCap:Nat) (cur:Array Value) (fz:Nat × Nat) (hg:w.heap[g]? = some (.cells cur e fz)) (hz:fz.2=0∨cur.size<=fz.1) (s:ByteArray) (hroom:sLen+s.size<=sCap) (hfit:sLen+s.size<=cur.size):
 (Builtin.append_ #[t,u] ty #[.slice (some ⟨g,0,none⟩) sLen sCap,.string s]).run P w =
  .ok (.slice (some ⟨g,0,none⟩) (sLen+s.size) sCap) (w.setRow g (cur.toList.take sLen++Lib.strCells s++cur.toList.drop (sLen+s.size)).toArray):=by
 have hf:=Lib.run_firstCells_string (P:=P) w 1 s
 have hst:=c8 P g sLen e fz (Lib.strCells s) 0 cur w hg hz (by simpa [Lib.strCells_length] using hfit) (Lib.strCells_oneCell s)
 simp only [Nat.add_zero,Lib.strCells_length] at hst
 simp [Builtin.append_,aI1 ht,aI1 hu,sizeOf,typeInfo,hi,hs1,Builtin.lenOf,hroom,hf,Addr.add_lit,hst]
theorem pH {P:Program} {w w0:World} {t u ty e:TypeId} (ht:P.underlying t=some (.slice e)) (hu:P.underlying u=some .string) (E:Elm P e 1 1) (hZ:(P.info? e).bind (·.zero)=some (.int .u8 0)) {v:Value} {n:Nat} {xs:List Value} (hown:cF w w0.heap.size e 1 v n xs)
 (s:ByteArray) (h63:n+s.size<=maxLen) (hbytes:n+s.size<=140737488355328) (hbase:w0.heap.size<=w.heap.size):
 ∃ v' w',(Builtin.append_ #[t,u] ty #[v,.string s]).run P w=.ok v' w'/\cF w' w0.heap.size e 1 v' (n+s.size) (xs++Lib.strCells s)/\Grw w w' v.ownBlock/\(v'.ownBlock=v.ownBlock∨v'.ownBlock=some w.heap.size):=by
 obtain ⟨i,z,hi,hz,hsz,hby,hzs⟩:=E.info
 have hz0:z=.int .u8 0:=by rw [hi] at hZ;simp only [Option.bind_some] at hZ;exact aN0 (hz.symm.trans hZ)
 subst hz0
 have hsmall:n+s.size<=9223372036854775807:=by simp only [maxLen] at h63;omega
 have hxl:xs.length=n:=by simpa using hown.1
 have hlen:(xs++Lib.strCells s).length=(n+s.size)*1:=by rw [aH7,hxl,Lib.strCells_length,Nat.mul_one]
 have grown:∀ (old:Nat),old<n+s.size->∀ (row:Option Nat),
  cF (w.drew.alloc (.cells (xs.toArray++(Lib.strCells s).toArray++Builtin.zeroCells (Value.int .u8 0).cells (grownCap w (n+s.size) old e - (n+s.size))) e)) w0.heap.size e 1
   (.slice (some ⟨w.heap.size,0,none⟩) (n+s.size) (grownCap w (n+s.size) old e)) (n+s.size) (xs++Lib.strCells s)/\
  Grw w (w.drew.alloc (.cells (xs.toArray++(Lib.strCells s).toArray++Builtin.zeroCells (Value.int .u8 0).cells (grownCap w (n+s.size) old e - (n+s.size))) e)) row:=by
  intro old ho row
  have hge:=grownCap_ge w (n+s.size) old e
  have hcm:grownCap w (n+s.size) old e<=maxLen:=grownCap_le_maxLen w (n+s.size) old e h63
  refine ⟨⟨hlen,.inr ⟨w.heap.size,_,_,(0,0),rfl,hbase,heap_alloc_new w.drew _,.inl rfl,hge,hcm,?_,?_⟩⟩,⟨⟨rfl,rfl,rfl,by simp,λk hk _=>Below.heap_alloc w.drew _ k hk⟩,Nat.le_succ _⟩⟩
  ·have hz1:(Value.int IntKind.u8 0).cells.size=1:=rfl
   simp only [Array.size_append,List.size_toArray,size_zeroCells,hz1,hxl,Lib.strCells_length]
   omega
  ·simp only [Array.toList_append,aM3]
   rw [← aM3,← hlen]
   exact List.take_left
 rcases hown.2 with ⟨rfl,rfl⟩|⟨g,cap,cur,fz,rfl,hbg,hg,hfz,hnc,hcm,hcs,htake⟩
 ·have hx:xs=[]:=List.eq_nil_of_length_eq_zero hxl
  subst hx
  by_cases hm:s.size=0
  ·have hn:Lib.strCells s=[]:=List.eq_nil_of_length_eq_zero (by rw [Lib.strCells_length];exact hm)
   refine ⟨.slice none 0 0,w,?_,?_,⟨⟨rfl,rfl,rfl,aJ1 _,λ_ _ _=>rfl⟩,aJ1 _⟩,.inl rfl⟩
   ·have hf:=Lib.run_firstCells_string (P:=P) w 1 s
    rw [hm] at hf
    simp [Builtin.append_,aI1 ht,aI1 hu,sizeOf,typeInfo,hi,hsz,Builtin.lenOf,hm,hf]
   ·rw [hm,hn];exact eh w _ e 1
  ·have hr:=run_append_nil_string (P:=P) w t u ty e i (.int .u8 0) ht hu hi hz s (by omega) (by omega) (by rw [hby];omega)
   have hgr:=grown 0 (by omega) (Value.ownBlock (.slice none 0 0))
   simp only [Nat.zero_add,List.nil_append,Array.empty_append] at hgr ⊢
   have e1:(s.data.map λb=>Value.int .u8 b.toNat)=(Lib.strCells s).toArray:=by
    apply Array.ext'
    simp [Lib.strCells]
   rw [e1] at hr
   exact ⟨_,_,hr,hgr.1,hgr.2,.inr rfl⟩
 ·by_cases hroom:n+s.size<=cap
  ·have hcs':cur.size=cap:=by simpa using hcs
   have hr:=l6 (P:=P) w t u ty e i ht hu hi hsz g n cap cur fz hg hfz s hroom (by omega)
   refine ⟨_,_,hr,⟨hlen,.inr ⟨g,cap,_,fz,rfl,hbg,setRow_heap w g cur _ e _ hg,?_,hroom,hcm,?_,?_⟩⟩,⟨⟨rfl,rfl,rfl,by simp,λk _ hk=>setRow_other w g k _ (λe=>hk (by simp [Value.ownBlock,e]))⟩,aJ1 _⟩,.inl rfl⟩
   ·refine hfz.imp id λh9=>?_
    simp only [List.size_toArray,aH7,aL0,aK2,aI2,Lib.strCells_length]
    omega
   ·simp only [List.size_toArray,aH7,aL0,aK2,aI2,Lib.strCells_length]
    omega
   ·have ht':cur.toList.take n=xs:=by simpa using htake
    rw [ht',← hlen]
    exact List.take_left
  ·have holds:∀ j u,xs[j]? = some u->w.cell? ((⟨g,0,none⟩:Addr).add j)=some u:=hown.cells (g:=g) rfl
   have hr:=Lib.run_append_grow_string (P:=P) w t u ty e i (.int .u8 0) ht hu hi hz ⟨g,0,none⟩ n cap xs (by rw [hsz];simpa using hxl) holds s (by omega) (by omega) (by rw [hby];exact growslice_fits (by omega) (by omega))
   have hgr:=grown cap (by omega) (Value.ownBlock (.slice (some ⟨g,0,none⟩) n cap))
   exact ⟨_,_,hr,hgr.1,hgr.2,.inr rfl⟩
section
variable {P:Program} {ops:Array Oper} {Q:Act->World->Prop} {l:List Oper} {a:Act} {w w0:World} {N:Nat} {L:List (Nat × Value)} {Df:List Deferred} {B:List Own} {d:Tmp} {ty:TypeId} {pos:String} {af:Array Edge} {x y:Operand} {t u e:TypeId}
theorem k8 {v:Value} {n m:Nat} {xs ys:List Value} {s9:ByteArray} (i:Nat) (h:Sl N a L Df) (s:St w0 B w) (ht:P.underlying t=some (.slice e)) (hu:P.underlying u=some .string) (E:Elm P e 1 1) (hZ:(P.info? e).bind (·.zero)=some (.int .u8 0)) (hx:eI L x=some v) (hy:eI L y=some (.string s9))
 (hi:B[i]? = some (.sl v e 1 n xs)) (hm:s9.size=m) (hys:Lib.strCells s9=ys) (hb:n+m<=140737488355327) (hd:Nat.blt d N=true)
 (k:∀ a' w' v',Sl N a' ((d,v')::L) Df->St w0 (B.set i (.sl v' e 1 (n+m) (xs++ys))) w'->cQ P ops Q l a' w'):
 cQ P ops Q (⟨some d,.call {callee:=.builtin .append,args:=#[x,y],argTypes:=#[t,u]},ty,pos,af,none⟩::l) a w:=by
 subst hm;subst hys
 obtain ⟨v',w',hr,h2,h3,h4⟩:=pH (ty:=ty) ht hu E hZ (s.getSl i hi) s9 (by unfold maxLen;omega) (by omega) s.ext.le
 refine ee (R:=λu w''=>u=v'/\w''=w') h (by
  unfold dp
  simp only [execOp,resolve,invoke,builtin,aL7,aL8,aH9,List.map_toArray,List.map_cons,List.map_nil,h.ev hx,h.ev hy,hr]
  first|exact ⟨rfl,rfl⟩|exact ⟨trivial,rfl⟩|exact ⟨trivial,trivial⟩|trivial) hd λa' w'' u ⟨e1,e2⟩ hs=>?_
 subst e1;subst e2
 refine k _ _ _ hs (s.upd i hi h3.os h3.tape h3.output h3.size h2 (λk hk=>?_) (λk hk hne=>?_) h3.drawn)
 ·rcases h4 with h4|h4
  ·exact .inl (Own.at_sl.2 (by rw [← Own.at_sl.1 hk];exact h4.symm))
  ·right
   have:u.ownBlock=some k:=Own.at_sl.1 hk
   rw [h4] at this;cases this;exact aJ1 _
 ·exact h3.block k hk λe=>hne (Own.at_sl.2 e.symm)
end
theorem fx:∀ B:List Own,Rk B B
 |[]=>trivial
 |_::r=>⟨rfl,fx r⟩
section
variable {P:Program} {ρ:Operand->Value} {d:Option Tmp} {ty:TypeId} {pos:String} {af:Array Edge} {g:Option (Nat × Bool)} {x y:Operand} {t t':TypeId} {k:IntKind} {m n:Int}
end
theorem QZ {a b:Tmp} {V U:Value} (t:Array Value):((#[a,b]:Array Tmp).zip [V,U].toArray).foldl (λt (q,v)=>t.setIfInBounds q v) t=(t.setIfInBounds a V).setIfInBounds b U:=by simp
section
variable {N:Nat} {a:Act} {L:List (Nat × Value)} {Df:List Deferred}
theorem Sl.round2 {p q:Nat} {V U:Value} (h:Sl N a L Df) (hp:Nat.blt p N=true) (hq:Nat.blt q N=true):Sl N {tmps:=((#[p,q]:Array Tmp).zip [V,U].toArray).foldl (λt (x,v)=>t.setIfInBounds x v) a.tmps,defers:=[]} ((q,U)::(p,V)::L):=by
 have h1:Sl N {a with defers:=[]} L:=⟨h.size,rfl,h.holds⟩
 rw [QZ]
 exact(h1.put hp V).put hq U
end
def Of (q:Bool):Exit->Prop
 |.normal=>q=false
 |.ret=>q=true
 |_=>False
def rK (q:Bool):LoopState:=bif q then .done else .ready
def wB (q:Bool):Option Code:=bif q then some .ret else none
def lq (q:Nat->Bool):Nat->Bool|0=>false|d+1=>q d
theorem gr {P:Program} {N:Nat} {a:Act} {L:List (Nat × Value)} {Df:List Deferred} {w w0:World} {B:List Own} {g:Operand} {ps:Array Tmp} {assign body:Code} {f:FuncId} {lb:Array Value} {Q:Exit->Act->World->Prop}
 (J:Nat->List Own->Prop) (A0:List Own) (X:List Own) (m:Nat) (q:Nat->Bool) (arg:Nat->List Value) (h:Sl N a L Df) (s:St w0 B w) (hg:eI L g=some (.func (.func f) #[] lb)) (hf:Fnc P f)
 (hB:B.Perm (X++A0)) (hJ0:J 0 A0) (hps:∀ d,(arg d).length=ps.size)
 (hiter:∀ (l:Nat) (w1:World) (GG:Nat->Own->Prop) (g0:Own),GG 0 g0->St w0 (X++[g0]) w1->
  (∀ (d:Nat) (B':List Own) (w':World) (i:Nat) (g:Own),d<m->(∀ j,j<d->q j=false)->GG d g->St w0 B' w'->B'[i]? = some g->l9 P l (arg d).toArray w' (λv w''=>v=.bool (!q d)/\∃ g',GG (d+1) g'/\St w0 (B'.set i g') w''))->
  Calls P f (#[.func (.yield l) #[] #[]]++lb) w1 (λe w'=>(∃ v,e=.returned v)/\∃ d g,GG d g/\St w0 (X++[g]) w'/\d<=m/\(∀ j,j+1<d->q j=false)/\(lq q d=false->d=m)))
 (hround:∀ (l D d:Nat) (rc:LoopState->Loop) (R A:List Own) (w1:World),d<m->(∀ j,j<d->q j=false)->J d A->St w0 (.blk l (.loop (rc .ready))::.blk D (.deferred (some []))::(A++R)) w1->
  assign.wpIn (FR (some l)) 0 P (Exit.then (λa1 w2=>∃ X1,St w0 (.blk l (.loop (rc .ready))::X1) w2/\∀ w3,St w0 (.blk l (.loop (rc .busy))::X1) w3->body.wpIn (FR (some l)) 0 P
   (λe _ w4=>Of (q d) e/\∃ A',J (d+1) A'/\St w0 (.blk l (.loop (rc .busy))::.blk D (.deferred (some []))::(A'++R)) w4) a1 w3) (λ_ _ _=>False))
   {tmps:=(ps.zip (arg d).toArray).foldl (λt (p,v)=>t.setIfInBounds p v) a.tmps,defers:=[]} w1)
 (hdone:∀ (D:Nat) (A:List Own) (w2:World),J m A->(∀ j,j<m->q j=false)->St w0 (.blk D (.deferred (some []))::(X++A)) w2->Q .normal {a with defers:={target:=.collected D,args:=#[]}::a.defers} w2)
 (hleft:∀ (D d:Nat) (A:List Own) (w2:World),d<m->q d=true->(∀ j,j<d->q j=false)->J (d+1) A->St w0 (.blk D (.deferred (some []))::(X++A)) w2->Q .ret {a with defers:={target:=.collected D,args:=#[]}::a.defers} w2):
 (Code.rangeFunc g ps assign body).wpIn (FR none) 0 P Q a w:=by
 refine wpIn_rangeFunc (F:=FR none) λfn _=>?_
 obtain ⟨rq,hrq⟩:∃ rq,rq=λpe st=>ku a w.heap.size fn ps assign body pe st:=⟨_,rfl⟩
 obtain ⟨cw,e1,e2,e3⟩:=hf.has
 have hl0:ku a w.heap.size fn ps assign body none .ready=rq none .ready:=by rw [hrq]
 refine ⟨w.heap.size+1,[{target:=.collected w.heap.size,args:=#[]}],(w.alloc (.deferred (some []))).alloc (.loop (rq none .ready)),{target:=.fn (.func f) lb,args:=#[.func (.yield (w.heap.size+1)) #[] #[]]},(w.alloc (.deferred (some []))).alloc (.loop (rq none .ready)),f,
  #[.func (.yield (w.heap.size+1)) #[] #[]]++lb,(w.alloc (.deferred (some []))).alloc (.loop (rq none .ready)),?_,?_,λ_ _=>trivial,?_,(λhh=>by cases hh),?_⟩
 ·rw [hrq];exact run_enterLoop_outer _ _ _ _ _
 ·simp only [resolve,h.ev hg]
  simp [go_sem]
 ·simp only [invoke];exact fX e1 e2 e3 _ _
 have s1:St w0 (.blk (w.heap.size+1) (.loop (rq none .ready))::.blk w.heap.size (.deferred (some []))::B) ((w.alloc (.deferred (some []))).alloc (.loop (rq none .ready))):=by
  have:=(s.new (.deferred (some []))).new (.loop (rq none .ready))
  rwa [World.size_alloc] at this
 have s2:St w0 ((.blk (w.heap.size+1) (.loop (rq none .ready))::.blk w.heap.size (.deferred (some []))::A0)++X) ((w.alloc (.deferred (some []))).alloc (.loop (rq none .ready))):=
  s1.perm ((((hB.trans List.perm_append_comm).cons _).cons _))
 have hnd0:=f8 s2
 have s3:=s2.group
 refine callsIn_wide.2 ((hiter (w.heap.size+1) _ (λd g=>∃ A,J d A/\g=.all w0 (.blk (w.heap.size+1) (.loop (rq (wB (lq q d)) (rK (lq q d))))::.blk w.heap.size (.deferred (some []))::A)/\
  (Own.blk (w.heap.size+1) (.loop (rq (wB (lq q d)) (rK (lq q d))))::.blk w.heap.size (.deferred (some []))::A).Pairwise λp q=>∀ k,p.at k->¬ q.at k)
  _ ⟨A0,hJ0,rfl,hnd0⟩ (s3.perm (List.perm_append_comm (l₁:=[_]))) ?_).mono ?_)
 ·rintro d B' w' i g hd oW ⟨A,hJ,rfl,hnd⟩ s' hi
  have hlq:lq q d=false:=by cases d with|zero=>rfl|succ d=>exact oW d (Nat.lt_succ_self d)
  rw [hlq] at hi hnd
  have hil:=(aH4.1 hi).1
  have s4:St w0 ((.blk (w.heap.size+1) (.loop (rq none .ready))::.blk w.heap.size (.deferred (some []))::A)++B'.eraseIdx i) w':=(s'.perm (oD hi)).ungroup hnd
  have hl:=s4.get 0 rfl
  have hy:=run_yield (P:=P) (args:=(arg d).toArray) hl (by rw [hrq,List.size_toArray];exact hps d)
  refine ⟨_,_,_,_,hy,?_⟩
  have hw:=hround (w.heap.size+1) w.heap.size d (rq none) (B'.eraseIdx i) A w' hd oW hJ (by simpa using s4)
  subst hrq
  refine roundIn_of_wpIn (F:=Fence.wide) (n:=0) trivial (Go.wpIn_mono hw ?_)
  intro e a1 w2 he
  cases e with
  |normal=>
   obtain ⟨X1,s5,hb⟩:=he
   refine ⟨_,run_beginRound (s5.get 0 rfl) rfl,Go.wpIn_mono (hb _ (s5.putObj 0 rfl _)) ?_⟩
   rintro e2 a3 w4 ⟨hle,A',hJ',s6⟩
   have key:∀ (jump:Option Code),jump=wB (q d)->∃ v w',(Instr.endRound (w.heap.size+1) jump).run P w4=.ok v w'/\∃ u,Ending.returned v=.returned u/\u=.bool (!q d)/\∃ g',(∃ A,J (d+1) A/\g'=Own.all w0 (.blk (w.heap.size+1) (.loop (ku a w.heap.size fn ps assign body (wB (q d)) (rK (q d))))::.blk w.heap.size (.deferred (some []))::A)/\
    (Own.blk (w.heap.size+1) (.loop (ku a w.heap.size fn ps assign body (wB (q d)) (rK (q d))))::.blk w.heap.size (.deferred (some []))::A).Pairwise λp q=>∀ k,p.at k->¬ q.at k)/\St w0 (B'.set i g') w':=by
    rintro jump rfl
    refine ⟨_,_,run_endRound _ (s6.get 0 rfl),_,rfl,(by cases q d<;>rfl),_,⟨A',hJ',rfl,?_⟩,?_⟩
    ·have hn:=f8 (A:=.blk (w.heap.size+1) (.loop (ku a w.heap.size fn ps assign body none .busy))::.blk w.heap.size (.deferred (some []))::A') (R:=B'.eraseIdx i) (by simpa using s6)
     exact By (A:=.blk (w.heap.size+1) (.loop (ku a w.heap.size fn ps assign body none .busy))::.blk w.heap.size (.deferred (some []))::A') rfl hn
    ·have s7:=s6.putObj 0 rfl (.loop (ku a w.heap.size fn ps assign body (wB (q d)) (rK (q d))))
     have s8:St w0 ((.blk (w.heap.size+1) (.loop (ku a w.heap.size fn ps assign body (wB (q d)) (rK (q d))))::.blk w.heap.size (.deferred (some []))::A')++B'.eraseIdx i) _:=s7
     have s9:=s8.group.perm (w8 hil _)
     cases hqd:q d<;>rw [hqd] at s9<;>exact s9
   cases e2 with
   |normal=>exact key none (by rw [show q d=false from hle];rfl)
   |ret=>exact key (some .ret) (by rw [show q d=true from hle];rfl)
   |exit _=>exact hle.elim
   |goto _=>exact hle.elim
   |panic _=>exact hle.elim
   |outgrown=>exact hle.elim
  |ret=>exact he.elim
  |exit _=>exact he.elim
  |goto _=>exact he.elim
  |panic _=>exact he.elim
  |outgrown=>exact he.elim
 ·rintro e w2 ⟨⟨v,rfl⟩,d,g,⟨A,hJ,rfl,hnd⟩,s4,hdm,oW,hend⟩
  have s5:St w0 ((.blk (w.heap.size+1) (.loop (rq (wB (lq q d)) (rK (lq q d))))::.blk w.heap.size (.deferred (some []))::A)++X) w2:=(s4.perm (List.perm_append_comm (l₂:=[_]))).ungroup hnd
  have hl:=s5.get 0 rfl
  subst hrq
  refine ⟨wB (lq q d),_,run_endLoop hl (by cases lq q d<;>simp [ku,rK]),?_⟩
  have s6:=s5.putObj 0 rfl (.loop {ku a w.heap.size fn ps assign body (wB (lq q d)) (rK (lq q d)) with state:=.exhausted})
  have s7:=(s6.pick (.blk w.heap.size (.deferred (some []))::A++X) (aJ2 _ _)).perm (List.Perm.cons _ List.perm_append_comm)
  cases hqd:lq q d with
  |false=>
   obtain rfl:=hend hqd
   refine hdone _ A _ hJ (λj hj=>?_) (by rw [hqd] at s7;exact s7)
   by_cases h1:j+1<d
   ·exact oW j h1
   ·have:d=j+1:=by omega
    subst this;exact hqd
  |true=>
   cases d with
   |zero=>cases hqd
   |succ d=>
    refine aL3 ?_
    exact hleft _ d A _ (by omega) hqd (λj hj=>oW j (by omega)) hJ (by rw [hqd] at s7;exact s7)
section
variable {P:Program} {fn:Func} {w w0:World} {N:Nat} {a:Act} {L:List (Nat × Value)} {B:List Own}
theorem iK {T:ez} {p:Tmp} {b j0 D:Nat} {C:Array Value} {V:Value} {t u:TypeId} (i j:Nat) (hres:fn.results=#[.cell p t]) (h:Sl N a L [{target:=.collected D,args:=#[]}]) (s:St w0 B w) (ho:One P t) (hp:lk L p=some (.pointer (some ⟨b,j0,none⟩))) (_hi:B[i]? = some (.blk b (.cells C u)))
 (hj:B[j]? = some (.blk D (.deferred (some [])))) (hij:(B.set j (.blk D (.deferred none)))[i]? = some (.blk b (.cells C u))) (hC:C[j0]? = some V) (hT:∀ w',T V w'):bodyPostM (FR none) 0 P fn (cb w0 T) .ret a w:=by
 show LeavesInM (FR none) 0 P fn a.tmps (cb w0 T) a.defers .returning w
 rw [h.defers]
 have s2:=s.putObj j hj (.deferred none)
 refine ⟨by simp,.inl ⟨D,_,rfl,run_takeDeferred (s.get j hj),?_⟩⟩
 have hp':a.tmps[p]?.getD undef=.pointer (some ⟨b,j0,none⟩):=by simpa using h.holds p _ hp
 refine ⟨V,?_,V,rfl,hT _,s2.ext⟩
 have hc:(w.putObj D (.deferred none)).cell? ⟨b,j0,none⟩=some V:=by rw [cell_of_row _ b j0 C u (0,0) (s2.get i hij)];exact hC
 simp [results,hres,hp',asAddr,lA ho _ _ hc]
theorem KM {T:ez} {p:Tmp} {b n D:Nat} {C:Array Value} {t u:TypeId} (i j:Nat) (hres:fn.results=#[.cell p t]) (h:Sl N a L [{target:=.collected D,args:=#[]}]) (s:St w0 B w) (hr:Row P t n) (hp:lk L p=some (.pointer (some ⟨b,0,none⟩))) (_hi:B[i]? = some (.blk b (.cells C u)))
 (hj:B[j]? = some (.blk D (.deferred (some [])))) (hij:(B.set j (.blk D (.deferred none)))[i]? = some (.blk b (.cells C u))) (hn:C.size=n) (hT:∀ w',St w0 (B.set j (.blk D (.deferred none))) w'->T (.agg C) w'):bodyPostM (FR none) 0 P fn (cb w0 T) .ret a w:=by
 show LeavesInM (FR none) 0 P fn a.tmps (cb w0 T) a.defers .returning w
 rw [h.defers]
 have s2:=s.putObj j hj (.deferred none)
 refine ⟨by simp,.inl ⟨D,_,rfl,run_takeDeferred (s.get j hj),?_⟩⟩
 have hp':a.tmps[p]?.getD undef=.pointer (some ⟨b,0,none⟩):=by simpa using h.holds p _ hp
 refine ⟨.agg C,?_,.agg C,rfl,hT _ s2,s2.ext⟩
 simp [results,hres,hp',asAddr,eO hr _ b C u (0,0) (s2.get i hij) hn]
theorem lZ {T:ez} {p:Tmp} {b j0:Nat} {C:Array Value} {V:Value} {t u:TypeId} (i:Nat) (hres:fn.results=#[.cell p t]) (h:Sl N a L) (s:St w0 B w) (ho:One P t) (hp:lk L p=some (.pointer (some ⟨b,j0,none⟩))) (hi:B[i]? = some (.blk b (.cells C u)))
 (hC:C[j0]? = some V) (hT:∀ w',T V w'):bodyPostM (FR none) 0 P fn (cb w0 T) .ret a w:=by
 show LeavesInM (FR none) 0 P fn a.tmps (cb w0 T) a.defers .returning w
 rw [h.defers]
 have hp':a.tmps[p]?.getD undef=.pointer (some ⟨b,j0,none⟩):=by simpa using h.holds p _ hp
 have hc:w.cell? ⟨b,j0,none⟩=some V:=by rw [cell_of_row _ b j0 C u (0,0) (s.get i hi)];exact hC
 refine ⟨V,?_,V,rfl,hT _,s.ext⟩
 simp [results,hres,hp',asAddr,lA ho _ _ hc]
end
def KC {τ:Type} (d0:τ) (l:List Nat) (val:Nat->τ):Nat->τ:=λj=>bif l.any (Nat.beq j) then val j else d0
def xS {τ:Type} (val:Nat->τ) (i:Nat) (v:τ):Nat->τ:=λj=>bif Nat.beq j i then v else val j
theorem G6 {τ:Type} {d0:τ} {l:List Nat} {val val':Nat->τ} (h:∀ j∈l,val j=val' j):KC d0 l val=KC d0 l val':=by
 funext j
 unfold KC
 cases hb:l.any (Nat.beq j) with
 |false=>rfl
 |true=>
  obtain ⟨x,hx,he⟩:=aN4.1 hb
  obtain rfl:j=x:=by simpa using he
  exact h j hx
theorem zK {τ:Type} (val:Nat->τ) (i:Nat) (v:τ):xS val i v i=v:=by unfold xS;rw [show Nat.beq i i=true by simp];rfl
theorem wJ {τ:Type} (val:Nat->τ) {i j:Nat} (v:τ) (h:j≠i):xS val i v j=val j:=by
 unfold xS
 cases hb:Nat.beq j i with
 |false=>rfl
 |true=>exact aO7 (by simpa using hb) h
def SR (l:Nat->Bool) (i:Nat):Nat->Bool:=λj=>bif Nat.beq j i then true else l j
theorem EX {i j:Nat} (h:i<j):Nat.blt i j=true:=Nat.ble_eq_true_of_le h
theorem Gu {i j:Nat} (h:j<=i):Nat.blt i j=false:=by
 cases hb:Nat.blt i j with
 |false=>rfl
 |true=>exact aO7 (Nat.le_of_ble_eq_true hb) (by omega)
theorem kO {l:List Nat} {j:Nat}:(!l.contains j)=true↔j ∉ l:=by
 rw [Bool.not_eq_true',← Bool.not_eq_true,aM7]
def vV:Value->Nat
 |.pointer (some a)=>a.block
 |_=>0
section
variable (ops:List Oper) (cls cons:List (List Nat)) (q:Nat)
def qM (size i:Nat) (o:Oper):Bool:=
 (ep o).all (λj=>decide (j<i)) &&
 (cls.getD i []).all (λj=>(ep o).contains j || (ep o).any λk=>(cls.getD k []).contains j) &&
 (match o.dst with|some d=>decide (d<size) && (List.range ops.length).all (λj=>j == i || decide (dy ops j≠some d))|none=>true) &&
 ((o.looksAt ops.toArray).all λt=>(List.range ops.length).all λj=>decide (dy ops j≠some t) || (cls.getD i []).contains j || (cls.getD j []).contains i) &&
 (decide (cons.getD i []).Nodup && (cons.getD i []).all λj=>(decide (j<ops.length+q) && (decide (ops.length<=j) || (cls.getD i []).contains j)) && (List.range ops.length).all λk=>k == i || !(cons.getD k []).contains j)
def gY (size:Nat):Bool:=(List.range ops.length).all λi=>match ops[i]? with|some o=>qM ops cls cons q size i o|none=>false
end
section
variable {ops:List Oper} {cls cons:List (List Nat)} {q size:Nat}
theorem xJ (h:gY ops cls cons q size=true) {i:Nat} {o:Oper} (hi:ops[i]? = some o):qM ops cls cons q size i o=true:=by
 unfold gY at h
 have hlt:i<ops.length:=(aH4.1 hi).1
 have:=aH6.1 h i (aI7.2 hlt)
 simpa [hi] using this
theorem ju (h:gY ops cls cons q size=true) {i:Nat} {o:Oper} (hi:ops[i]? = some o):
 (∀ j∈ep o,j<i)/\∀ j∈cls.getD i [],j∈ep o∨∃ k∈ep o,j∈cls.getD k []:=by
 have:=xJ h hi
 unfold qM at this
 simp only [aH5] at this
 refine ⟨λj hj=>by simpa using aH6.1 this.1.1.1.1 j hj,λj hj=>?_⟩
 have:=aH6.1 this.1.1.1.2 j hj
 simpa using this
theorem sN {j:Nat} {t:Tmp} (hd:dy ops j=some t):j<ops.length:=by obtain ⟨o,ho,_⟩:=yN hd;exact(aH4.1 ho).1
theorem xr (h:gY ops cls cons q size=true) {i:Nat} {d:Tmp} (hd:dy ops i=some d):d<size/\∀ j,dy ops j=some d->j=i:=by
 obtain ⟨o,ho,hdo⟩:=yN hd
 have:=xJ h ho
 unfold qM at this
 simp only [aH5,hdo] at this
 have h2:=this.1.1.2
 simp only [aI0] at h2
 refine ⟨h2.1,λj hj=>?_⟩
 have:=aH6.1 h2.2 j (aI7.2 (sN hj))
 simpa [hj] using this
theorem KD (h:gY ops cls cons q size=true) {i:Nat} {o:Oper} (hi:ops[i]? = some o):∀ t∈o.looksAt ops.toArray,∀ j,dy ops j=some t->j∈cls.getD i []∨i∈cls.getD j []:=by
 have:=xJ h hi
 unfold qM at this
 simp only [aH5] at this
 intro t ht j hj
 have h2:=aH6.1 (aH6.1 this.1.2 t ht) j (aI7.2 (sN hj))
 simpa [hj] using h2
theorem BS (h:gY ops cls cons q size=true) {i:Nat} {o:Oper} (hi:ops[i]? = some o):(cons.getD i []).Nodup/\∀ j∈cons.getD i [],j<ops.length+q/\(ops.length<=j∨j∈cls.getD i [])/\∀ k,k<ops.length->j∈cons.getD k []->k=i:=by
 have:=xJ h hi
 unfold qM at this
 simp only [aH5,aI0] at this
 obtain ⟨_,h1,h2⟩:=this
 refine ⟨h1,λj hj=>?_⟩
 have h3:=aH6.1 h2 j hj
 simp only [aH5,Bool.or_eq_true,aI0,aM7] at h3
 refine ⟨h3.1.1,h3.1.2,λk hk hm=>?_⟩
 have h4:=aH6.1 h3.2 k (aI7.2 hk)
 simp only [Bool.or_eq_true,beq_iff_eq,Bool.not_eq_true',List.contains_eq_mem,decide_eq_false_iff_not] at h4
 exact h4.resolve_right λh5=>h5 hm
theorem GK (hok:gY ops cls cons q size=true):∀ (i:Nat),i<ops.length->∀ j∈cls.getD i [],j<i:=by
 intro i
 induction i using Nat.strongRecOn with
 |_ i ih=>
  intro hi j hj
  have hio:ops[i]? = some ops[i]:=by simp [hi]
  obtain ⟨hlt,hcl⟩:=ju hok hio
  rcases hcl j hj with h|⟨k,hk,hjk⟩
  ·exact hlt j h
  ·have:=hlt k hk
   have:=ih k this (by omega) j hjk
   omega
theorem tv (hok:gY ops cls cons q size=true) {listed:Array Bool} (hs:listed.size=ops.length) (h:Region.ready .any ops.toArray listed=[]):
 ∀ i,i<ops.length->listed.getD i false=true:=by
 intro i
 induction i using Nat.strongRecOn with
 |_ i ih=>
  intro hi
  cases hb:listed.getD i false with
  |true=>rfl
  |false=>
   have hio:ops[i]? = some ops[i]:=by simp [hi]
   have hlt:=(ju hok hio).1
   have:i∈Region.ready .any ops.toArray listed:=mem_ready.2 ⟨by simp [hs,hi] at hb ⊢;exact hb,ops[i],by simp [hi],λe he hbd=>by
    have hm:e.on∈ep ops[i]:=aL9.2 ⟨e,aK4.2 ⟨by simpa using he,by simpa using hbd⟩,rfl⟩
    exact ih _ (hlt _ hm) (by have:=hlt _ hm;omega)⟩
   rw [h] at this;cases this
end
def w5 (ops:List Oper) (cls cons rd:List (List Nat)) (q:Nat):Bool:=(List.range ops.length).all λi=>(rd.getD i []).all λj=>
 decide (j<q) && (!(cons.getD i []).contains (ops.length+j) && (List.range ops.length).all λk => !(cons.getD k []).contains (ops.length+j) || (cls.getD k []).contains i)
theorem PZ {ops:List Oper} {cls cons rd:List (List Nat)} {q:Nat} (h:w5 ops cls cons rd q=true) {i:Nat} (hi:i<ops.length) {j:Nat} (hj:j∈rd.getD i []):j<q/\ops.length+j ∉ cons.getD i []/\∀ k,k<ops.length->ops.length+j∈cons.getD k []->i∈cls.getD k []:=by
 have h1:=aH6.1 (aH6.1 h i (aI7.2 hi)) j hj
 rw [aH5,aH5] at h1
 refine ⟨aG9 h1.1,kO.1 h1.2.1,λk hk hm=>?_⟩
 have h2:=aH6.1 h1.2.2 k (aI7.2 hk)
 rw [Bool.or_eq_true] at h2
 rcases h2 with h2|h2
 ·exact aO7 hm (kO.1 h2)
 ·exact aM7.1 h2
section
variable {P:Program} {ro:Option Nat} {ops:List Oper} {cls cons:List (List Nat)} {a0:Act} {Q:Exit->Act->World->Prop} {w0 w1:World}
def jF {τ:Type} (d0:τ) (ops:List Oper) (cls:List (List Nat)) (Rs:List ((Nat->τ)->List Own)) (I0:List (List Own)) (val:Nat->τ) (j:Nat):List Own:=
 bif Nat.blt j ops.length then (Rs.getD j λ_=>[]) (KC d0 (j::cls.getD j []) val) else I0.getD (j - ops.length) []
def nI {τ:Type} (d0:τ) (cls:List (List Nat)) (Fs:List ((Nat->τ)->Prop)) (val:Nat->τ) (j:Nat):Prop:=(Fs.getD j λ_=>True) (KC d0 (j::cls.getD j []) val)
def ge (ops:List Oper) (cons:List (List Nat)) (listed:Nat->Bool) (j:Nat):Bool:=(Nat.ble ops.length j || listed j) && (List.range ops.length).all λi => !(listed i && (cons.getD i []).any (Nat.beq j))
theorem kD {listed:Nat->Bool} {j:Nat}:ge ops cons listed j=true↔(ops.length<=j∨listed j=true)/\∀ i,i<ops.length->listed i=true->j ∉ cons.getD i []:=by
 unfold ge
 rw [aH5,Bool.or_eq_true,Nat.ble_eq,aH6]
 refine and_congr Iff.rfl ⟨λh i hi hl hm=>?_,λh i hi=>?_⟩
 ·have:=h i (aI7.2 hi)
  rw [hl,aN4.2 ⟨j,hm,by simp⟩] at this;cases this
 ·cases hl:listed i with
  |false=>rfl
  |true=>
   cases hb:(cons.getD i []).any (Nat.beq j) with
   |false=>rfl
   |true=>
    obtain ⟨x,hx,he⟩:=aN4.1 hb
    obtain rfl:j=x:=by simpa using he
    exact aO7 hx (h i (aI7.1 hi) hl)
def l4 {τ:Type} (π:τ->Value) (ops:List Oper) (cl:List Nat) (a0 a:Act) (val:Nat->τ) (t:Tmp):Prop:=
 match gi ops cl t with
 |some j=>a.tmps.getD t undef=π (val j)
 |none=>a.tmps.getD t undef=a0.tmps.getD t undef
def oOb {τ:Type} (π:τ->Value) (d0:τ) (P:Program) (ops:List Oper) (cls cons rd:List (List Nat)) (Rs:List ((Nat->τ)->List Own)) (I0:List (List Own)) (Fs:List ((Nat->τ)->Prop)) (Sh:(Nat->Bool)->(Nat->τ)->List Own) (Bs:List Own) (w0:World) (a0:Act) (i:Nat) (o:Oper):Prop:=
 ∀ (a:Act) (w:World) (val:Nat->τ) (E:List Own) (rK:Nat->Bool),rK i=false->(∀ j∈cls.getD i [],rK j=true)->(∀ k,rK k=true->∀ j∈cls.getD k [],rK j=true)->a.tmps.size=a0.tmps.size->a.defers=a0.defers->
  (∀ t∈o.looksAt ops.toArray,l4 π ops (cls.getD i []) a0 a val t)->
  (∀ j∈cls.getD i [],nI d0 cls Fs val j)->(∀ j∈rd.getD i [],∀ p∈I0.getD j [],p∈E)->St w0 ((cons.getD i []).flatMap (jF d0 ops cls Rs I0 val)++(Sh rK val++(Bs++E))) w->
  cQ P ops.toArray (λa' w'=>∃ v,(∀ d,o.dst=some d->a'.tmps.getD d undef=π v)/\nI d0 cls Fs (xS val i v) i/\St w0 (jF d0 ops cls Rs I0 (xS val i v) i++(Sh (SR rK i) (xS val i v)++(Bs++E))) w') [o] a w
theorem Av {q m size:Nat} (hok:gY ops cls cons q size=true) (hT:∀ i,m<=i->i<ops.length->∀ j,j<i->j∈cls.getD i []):
 ∀ (n i:Nat) (listed:Array Bool) (a:Act) (w:World),ops.length=i+n->m<=i->listed.size=ops.length->(∀ j,j<i->listed.getD j false=true)->(∀ j,i<=j->listed.getD j false=false)->
  wpOpsIn (FR ro) 0 P ops.toArray Q (List.range' i n) a w->wpAnyIn (FR ro) 0 P .any ops.toArray Q n listed a w:=by
 intro n
 induction n with
 |zero=>
  intro i listed a w hn him hs h1 h2 h
  have hq:Q .normal a w:=by simpa [wpOpsIn] using h
  refine ⟨?_,hq⟩
  cases hr:Region.ready .any ops.toArray listed with
  |nil=>rfl
  |cons x xs=>
   have hx:x∈Region.ready .any ops.toArray listed:=by rw [hr];exact aI5
   obtain ⟨o,ho,hf,_⟩:=ga hx
   have hlt:=(aH4.1 ho).1
   have:=h1 x (by omega)
   rw [hf hs] at this;cases this
 |succ n ih=>
  intro i listed a w hn him hs h1 h2 h
  have hi:i<ops.length:=by omega
  refine ⟨λhr=>?_,λk hk=>?_⟩
  ·have:=tv hok hs hr i hi
   rw [h2 i (aJ1 _)] at this;cases this
  obtain ⟨o,ho,hf,hd⟩:=ga hk
  have hkl:=(aH4.1 ho).1
  have hki:k=i:=by
   rcases Nat.lt_trichotomy k i with h3|h3|h3
   ·have:=h1 k h3;rw [hf hs] at this;cases this
   ·exact h3
   ·rcases (ju hok ho).2 i (hT k (by omega) hkl i h3) with h4|⟨p,hp,h4⟩
    ·have:=hd i h4;rw [h2 i (aJ1 _)] at this;cases this
    ·have hql:=hd p hp
     have hqi:p<i:=by
      rcases aJ4 p i with h5|h5
      ·exact h5
      ·rw [h2 p h5] at hql;cases hql
     have:=GK hok p (by omega) i h4
     omega
  subst hki
  rw [List.range'_succ,wpOpsIn_cons] at h
  refine wpOpIn_mono (λa' w' h'=>ih (k+1) _ a' w' (by omega) (by omega) (by simp [hs]) (λj hj=>?_) (λj hj=>?_) h') h
  ·by_cases e:k=j
   ·subst e;have:k<listed.size:=by rw [hs];exact hi
    simp [this]
   ·have:=h1 j (by omega);simpa [aK1 e] using this
  ·have e:k≠j:=by omega
   have:=h2 j (by omega);simpa [aK1 e] using this
structure oJt {τ:Type} (π:τ->Value) (d0:τ) (ops:List Oper) (cls cons:List (List Nat)) (q:Nat) (Rs:List ((Nat->τ)->List Own)) (I0:List (List Own)) (Fs:List ((Nat->τ)->Prop)) (Sh:(Nat->Bool)->(Nat->τ)->List Own) (Bs:List Own) (w0:World) (a0:Act) (m:Nat) (listed:Array Bool) (a:Act) (w:World) (val:Nat->τ):Prop where
 size:a.tmps.size=a0.tmps.size
 defers:a.defers=a0.defers
 lsize:listed.size=ops.length
 tail:∀ i,m<=i->listed.getD i false=false
 done:∀ i d,dy ops i=some d->listed.getD i false=true->a.tmps.getD d undef=π (val i)
 rest:∀ t,(∀ j,dy ops j=some t->listed.getD j false=false)->a.tmps.getD t undef=a0.tmps.getD t undef
 closed:∀ i,listed.getD i false=true->∀ j∈cls.getD i [],listed.getD j false=true
 facts:∀ i,listed.getD i false=true->nI d0 cls Fs val i
 st:St w0 (((List.range (ops.length+q)).filter (ge ops cons λj=>listed.getD j false)).flatMap (jF d0 ops cls Rs I0 val)++(Sh (λj=>listed.getD j false) val++Bs)) w
theorem DL {τ:Type} {π:τ->Value} {d0:τ} {q rid m:Nat} {rd:List (List Nat)} (hrd:w5 ops cls cons rd q=true) {Rs:List ((Nat->τ)->List Own)} {I0:List (List Own)} {Fs:List ((Nat->τ)->Prop)} {Sh:(Nat->Bool)->(Nat->τ)->List Own} {Bs:List Own} (hm:P.follows .mixedOrders=true) (hok:gY ops cls cons q a0.tmps.size=true) (hsel:Region.noSelect ops.toArray=true)
 (hml:m<=ops.length) (hT:∀ i,m<=i->i<ops.length->∀ j,j<i->j∈cls.getD i [])
 (hob:∀ i o,i<m->ops[i]? = some o->oOb π d0 P ops cls cons rd Rs I0 Fs Sh Bs w0 a0 i o)
 (s:St w0 (((List.range (ops.length+q)).filter (ge ops cons λ_=>false)).flatMap (jF d0 ops cls Rs I0 λ_=>d0)++(Sh (λ_=>false) (λ_=>d0)++Bs)) w1)
 (hfin:∀ (b:Act) (w:World) (val:Nat->τ),b.tmps.size=a0.tmps.size->b.defers=a0.defers->(∀ i d,i<m->dy ops i=some d->b.tmps.getD d undef=π (val i))->(∀ t,(∀ i,i<m->dy ops i≠some t)->b.tmps.getD t undef=a0.tmps.getD t undef)->
  (∀ i,i<m->nI d0 cls Fs val i)->St w0 (((List.range (ops.length+q)).filter (ge ops cons λj=>Nat.blt j m)).flatMap (jF d0 ops cls Rs I0 val)++(Sh (λj=>Nat.blt j m) val++Bs)) w->cQ P ops.toArray (Q .normal) (ops.drop m) b w):
 (Code.region rid ops.toArray true).wpIn (FR ro) 0 P Q a0 w1:=by
 refine wpIn_region_any hm ?_
 have hend:∀ (listed:Array Bool) (a:Act) (w:World) (val:Nat->τ),oJt π d0 ops cls cons q Rs I0 Fs Sh Bs w0 a0 m listed a w val->(∀ i,i<m->listed.getD i false=true)->∀ fuel,ops.length=m+fuel->wpAnyIn (FR ro) 0 P .any ops.toArray Q fuel listed a w:=by
  intro listed a w val I hall fuel hfu
  refine Av hok hT fuel m listed a w hfu (aJ1 _) I.lsize hall I.tail ?_
  have hfd:fuel=(ops.drop m).length:=by rw [aK2];omega
  rw [hfd,wpOpsIn_eq_wpListIn (ops.drop m) m (λj=>by rw [aJ8,aN8])]
  refine cQ.wp ?_
  refine hfin a w val I.size I.defers (λi d hi hd=>I.done i d hd (hall i hi)) (λt ht=>I.rest t λj hj=>?_) (λi hi=>I.facts i (hall i hi)) ?_
  ·rcases aJ4 j m with h|h
   ·exact aO7 hj (ht j h)
   ·exact I.tail j h
  have hfun:(λj=>listed.getD j false)=λj=>Nat.blt j m:=by
   funext j
   rcases aJ4 j m with h|h
   ·rw [hall j h];exact(EX h).symm
   ·rw [Gu h];exact I.tail j h
  have h9:=I.st
  rw [hfun] at h9
  exact h9
 have hcount:∀ (fuel:Nat) (listed:Array Bool) (a:Act) (w:World) (val:Nat->τ),listed.toList.count false=fuel->oJt π d0 ops cls cons q Rs I0 Fs Sh Bs w0 a0 m listed a w val->wpAnyIn (FR ro) 0 P .any ops.toArray Q fuel listed a w:=by
  intro fuel
  induction fuel with
  |zero=>
   intro listed a w val hc I
   have hall:∀ i,i<ops.length->listed.getD i false=true:=λi hi=>Dg hc i (by rw [I.lsize];exact hi)
   refine hend listed a w val I (λi hi=>hall i (by omega)) 0 ?_
   rcases aJ4 m ops.length with h|h
   ·have:=I.tail m (aJ1 _)
    rw [hall m h] at this;cases this
   ·omega
  |succ fuel ih=>
   intro listed a w val hc I
   by_cases hall:∀ i,i<m->listed.getD i false=true
   ·refine hend listed a w val I hall (fuel+1) ?_
    have key:∀ (b:List Bool) (m:Nat),m<=b.length->(∀ i,i<m->b[i]? = some true)->(∀ i,m<=i->i<b.length->b[i]? = some false)->b.count false=b.length - m:=by
     intro b
     induction b with
     |nil=>intro m _ _ _;simp
     |cons x b ihb=>
      intro m hm h1 h2
      cases m with
      |zero=>
       have hx:x=false:=by simpa using h2 0 (aJ1 _) (by simp)
       have:=ihb 0 (aJ3 _) (λi hi=>by omega) (λi _ hi=>by simpa using h2 (i+1) (aJ3 _) (by simp;omega))
       subst hx;simp [this]
      |succ m=>
       have hx:x=true:=by simpa using h1 0 (by omega)
       have:=ihb m (by simpa using hm) (λi hi=>by simpa using h1 (i+1) (by omega)) (λi hi hi2=>by simpa using h2 (i+1) (by omega) (by simp;omega))
       subst hx;simp [this]
    have hk:=key listed.toList m (by simp [I.lsize];omega)
     (fun i hi=>by have:=hall i hi;have hil:i<listed.size:=by rw [I.lsize];omega
                   simp [hil] at this ⊢;exact this)
     (fun i hi hi2=>by have:=I.tail i hi;have hil:i<listed.size:=by simpa using hi2
                       simp [hil] at this ⊢;exact this)
    rw [hc] at hk
    simp [I.lsize] at hk
    omega
   refine ⟨λhr=>aO7 (λi hi=>tv hok I.lsize hr i (by omega)) hall,λk hk=>?_⟩
   obtain ⟨o,ho,hf,hdir⟩:=ga hk
   have hkl:=(aH4.1 ho).1
   have hks:k<listed.size:=by rw [I.lsize];exact hkl
   have hkm:k<m:=by
    rcases aJ4 k m with h3|h3
    ·exact h3
    ·exfalso
     apply hall
     intro j hj
     rcases (ju hok ho).2 j (hT k h3 hkl j (by omega)) with h4|⟨p,hp,h4⟩
     ·exact hdir j h4
     ·exact I.closed p (hdir p hp) j h4
   have hu:=hf I.lsize
   have hcl:∀ j∈cls.getD k [],listed.getD j false=true:=λj hj=>by
    rcases (ju hok ho).2 j hj with h1|⟨q,hq,h1⟩
    ·exact hdir j h1
    ·exact I.closed q (hdir q hq) j h1
   have hcnt:(listed.setIfInBounds k true).toList.count false=fuel:=by have:=Hz hks hu;omega
   have hnk:∀ i,listed.getD i false=true->k ∉ cls.getD i []:=λi hi hm=>by have:=I.closed i hi k hm;rw [hu] at this;cases this
   have hkk:k ∉ cls.getD k []:=λhm=>by have:=GK hok k hkl k hm;omega
   obtain ⟨hcn,hcc⟩:=BS hok ho
   have hclive:∀ j∈cons.getD k [],ge ops cons (λj=>listed.getD j false) j=true:=λj hj=>by
    obtain ⟨_,h2,h3⟩:=hcc j hj
    refine kD.2 ⟨h2.imp id (hcl j),λi hi hl hm=>?_⟩
    rw [h3 i hi hm] at hl
    rw [hu] at hl;cases hl
   have hperm:((List.range (ops.length+q)).filter (ge ops cons λj=>listed.getD j false)).Perm (cons.getD k []++(List.range (ops.length+q)).filter (λj=>ge ops cons (λj=>listed.getD j false) j && !(cons.getD k []).contains j)):=by
    refine(List.perm_ext_iff_of_nodup (List.nodup_range.filter _) ?_).2 λj=>?_
    ·rw [List.nodup_append]
     refine ⟨hcn,List.nodup_range.filter _,λx hx y hy e=>?_⟩
     subst e
     have:=(aH5 _ _▸(aK4.1 hy).2:_/\_).2
     exact kO.1 this hx
    ·rw [aK9,aK4,aK4,aI7,aH5]
     constructor
     ·rintro ⟨h1,h2⟩
      by_cases hj:j∈cons.getD k []
      ·exact .inl hj
      ·exact .inr ⟨h1,h2,kO.2 hj⟩
     ·rintro (h1|⟨h1,h2,_⟩)
      ·exact ⟨(hcc j h1).1,hclive j h1⟩
      ·exact ⟨h1,h2⟩
   obtain ⟨E,hE⟩:∃ E,E=((List.range (ops.length+q)).filter (λj=>ge ops cons (λj=>listed.getD j false) j && !(cons.getD k []).contains j)).flatMap (jF d0 ops cls Rs I0 val):=⟨_,rfl⟩
   have hst:St w0 ((cons.getD k []).flatMap (jF d0 ops cls Rs I0 val)++(Sh (λj=>listed.getD j false) val++(Bs++E))) w:=by
    refine I.st.perm ?_
    refine((hperm.flatMap_right _).append_right (Sh (λj=>listed.getD j false) val++Bs)).trans ?_
    rw [aM2,← hE,aM3,← aM3 (Sh _ _)]
    exact(List.perm_append_comm).append_left _
   have hslots:∀ t∈o.looksAt ops.toArray,l4 π ops (cls.getD k []) a0 a val t:=λt ht=>by
    unfold l4
    cases hw:gi ops (cls.getD k []) t with
    |some j=>
     obtain ⟨hmj,oj,hj,hdj⟩:=ng hw
     exact I.done j t (by rw [qG hj,hdj]) (hcl j hmj)
    |none=>
     refine I.rest t λj hdj=>?_
     cases hb:listed.getD j false with
     |false=>rfl
     |true=>
      rcases KD hok ho t ht j hdj with h|h
      ·obtain ⟨oj,h1,h2⟩:=yN hdj
       exact aO7 h (qI hw j oj h1 h2)
      ·exact aO7 h (hnk j hb)
   have hrdE:∀ j∈rd.getD k [],∀ p∈I0.getD j [],p∈E:=λj hj p hp=>by
    obtain ⟨h1,h2,h3⟩:=PZ hrd hkl hj
    rw [hE]
    refine List.mem_flatMap.2 ⟨ops.length+j,aK4.2 ⟨aI7.2 (by omega),?_⟩,?_⟩
    ·rw [aH5]
     refine ⟨kD.2 ⟨.inl (Nat.le_add_right _ _),λi hi hl hm=>hnk i hl (h3 i hi hm)⟩,kO.2 h2⟩
    ·unfold jF
     rw [Gu (Nat.le_add_right _ _),cond_false,Nat.add_sub_cancel_left];exact hp
   have hO:=hob k o hkm ho a w val E (λj=>listed.getD j false) hu hcl I.closed I.size I.defers hslots (λj hj=>I.facts j (hcl j hj)) hrdE hst
   have hset:=QF hks
   have step:∀ v v' w',(∀ d,o.dst=some d->v'=π v)->nI d0 cls Fs (xS val k v) k->St w0 (jF d0 ops cls Rs I0 (xS val k v) k++(Sh (SR (λj=>listed.getD j false) k) (xS val k v)++(Bs++E))) w'->wpAnyIn (FR ro) 0 P .any ops.toArray Q fuel (listed.setIfInBounds k true) (a.put o.dst v') w':=λv v' w' hv hF hS=>by
    have hmk:∀ i,listed.getD i false=true->KC d0 (i::cls.getD i []) (xS val k v)=KC d0 (i::cls.getD i []) val:=λi hi=>G6 λj hj=>by
     refine wJ val v λe=>?_
     subst e
     rcases aI6.1 hj with h|h
     ·subst h;rw [hu] at hi;cases hi
     ·exact hnk i hi h
    refine ih _ _ w' (xS val k v) hcnt ⟨by rw [Act.tmps_put_size];exact I.size,by cases o.dst<;>exact I.defers,by simp [I.lsize],λi hi=>(by have h8:=I.tail i hi;have h7:k≠i:=(by omega);simpa [aK1 h7] using h8),λi d hd hl=>?_,λt ht=>?_,λi hi j hj=>?_,λi hi=>?_,?_⟩
    ·obtain ⟨hds,huniq⟩:=xr hok hd
     by_cases hik:i=k
     ·subst hik
      have hdo:o.dst=some d:=by rw [qG ho] at hd;exact hd
      rw [hdo,jt,if_pos ⟨rfl,by rw [I.size];exact hds⟩,zK]
      exact hv d hdo
     ·have hne:o.dst≠some d:=λe=>hik (huniq k (by rw [qG ho,e])).symm
      rw [wJ val v hik]
      have h9:=I.done i d hd (((hset i).1 hl).resolve_left hik)
      cases hdo:o.dst with
      |none=>exact h9
      |some d2=>rw [jt,if_neg (λh=>hne (by rw [hdo,h.1]))];exact h9
    ·have h9:=I.rest t λj hj=>by
      have:=ht j hj
      cases hb:listed.getD j false with
      |false=>rfl
      |true=>rw [(hset j).2 (.inr hb)] at this;cases this
     cases hdo:o.dst with
     |none=>exact h9
     |some d2=>
      rw [jt,if_neg]
      ·exact h9
      ·rintro ⟨e,_⟩
       subst e
       have:=ht k (by rw [qG ho,hdo])
       rw [(hset k).2 (.inl rfl)] at this;cases this
    ·rcases (hset i).1 hi with e|e
     ·subst e;exact(hset j).2 (.inr (hcl j hj))
     ·exact(hset j).2 (.inr (I.closed i e j hj))
    ·rcases (hset i).1 hi with e|e
     ·subst e;exact hF
     ·unfold nI
      rw [hmk i e]
      exact I.facts i e
    ·
     have hlive:∀ j,ge ops cons (λj=>(listed.setIfInBounds k true).getD j false) j=true↔(j=k∨(ge ops cons (λj=>listed.getD j false) j=true/\j ∉ cons.getD k [])):=λj=>by
      rw [kD,kD]
      constructor
      ·rintro ⟨h1,h2⟩
       by_cases hjk:j=k
       ·exact .inl hjk
       ·refine .inr ⟨⟨h1.imp id λh=>((hset j).1 h).resolve_left hjk,λi hi hl=>h2 i hi ((hset i).2 (.inr hl))⟩,h2 k hkl ((hset k).2 (.inl rfl))⟩
      ·rintro (rfl|⟨⟨h1,h2⟩,h3⟩)
       ·refine ⟨.inr ((hset j).2 (.inl rfl)),λi hi hl hm=>?_⟩
        have hio:ops[i]? = some ops[i]:=by simp [hi]
        rcases ((BS hok hio).2 j hm).2.1 with h|h
        ·omega
        ·rcases (hset i).1 hl with e|e
         ·subst e;exact hkk h
         ·exact hnk i e h
       ·refine ⟨h1.imp id λh=>(hset j).2 (.inr h),λi hi hl=>?_⟩
        rcases (hset i).1 hl with e|e
        ·subst e;exact h3
        ·exact h2 i hi e
     have hp2:((List.range (ops.length+q)).filter (ge ops cons λj=>(listed.setIfInBounds k true).getD j false)).Perm (k::(List.range (ops.length+q)).filter (λj=>ge ops cons (λj=>listed.getD j false) j && !(cons.getD k []).contains j)):=by
      refine(List.perm_ext_iff_of_nodup (List.nodup_range.filter _) ?_).2 λj=>?_
      ·rw [List.nodup_cons]
       refine ⟨λhm=>?_,List.nodup_range.filter _⟩
       have h1:=(aK4.1 hm).2
       rw [aH5] at h1
       rcases (kD.1 h1.1).1 with h|h
       ·omega
       ·rw [hu] at h;cases h
      ·rw [aK4,aI6,aK4,aI7,aH5,hlive]
       constructor
       ·rintro ⟨h1,h2|⟨h2,h3⟩⟩
        ·exact .inl h2
        ·exact .inr ⟨h1,h2,kO.2 h3⟩
       ·rintro (h1|⟨h1,h2,h3⟩)
        ·exact ⟨by omega,.inl h1⟩
        ·exact ⟨h1,.inr ⟨h2,kO.1 h3⟩⟩
     have hsf:(λj=>(listed.setIfInBounds k true).getD j false)=SR (λj=>listed.getD j false) k:=by
      funext j
      unfold SR
      cases hb:Nat.beq j k with
      |true=>exact (hset j).2 (.inl (by simpa using hb))
      |false=>
       show _=listed.getD j false
       cases hl:listed.getD j false with
       |true=>exact (hset j).2 (.inr hl)
       |false=>
        cases h9:(listed.setIfInBounds k true).getD j false with
        |false=>rfl
        |true=>
         rcases (hset j).1 h9 with e|e
         ·subst e;simp at hb
         ·rw [hl] at e;cases e
     refine hS.perm ?_
     refine List.Perm.trans ?_ ((hp2.flatMap_right _).append_right (Sh (λj=>(listed.setIfInBounds k true).getD j false) (xS val k v)++Bs)).symm
     rw [List.flatMap_cons,hsf]
     have hEq:((List.range (ops.length+q)).filter (λj=>ge ops cons (λj=>listed.getD j false) j && !(cons.getD k []).contains j)).flatMap (jF d0 ops cls Rs I0 (xS val k v))=E:=by
      rw [hE,List.flatMap_def,List.flatMap_def]
      congr 1
      refine List.map_congr_left λj hj=>?_
      have h1:=(aK4.1 hj).2
      rw [aH5] at h1
      unfold jF
      rcases aJ4 j ops.length with h|h
      ·have hl:=(kD.1 h1.1).1.resolve_left (by omega)
       rw [hmk j hl]
      ·rw [Gu h];rfl
     rw [hEq,aM3,← aM3 (Sh _ _)]
     exact(List.perm_append_comm).append_left _
   have ho':ops.toArray[k]? = some o:=by simpa using ho
   unfold wpOpIn
   simp only [ho']
   unfold cQ at hO
   split at hO
   ·rename_i hw
    rw [if_pos hw]
    exact hO.wp λv w' h9=>by
     unfold cQ at h9
     obtain ⟨u,h1,h2,h3⟩:=h9
     refine step u v w' (λd hd=>?_) h2 h3
     have:=h1 d hd
     rwa [hd,jt,if_pos ⟨rfl,by rw [I.size];exact(xr hok (by rw [qG ho,hd])).1⟩] at this
   ·rename_i hw
    rw [if_neg hw]
    unfold cQ at hO
    obtain ⟨u,h1,h2,h3⟩:=hO
    refine ⟨λ_ _=>trivial,step u undef w (λd hd=>?_) h2 h3⟩
    have:=h1 d hd
    rwa [hd,jt,if_pos ⟨rfl,by rw [I.size];exact(xr hok (by rw [qG ho,hd])).1⟩] at this
 have hz:∀ i,(Array.replicate ops.toArray.size false).getD i false=false:=λi=>by simp [aK3];split<;>rfl
 have hfz:(λj=>(Array.replicate ops.toArray.size false).getD j false)=λ_=>false:=funext hz
 refine hcount _ _ _ _ (λ_=>d0) (by simp) ⟨rfl,rfl,by simp,λi _=>hz i,λi d _ h=>?_,λ_ _=>rfl,λi h=>?_,λi h=>?_,?_⟩
 ·rw [hz] at h;cases h
 ·rw [hz] at h;cases h
 ·rw [hz] at h;cases h
 ·rw [hfz];exact s.drew
end
section
variable {P:Program} {ro:Option Nat} {ops:List Oper} {cls cons:List (List Nat)} {a0:Act} {Q:Exit->Act->World->Prop} {w0 w1:World}
def nF (F:Nat->Oper->Prop):List Oper->Nat->Prop
 |[],_=>True
 |o::r,i=>F i o/\nF F r (i+1)
theorem AP {F:Nat->Oper->Prop}:∀ {l:List Oper} {k:Nat},nF F l k->∀ i o,l[i]? = some o->F (k+i) o
 |[],_,_,i,o,h=>by simp at h
 |x::r,k,H,0,o,h=>by simp at h;subst h;exact H.1
 |x::r,k,H,i+1,o,h=>by
  have:=AP H.2 i o (by simpa using h)
  rwa [show k+(i+1)=k+1+i by omega]
def Hy (m:Nat) (cls:List (List Nat)) (n:Nat):Bool:=Nat.ble m n && (List.range n).all λi=>Nat.blt i m || (List.range i).all λj=>(cls.getD i []).contains j
theorem Iv {m n:Nat} {cls:List (List Nat)} (h:Hy m cls n=true):m<=n/\∀ i,m<=i->i<n->∀ j,j<i->j∈cls.getD i []:=by
 unfold Hy at h
 rw [aH5] at h
 refine ⟨Nat.le_of_ble_eq_true h.1,λi h1 h2 j hj=>?_⟩
 have h3:=aH6.1 h.2 i (aI7.2 h2)
 rw [Gu h1,Bool.false_or] at h3
 have h4:=aH6.1 h3 j (aI7.2 hj)
 exact aM7.1 h4
theorem OI {τ:Type} {π:τ->Value} {d0:τ} {rid N:Nat} {L:List (Nat × Value)} {Df:List Deferred} {B:List Own} (q m:Nat) (cls cons rd:List (List Nat)) (Rs:List ((Nat->τ)->List Own)) (I0:List (List Own)) (Fs:List ((Nat->τ)->Prop)) (Sh:(Nat->Bool)->(Nat->τ)->List Own) (Bs:List Own)
 (h:Sl N a0 L Df) (s:St w0 B w1) (hB:((List.range (ops.length+q)).filter (ge ops cons λ_=>false)).flatMap (jF d0 ops cls Rs I0 λ_=>d0)++(Sh (λ_=>false) (λ_=>d0)++Bs)=B) (hm:P.follows .mixedOrders=true) (hok:(gY ops cls cons q N && Hy m cls ops.length)=true) (hrd:w5 ops cls cons rd q=true) (hsel:Region.noSelect ops.toArray=true)
 (hob:nF (oOb π d0 P ops cls cons rd Rs I0 Fs Sh Bs w0 a0) (ops.take m) 0) (lv:List Nat) (hlv:(List.range (ops.length+q)).filter (ge ops cons λj=>Nat.blt j m)=lv)
 (hfin:∀ (b:Act) (w:World) (val:Nat->τ),b.tmps.size=N->b.defers=Df->(∀ i d,Nat.blt i m=true->dy ops i=some d->b.tmps.getD d undef=π (val i))->(∀ t,(∀ i,Nat.blt i m=true->dy ops i≠some t)->b.tmps.getD t undef=a0.tmps.getD t undef)->
  (∀ i,Nat.blt i m=true->nI d0 cls Fs val i)->St w0 (lv.flatMap (jF d0 ops cls Rs I0 val)++(Sh (λj=>Nat.blt j m) val++Bs)) w->cQ P ops.toArray (Q .normal) (ops.drop m) b w):
 (Code.region rid ops.toArray true).wpIn (FR ro) 0 P Q a0 w1:=by
 subst hB
 obtain ⟨hok,htl⟩:=(aH5 _ _▸hok:_/\_)
 obtain ⟨hml,hT⟩:=Iv htl
 refine DL hrd hm (by rw [h.size];exact hok) hsel hml hT (λi o him hi=>?_) s λb w val h1 h2 h3 h4 h5 h6=>hfin b w val (h1.trans h.size) (h2.trans h.defers) (λi d hi=>h3 i d (Nat.le_of_ble_eq_true hi)) (λt ht=>h4 t λi hi=>ht i (EX hi)) (λi hi=>h5 i (Nat.le_of_ble_eq_true hi)) (by rw [hlv] at h6;exact h6)
 have:=AP hob i o (by rw [List.getElem?_take,if_pos him];exact hi)
 rwa [Nat.zero_add] at this
end
abbrev OW:Value->Value:=λv=>v
inductive FcE (τ:Type) where
 |n
 |v (X:Value)
 |p
 |f (F:(Nat->τ)->Prop)
 |r (R:(Nat->τ)->List Own) (F:(Nat->τ)->Prop)
 |m (R:(Nat->τ)->List Own)
 |w (R:(Nat->τ)->List Own) (X:Value)
 |q (R:(Nat->τ)->List Own)
def FcE.fct {τ:Type} (π:τ->Value) (i:Nat):FcE τ->(Nat->τ)->Prop
 |.v X=>λv=>π (v i)=X
 |.w _ X=>λv=>π (v i)=X
 |.p=>λv=>∃ b,π (v i)=.pointer (some ⟨b,0,none⟩)
 |.q _=>λv=>∃ b,π (v i)=.pointer (some ⟨b,0,none⟩)
 |.f F=>F
 |.r _ F=>F
 |_=>λ_=>True
def FcE.res {τ:Type}:FcE τ->(Nat->τ)->List Own
 |.r R _=>R
 |.m R=>R
 |.w R _=>R
 |.q R=>R
 |_=>λ_=>[]
def zT {τ:Type} (π:τ->Value):List (FcE τ)->Nat->List ((Nat->τ)->Prop)
 |[],_=>[]
 |e::r,i=>e.fct π i::zT π r (i+1)
def F3 {τ:Type}:List (FcE τ)->List ((Nat->τ)->List Own)
 |[]=>[]
 |e::r=>e.res::F3 r
theorem xQ {τ:Type} {π:τ->Value}:∀ {E:List (FcE τ)} {k j:Nat} {X:Value},E.getD j .n=.v X->(zT π E k).getD j (λ_=>True)=λv=>π (v (k+j))=X
 |[],k,j,X,h=>by cases j<;>cases h
 |e::r,k,0,X,h=>by
  have h:e=.v X:=h
  subst h;rfl
 |e::r,k,j+1,X,h=>by
  have:=xQ (π:=π) (E:=r) (k:=k+1) (j:=j) (X:=X) h
  rw [show k+(j+1)=k+1+j by omega];exact this
theorem S5 {τ:Type} {π:τ->Value}:∀ {E:List (FcE τ)} {k j:Nat} {R:(Nat->τ)->List Own} {X:Value},E.getD j .n=.w R X->(zT π E k).getD j (λ_=>True)=λv=>π (v (k+j))=X
 |[],k,j,R,X,h=>by cases j<;>cases h
 |e::r,k,0,R,X,h=>by
  have h:e=.w R X:=h
  subst h;rfl
 |e::r,k,j+1,R,X,h=>by
  have:=S5 (π:=π) (E:=r) (k:=k+1) (j:=j) (R:=R) (X:=X) h
  rw [show k+(j+1)=k+1+j by omega];exact this
theorem E4 {τ:Type}:∀ {E:List (FcE τ)} {j:Nat} {X:Value},E.getD j .n=.v X->(F3 E).getD j (λ_=>[])=λ_=>[]
 |[],j,X,h=>by cases j<;>cases h
 |e::r,0,X,h=>by
  have h:e=.v X:=h
  subst h;rfl
 |e::r,j+1,X,h=>E4 (E:=r) (j:=j) (X:=X) h
def xE {τ:Type} (E:List (FcE τ)) (j:Nat):Option Value:=match E.getD j .n with
 |.v X=>some X
 |.w _ X=>some X
 |_=>none
theorem Wf {τ:Type} {π:τ->Value} {d0:τ} {cls:List (List Nat)} {E:List (FcE τ)} {val:Nat->τ} {j:Nat} {X:Value} (h:xE E j=some X) (hF:nI d0 cls (zT π E 0) val j):π (val j)=X:=by
 unfold xE at h
 have key:(zT π E 0).getD j (λ_=>True)=(λv=>π (v (0+j))=X)->π (val j)=X:=λhg=>by
  unfold nI at hF
  rw [hg,Nat.zero_add] at hF
  have h9:π (KC d0 (j::cls.getD j []) val j)=X:=hF
  unfold KC at h9
  rw [aN4.2 ⟨j,aI5,by simp⟩] at h9
  exact h9
 split at h
 ·next Y hY=>cases h;exact key (xQ hY)
 ·next Y hY=>cases h;exact key (S5 hY)
 ·cases h
theorem oFx {τ:Type} {π:τ->Value} {d0:τ} {cls:List (List Nat)} {E:List (FcE τ)} {val:Nat->τ} {i:Nat} {u:τ} {Y:Value} (hE:E.getD i .n=.v Y) (hX:π u=Y):nI d0 cls (zT π E 0) (xS val i u) i:=by
 unfold nI
 rw [xQ hE]
 show π (KC d0 (i::cls.getD i []) (xS val i u) (0+i))=Y
 rw [Nat.zero_add]
 unfold KC
 rw [aN4.2 ⟨i,aI5,by simp⟩,← hX]
 exact aH3 π (zK val i u)
theorem cm {F:Nat->Oper->Prop} {o:Oper} {r:List Oper} {i:Nat} (h:F i o) (t:nF F r (i+1)):nF F (o::r) i:=⟨h,t⟩
def T6 {τ:Type} (π:τ->Value) (d0:τ) (P:Program) (ops:List Oper) (cls cons:List (List Nat)) (Rs:List ((Nat->τ)->List Own)) (I0:List (List Own)) (Fs:List ((Nat->τ)->Prop)) (Bs:List Own) (w0:World) (a0:Act) (i:Nat) (o:Oper):Prop:=
 ∀ (a:Act) (w:World) (val:Nat->τ) (E:List Own),a.tmps.size=a0.tmps.size->a.defers=a0.defers->
  (∀ t∈o.looksAt ops.toArray,l4 π ops (cls.getD i []) a0 a val t)->(∀ j∈cls.getD i [],nI d0 cls Fs val j)->St w0 ((cons.getD i []).flatMap (jF d0 ops cls Rs I0 val)++(Bs++E)) w->
  cQ P ops.toArray (λa' w'=>∃ v,(∀ d,o.dst=some d->a'.tmps.getD d undef=π v)/\nI d0 cls Fs (xS val i v) i/\St w0 (jF d0 ops cls Rs I0 (xS val i v) i++(Bs++E)) w') [o] a w
theorem qd {F G:Nat->Oper->Prop} (h:∀ i o,F i o->G i o):∀ {l:List Oper} {k:Nat},nF F l k->nF G l k
 |[],_,_=>trivial
 |_::_,_,H=>⟨h _ _ H.1,qd h H.2⟩
theorem Ai (ops:List Oper) (cls cons:List (List Nat)) (q:Nat):w5 ops cls cons [] q=true:=by
 unfold w5
 exact aH6.2 λi _=>rfl
theorem NZ (cls:List (List Nat)) (n:Nat):Hy n cls n=true:=by
 unfold Hy
 rw [aH5]
 exact ⟨Nat.ble_eq_true_of_le (aJ1 n),aH6.2 λi hi=>by rw [EX (aI7.1 hi)];rfl⟩
section
variable {P:Program} {ro:Option Nat} {ops:List Oper} {a0:Act} {Q:Exit->Act->World->Prop} {w0 w1:World} {τ:Type} {π:τ->Value} {d0:τ} {rid N:Nat} {L:List (Nat × Value)} {Df:List Deferred} {B:List Own}
theorem Fm (q:Nat) (cls cons rd:List (List Nat)) (Rs:List ((Nat->τ)->List Own)) (I0:List (List Own)) (Fs:List ((Nat->τ)->Prop)) (Sh:(Nat->Bool)->(Nat->τ)->List Own) (Bs:List Own)
 (h:Sl N a0 L Df) (s:St w0 B w1) (hB:((List.range (ops.length+q)).filter (ge ops cons λ_=>false)).flatMap (jF d0 ops cls Rs I0 λ_=>d0)++(Sh (λ_=>false) (λ_=>d0)++Bs)=B) (hm:P.follows .mixedOrders=true) (hok:gY ops cls cons q N=true) (hrd:w5 ops cls cons rd q=true) (hsel:Region.noSelect ops.toArray=true)
 (hob:nF (oOb π d0 P ops cls cons rd Rs I0 Fs Sh Bs w0 a0) ops 0) (lv:List Nat) (hlv:(List.range (ops.length+q)).filter (ge ops cons λj=>Nat.blt j ops.length)=lv)
 (hfin:∀ (b:Act) (w:World) (val:Nat->τ),b.tmps.size=N->b.defers=Df->(∀ i d,dy ops i=some d->b.tmps.getD d undef=π (val i))->(∀ t,(∀ i,dy ops i≠some t)->b.tmps.getD t undef=a0.tmps.getD t undef)->
  (∀ i,Nat.blt i ops.length=true->nI d0 cls Fs val i)->St w0 (lv.flatMap (jF d0 ops cls Rs I0 val)++(Sh (λj=>Nat.blt j ops.length) val++Bs)) w->Q .normal b w):
 (Code.region rid ops.toArray true).wpIn (FR ro) 0 P Q a0 w1:=by
 refine OI q ops.length cls cons rd Rs I0 Fs Sh Bs h s hB hm (by rw [hok,NZ];rfl) hrd hsel (by rw [List.take_length];exact hob) lv hlv λb w val h1 h2 h3 h4 h5 h6=>?_
 rw [List.drop_length]
 exact cQ.nil.2 (hfin b w val h1 h2 (λi d hd=>h3 i d (EX (sN hd)) hd) (λt ht=>h4 t λi _=>ht i) h5 h6)
theorem FG (q:Nat) (cls cons:List (List Nat)) (Rs:List ((Nat->τ)->List Own)) (I0:List (List Own)) (Fs:List ((Nat->τ)->Prop)) (Bs:List Own)
 (h:Sl N a0 L Df) (s:St w0 B w1) (hB:((List.range (ops.length+q)).filter (ge ops cons λ_=>false)).flatMap (jF d0 ops cls Rs I0 λ_=>d0)++Bs=B) (hm:P.follows .mixedOrders=true) (hok:gY ops cls cons q N=true) (hsel:Region.noSelect ops.toArray=true)
 (hob:nF (T6 π d0 P ops cls cons Rs I0 Fs Bs w0 a0) ops 0) (lv:List Nat) (hlv:(List.range (ops.length+q)).filter (ge ops cons λj=>Nat.blt j ops.length)=lv)
 (hfin:∀ (b:Act) (w:World) (val:Nat->τ),b.tmps.size=N->b.defers=Df->(∀ i d,dy ops i=some d->b.tmps.getD d undef=π (val i))->(∀ t,(∀ i,dy ops i≠some t)->b.tmps.getD t undef=a0.tmps.getD t undef)->
  (∀ i,Nat.blt i ops.length=true->nI d0 cls Fs val i)->St w0 (lv.flatMap (jF d0 ops cls Rs I0 val)++Bs) w->Q .normal b w):
 (Code.region rid ops.toArray true).wpIn (FR ro) 0 P Q a0 w1:=
 Fm q cls cons [] Rs I0 Fs (λ_ _=>[]) Bs h s hB hm hok (Ai ops cls cons q) hsel (qd (λi o H a w val E _ _ _ _ h1 h2 h3 h4 _ s=>H a w val E h1 h2 h3 h4 s) hob) lv hlv hfin
theorem L3 (q m:Nat) (cls cons:List (List Nat)) (Rs:List ((Nat->τ)->List Own)) (I0:List (List Own)) (Fs:List ((Nat->τ)->Prop)) (Bs:List Own)
 (h:Sl N a0 L Df) (s:St w0 B w1) (hB:((List.range (ops.length+q)).filter (ge ops cons λ_=>false)).flatMap (jF d0 ops cls Rs I0 λ_=>d0)++Bs=B) (hm:P.follows .mixedOrders=true) (hok:(gY ops cls cons q N && Hy m cls ops.length)=true) (hsel:Region.noSelect ops.toArray=true)
 (hob:nF (T6 π d0 P ops cls cons Rs I0 Fs Bs w0 a0) (ops.take m) 0) (lv:List Nat) (hlv:(List.range (ops.length+q)).filter (ge ops cons λj=>Nat.blt j m)=lv)
 (hfin:∀ (b:Act) (w:World) (val:Nat->τ),b.tmps.size=N->b.defers=Df->(∀ i d,Nat.blt i m=true->dy ops i=some d->b.tmps.getD d undef=π (val i))->(∀ t,(∀ i,Nat.blt i m=true->dy ops i≠some t)->b.tmps.getD t undef=a0.tmps.getD t undef)->
  (∀ i,Nat.blt i m=true->nI d0 cls Fs val i)->St w0 (lv.flatMap (jF d0 ops cls Rs I0 val)++Bs) w->cQ P ops.toArray (Q .normal) (ops.drop m) b w):
 (Code.region rid ops.toArray true).wpIn (FR ro) 0 P Q a0 w1:=
 OI q m cls cons [] Rs I0 Fs (λ_ _=>[]) Bs h s hB hm hok (Ai ops cls cons q) hsel (qd (λi o H a w val E _ _ _ _ h1 h2 h3 h4 _ s=>H a w val E h1 h2 h3 h4 s) hob) lv hlv hfin
abbrev KQ:=λ(q:Nat) (cls cons:List (List Nat)) (I0:List (List Own)) (E:List (FcE Value)) => @FG P ro ops a0 Q w0 w1 Value OW undef rid N L Df B q cls cons (F3 E) I0 (zT OW E 0)
abbrev fC:=λ(q m:Nat) (cls cons:List (List Nat)) (I0:List (List Own)) (E:List (FcE Value)) => @L3 P ro ops a0 Q w0 w1 Value OW undef rid N L Df B q m cls cons (F3 E) I0 (zT OW E 0)
abbrev Em {γ:Type} [Inhabited γ]:=λ(q:Nat) (cls cons:List (List Nat)) (I0:List (List Own)) (E:List (FcE (Value × γ))) => @FG P ro ops a0 Q w0 w1 (Value × γ) Prod.fst (undef,default) rid N L Df B q cls cons (F3 E) I0 (zT Prod.fst E 0)
abbrev m7 {γ:Type} [Inhabited γ]:=λ(q m:Nat) (cls cons:List (List Nat)) (I0:List (List Own)) (E:List (FcE (Value × γ))) => @L3 P ro ops a0 Q w0 w1 (Value × γ) Prod.fst (undef,default) rid N L Df B q m cls cons (F3 E) I0 (zT Prod.fst E 0)
abbrev Xj:=λ(q:Nat) (cls cons rd:List (List Nat)) (I0:List (List Own)) (E:List (FcE Value)) => @Fm P ro ops a0 Q w0 w1 Value OW undef rid N L Df B q cls cons rd (F3 E) I0 (zT OW E 0)
theorem ff {cl:List Nat} {a:Act} {val:Nat->τ} {lk9:List Tmp} (hl:∀ t∈lk9,l4 π ops cl a0 a val t) (t j:Nat) (hm:lk9.contains t=true) (hw:gi ops cl t=some j):a.tmps.getD t undef=π (val j):=by
 have:=hl t (aM7.1 hm)
 unfold l4 at this
 rw [hw] at this
 exact this
theorem We {cl:List Nat} {a:Act} {val:Nat->τ} {lk9:List Tmp} (hl:∀ t∈lk9,l4 π ops cl a0 a val t) (t:Nat) (hm:lk9.contains t=true) (hw:gi ops cl t=none) {v:Value} (hv:a0.tmps.getD t undef=v):a.tmps.getD t undef=v:=by
 have:=hl t (aM7.1 hm)
 unfold l4 at this
 rw [hw] at this
 exact this.trans hv
end
section
variable {ops:List Oper} {a0:Act}
theorem Wm {o:Oper} {a:Act} {v:Value} (D:Tmp) (hd:o.dst=some D) (h:a.tmps.getD D undef=v):∀ d,o.dst=some d->a.tmps.getD d undef=v:=λd hd'=>by
 rw [hd] at hd';cases hd';exact h
theorem gV {o:Oper} {a:Act} {v:Value} (hd:o.dst=none):∀ d,o.dst=some d->a.tmps.getD d undef=v:=λd hd'=>by
 rw [hd] at hd';cases hd'
theorem wu {N:Nat} {L:List (Nat × Value)} {Df:List Deferred} {b:Act} (news:List (Nat × Value)) (h:Sl N a0 L Df) (hs:b.tmps.size=N) (hd:b.defers=Df)
 (hr:∀ t,(∀ i,dy ops i≠some t)->b.tmps.getD t undef=a0.tmps.getD t undef) (hn:um b news)
 (hc:((List.range ops.length).all λi=>match dy ops i with|some t=>news.any (λp=>Nat.beq p.1 t)|none=>true)=true):Sl N b (news++L) Df:=by
 refine sl_new (ops:=ops) (mH:=λ_=>true) news h hs hd (λt ht=>hr t λi hi=>?_) hn ?_
 ·have:=aH6.1 ht i (aI7.2 (sN hi))
  rw [hi] at this
  simp at this
 ·refine aH6.2 λi hi=>?_
  have:=aH6.1 hc i hi
  cases hdi:dy ops i with
  |none=>rfl
  |some t=>rw [hdi] at this;exact this
theorem ew {N:Nat} {L:List (Nat × Value)} {Df:List Deferred} {b:Act} (m:Nat) (news:List (Nat × Value)) (h:Sl N a0 L Df) (hs:b.tmps.size=N) (hd:b.defers=Df)
 (hr:∀ t,(∀ i,Nat.blt i m=true->dy ops i≠some t)->b.tmps.getD t undef=a0.tmps.getD t undef) (hn:um b news)
 (hc:((List.range m).all λi=>match dy ops i with|some t=>news.any (λp=>Nat.beq p.1 t)|none=>true)=true):Sl N b (news++L) Df:=by
 refine sl_new (ops:=ops) (mH:=λi=>Nat.blt i m) news h hs hd (λt ht=>hr t λi hi hdi=>?_) hn ?_
 ·have:=aH6.1 ht i (aI7.2 (sN hdi))
  simp only [hdi,hi] at this
  simp at this
 ·refine aH6.2 λi hi=>?_
  cases hb:Nat.blt i m with
  |false=>rfl
  |true=>
   have:=aH6.1 hc i (aI7.2 (Nat.le_of_ble_eq_true hb))
   cases hdi:dy ops i with
   |none=>rfl
   |some t=>rw [hdi] at this;exact this
end
theorem cq {a b:Act} {N:Nat} {M:List (Nat × Value)} {Df:List Deferred} (L:List (Nat × Value)) (h:Sl N a M Df) (hs:b.tmps.size=a.tmps.size) (hd:b.defers=a.defers) (H:um b L):Sl N b L Df:=ia L (hs.trans h.size) (hd.trans h.defers) (holds_lk H)
section
variable {ops:List Oper} {a0 a:Act} {cl:List Nat} {τ:Type} {π:τ->Value} {val:Nat->τ} {lk9:List Tmp} {v:Value}
theorem a7 (hl:∀ t∈lk9,l4 π ops cl a0 a val t) (t j:Nat) (hw:(lk9.contains t && (gi ops cl t == some j))=true) (e:π (val j)=v):a.tmps.getD t undef=v:=by
 obtain ⟨h1,h2⟩:=(aH5 _ _).mp hw
 exact(ff hl t j h1 (eq_of_beq h2)).trans e
theorem fu (hl:∀ t∈lk9,l4 π ops cl a0 a val t) (t:Nat) (hw:(lk9.contains t && (gi ops cl t == none))=true) (hv:a0.tmps.getD t undef=v):a.tmps.getD t undef=v:=by
 obtain ⟨h1,h2⟩:=(aH5 _ _).mp hw
 exact We hl t h1 (eq_of_beq h2) hv
end
theorem br {o:Oper} {a:Act} {v:Value} {N:Nat} {L:List (Nat × Value)} {Df:List Deferred} (D:Tmp) (h:Sl N a L Df) (hv:lk L D=some v) (hd:o.dst=some D):∀ d,o.dst=some d->a.tmps.getD d undef=v:=Wm D hd (h.holds D _ hv)
def X7 (ops:List Oper) (j t:Nat):Bool:=match ops[j]? with
 |some ⟨some d,_,_,_,_,_⟩=>Nat.beq d t
 |_=>false
def wr9 (ops:List Oper) (t:Nat):List Nat->Option Nat
 |[]=>none
 |j::r=>bif X7 ops j t then some j else wr9 ops t r
theorem K5 (ops:List Oper) (j t:Nat):X7 ops j t=decide ((ops[j]?).bind (·.dst)=some t):=by
 unfold X7
 split
 ·next d _ _ _ _ _ h=>
  rw [h]
  show Nat.beq d t=decide (some d=some t)
  cases hb:Nat.beq d t with
  |true=>rw [Nat.eq_of_beq_eq_true hb];simp
  |false=>
   have:d≠t:=λe=>by subst e;simp at hb
   simp [this]
 ·next h=>
  cases ho:ops[j]? with
  |none=>simp
  |some o=>
   obtain ⟨d,a,b,c,e,f⟩:=o
   cases d with
   |none=>simp
   |some d=>exact aO7 ho (h d a b c e f)
theorem On (ops:List Oper) (t:Nat):∀ cl:List Nat,wr9 ops t cl=gi ops cl t
 |[]=>rfl
 |j::r=>by
  unfold wr9 gi
  rw [List.find?_cons,K5,On ops t r]
  cases decide ((ops[j]?).bind (·.dst)=some t)<;>rfl
def K6 {τ:Type} (ops:List Oper) (cl:List Nat) (L:List (Nat × Value)) (E:List (FcE τ)) (t:Nat):Option Value:=match wr9 ops t cl with
 |some j=>xE E j
 |none=>lk L t
def mOf {τ:Type} (ops:List Oper) (cl:List Nat) (L:List (Nat × Value)) (E:List (FcE τ)) (op:Op):List (Nat × Value):=
 op.operands.toList.filterMap λx=>match x with
  |.tmp t=>(K6 ops cl L E t).map λv=>(t,v)
  |_=>none
section
variable {P:Program} {ops:List Oper} {cls cons:List (List Nat)} {I0:List (List Own)} {Bs:List Own} {w0:World} {a0:Act} {τ:Type} {π:τ->Value} {d0:τ} {E:List (FcE τ)} {T:List (Nat × Nat × Nat)} {N:Nat} {L:List (Nat × Value)} {Df:List Deferred}
theorem ab3 (mk:Value->τ) (hmk:∀ X,π (mk X)=X) (hT:FT P T) (h:Sl N a0 L Df) {X:Value} {d:Tmp} {op:Op} {ty:TypeId} {pos:String} {af:Array Edge} {l:List Oper} {i:Nat}
 (hev:Gm T (mOf ops (cls.getD i []) L E op) op=some X) (hX:E.getD i .n=.v X) (hok:(Nat.blt d N && (Nat.blt i ops.length && (cons.getD i []).isEmpty))=true)
 (k:nF (T6 π d0 P ops cls cons (F3 E) I0 (zT π E 0) Bs w0 a0) l (i+1)):nF (T6 π d0 P ops cls cons (F3 E) I0 (zT π E 0) Bs w0 a0) (⟨some d,op,ty,pos,af,none⟩::l) i:=by
 refine ⟨λa w val E9 hs hd hl hF s=>?_,k⟩
 rw [aH5,aH5] at hok
 obtain ⟨hdl,hil,hce⟩:=hok
 rw [List.isEmpty_iff] at hce
 have hM:∀ t v,lk (mOf ops (cls.getD i []) L E op) t=some v->a.tmps.getD t undef=v:=λt v hm=>by
  obtain ⟨x,hx,hxm⟩:=List.mem_filterMap.1 (Dt hm)
  cases x with
  |tmp u=>
   cases hsr:K6 ops (cls.getD i []) L E u with
   |none=>
    have hxm:(K6 ops (cls.getD i []) L E u).map (λv=>(u,v))=some (t,v):=hxm
    rw [hsr] at hxm;cases hxm
   |some y=>
    have hxm:(K6 ops (cls.getD i []) L E u).map (λv=>(u,v))=some (t,v):=hxm
    simp only [hsr,Option.map_some,Option.some.injEq,aM8] at hxm
    obtain ⟨rfl,rfl⟩:=hxm
    have hlook:u∈(Oper.looksAt ops.toArray ⟨some d,op,ty,pos,af,none⟩):=List.mem_append_left _ (List.mem_filterMap.2 ⟨.tmp u,hx,rfl⟩)
    have h9:=hl u hlook
    unfold l4 at h9
    unfold K6 at hsr
    rw [On] at hsr
    cases hw:gi ops (cls.getD i []) u with
    |some j=>
     rw [hw] at h9 hsr
     exact h9.trans (Wf hsr (hF j (ng hw).1))
    |none=>
     rw [hw] at h9 hsr
     exact h9.trans (h.holds u y hsr)
  |_=>simp at hxm
 have hS:Sl N a (mOf ops (cls.getD i []) L E op) Df:=⟨hs.trans h.size,hd.trans h.defers,hM⟩
 refine ai hS (iU hT hS hev) hdl λf h9=>az ⟨mk X,λd' hd'=>?_,oFx hX (hmk X),?_⟩
 ·cases hd'
  rw [hmk];exact h9.holds d X (by unfold lk;simp)
 ·rw [hce] at s
  have e:jF d0 ops cls (F3 E) I0 (xS val i (mk X)) i=[]:=by
   unfold jF
   rw [hil,E4 hX];rfl
  rw [e];exact s
end
section
variable {P:Program} {ops:List Oper} {cls cons:List (List Nat)} {I0:List (List Own)} {Bs:List Own} {w0:World} {a0:Act} {T:List (Nat × Nat × Nat)} {N:Nat} {L:List (Nat × Value)} {Df:List Deferred} {d:Tmp} {op:Op} {ty:TypeId} {pos:String} {af:Array Edge} {l:List Oper} {i:Nat} {X:Value}
theorem gL {E:List (FcE Value)} (hT:FT P T) (h:Sl N a0 L Df) (hev:Gm T (mOf ops (cls.getD i []) L E op) op=some X) (hX:E.getD i .n=.v X) (hok:(Nat.blt d N && (Nat.blt i ops.length && (cons.getD i []).isEmpty))=true)
 (k:nF (T6 OW undef P ops cls cons (F3 E) I0 (zT OW E 0) Bs w0 a0) l (i+1)):nF (T6 OW undef P ops cls cons (F3 E) I0 (zT OW E 0) Bs w0 a0) (⟨some d,op,ty,pos,af,none⟩::l) i:=ab3 (λx=>x) (λ_=>rfl) hT h hev hX hok k
theorem jo {γ:Type} [Inhabited γ] {E:List (FcE (Value × γ))} (hT:FT P T) (h:Sl N a0 L Df) (hev:Gm T (mOf ops (cls.getD i []) L E op) op=some X) (hX:E.getD i .n=.v X) (hok:(Nat.blt d N && (Nat.blt i ops.length && (cons.getD i []).isEmpty))=true)
 (k:nF (T6 Prod.fst (undef,default) P ops cls cons (F3 E) I0 (zT Prod.fst E 0) Bs w0 a0) l (i+1)):nF (T6 Prod.fst (undef,default) P ops cls cons (F3 E) I0 (zT Prod.fst E 0) Bs w0 a0) (⟨some d,op,ty,pos,af,none⟩::l) i:=ab3 (λx=>(x,default)) (λ_=>rfl) hT h hev hX hok k
end
theorem vQ {α:Type} {B:List α} {i:Nat} {x:α} (h:B[i]? = some x):B.set i x=B:=by
 refine List.ext_getElem? λj=>?_
 rw [List.getElem?_set]
 by_cases hj:i=j
 ·subst hj
  rw [if_pos rfl,h,if_pos (aH4.1 h).1]
 ·rw [if_neg hj]
theorem St.pbi {w0 w:World} {B:List Own} {v:Value} {b:Nat} {o:Obj} (i:Nat) (s:St w0 B w) (h:v=.pointer (some ⟨b,0,none⟩)) (hi:B[i]? = some (.blk (vV v) o)):St w0 (B.set i (.blk b o)) w:=by
 subst h
 have e:B.set i (.blk b o)=B:=vQ hi
 rw [e];exact s
theorem St.pbj {w0 w:World} {B:List Own} {v:Value} {b:Nat} {o:Obj} (i:Nat) (s:St w0 B w) (h:v=.pointer (some ⟨b,0,none⟩)) (hi:B[i]? = some (.blk b o)):St w0 (B.set i (.blk (vV v) o)) w:=by
 subst h
 have e:B.set i (.blk (vV (.pointer (some ⟨b,0,none⟩))) o)=B:=vQ (x:=Own.blk b o) hi
 rw [e];exact s
end Go.Proofs.YthmlflaiidhoiaaGreatDoor
