/- Ways that meet again, calls that panic; ranges over functions, a round of which may leave early; regions that draw their order, by resources, with a tail; no Go in it. -/
import Derived.DefersIn
import Derived.RecoverIn
import Derived.Laws.OwnMore
import Derived.Lib.UnsafeStr
import Derived.MapKept
import Derived.Lib.AppendStr
import Derived.RangeFuncLeaves
import Derived.Test.YtobfeflheaobiaaGreatDoorEt
set_option linter.unusedVariables false
set_option linter.unusedSimpArgs false
set_option linter.unusedSectionVars false
namespace Go.Proofs.YtobfeflheaobiaaGreatDoor
open Go.RowKit
section
variable {ro:Option Nat} {P:Program} {Q:Exit→Act→World→Prop} {K:Act→World→Prop} {a:Act} {w w0:World} {N i:Nat} {L:List (Nat × Value)} {Df:List Deferred} {B:List Own} {ch:List PanicEntry}
theorem pW {x:Code} (mid:Act→World→Prop) (h:x.wpIn (FR ro) 0 P (Exit.then mid Q) a w) (hm:∀ a w,mid a w→Q .normal a w):x.wpIn (FR ro) 0 P Q a w:=
 wpIn_mono h fun e a w he=>by cases e<;>first|exact hm _ _ he|exact he
theorem Sl.deferred {a:Act} (h:Sl N a L Df) (d:Deferred):Sl N {a with defers:=d::a.defers} L (d::Df):=⟨h.size,by rw [h.defers],h.holds⟩
theorem gD {ρ:Operand→Value} {dst:Option Tmp} {ty:TypeId} {pos:String} {af:Array Edge} {g:Option (Nat × Bool)} {x:Operand} {t:TypeId} {V:Value} {s:TypeDesc} (ht:P.underlying t=some s) (hn:(match s with|.interface _=>false|_=>true)=true) (hx:ρ x=V):
 aM P ⟨dst,.makeInterface t x,ty,pos,af,g⟩ ρ (.iface t V):=fun w=>by
 simp only [execOp,hx]
 cases s<;>simp_all [Instr.makeInterface,run_underlying ht,Result.andThen]
end
section
variable {P:Program} {a:Act} {w w0:World} {N:Nat} {L:List (Nat × Value)} {Df:List Deferred} {B:List Own}
section
variable {ops:Array Oper} {Q:Exit→Act→List Frame→World→Prop} {cs:List Frame} {i:Nat} {rest:List Nat} {o:Oper} {V:Value} {w':World}
end
end
section
variable {P:Program} {a:Act} {w w0:World} {N:Nat} {L:List (Nat × Value)} {B:List Own} {fn:Func} {R:Ending→World→Prop}
end
section
variable {P:Program} {ops:Array Oper} {Q:Act→World→Prop} {l:List Oper} {a:Act} {w w0:World} {N:Nat} {L:List (Nat × Value)} {Df:List Deferred} {B:List Own} {d:Tmp} {ty:TypeId} {pos:String} {af:Array Edge} {x y z:Operand} {t:TypeId}
theorem rY (h:Sl N a L Df) (s:St w0 B w) (hd:Nat.blt d N=true) (k:∀ a' w' b,Sl N a' ((d,.map (some b))::L) Df→St w0 (.blk b (.map #[] 0)::B) w'→bX P ops Q l a' w'):
 bX P ops Q (⟨some d,.makeMap t none,ty,pos,af,none⟩::l) a w:=
 dw h (R:=fun v w'=>v=.map (some w.heap.size)∧w'=w.alloc (.map #[] 0)) (by simp [db,execOp,run_makeMap,Result.andThen]) hd fun a' w' v ⟨hv,hw⟩ h'=>by
  subst hv;subst hw;exact k _ _ _ h' (s.new _)
theorem fv {kt et:TypeId} {kd:TypeDesc} {b:Nat} {es:Array MapEntry} {c:Nat} {K V:Value} (i:Nat) (h:Sl N a L Df) (s:St w0 B w) (ht:P.underlying t=some (.map kt et)) (hk:P.underlying kt=some kd) (hkd:MapKept.IsKey kd K)
 (hx:eu L x=some (.map (some b))) (hy:eu L y=some K) (hz:eu L z=some V) (hi:B[i]? = some (.blk b (.map es c))) (hf:Instr.findNow kd K es.toList 0=some none)
 (k:∀ w',St w0 (B.set i (.blk b (.map (es.push {key:=K,val:=V,born:=c}) (c+1)))) w'→bX P ops Q l a w'):bX P ops Q (⟨none,.insert t x y z,ty,pos,af,none⟩::l) a w:=by
 have hb:=s.get i hi
 have hrun:(Instr.mapUpdate t (.map (some b)) K V).run P w=.ok () (w.putObj b (.map (es.push {key:=K,val:=V,born:=c}) (c+1))):=by
  simp [Instr.mapUpdate,run_underlying ht,MapKept.run_getObj_map hb,MapKept.run_checkKey hk hkd,MapKept.run_findKey hk hf,MapKept.run_setObj_map _ hb,Result.andThen,World.putObj]
 refine nH (R:=fun v w'=>w'=w.putObj b (.map (es.push {key:=K,val:=V,born:=c}) (c+1))) ?_ fun w' v hw=>by subst hw;exact k _ (s.putObj i hi _)
 simp [db,execOp,h.ev hx,h.ev hy,h.ev hz,hrun,Result.andThen]
theorem Ew {kt et:TypeId} {kd:TypeDesc} {b:Nat} {es:Array MapEntry} {c:Nat} {K Z V:Value} {ok:Bool} (i:Nat) (h:Sl N a L Df) (s:St w0 B w) (ht:P.underlying t=some (.map kt et)) (hk:P.underlying kt=some kd) (hkd:MapKept.IsKey kd K) (hZ:(P.info? et).bind (·.zero)=some Z)
 (hx:eu L x=some (.map (some b))) (hy:eu L y=some K) (hi:B[i]? = some (.blk b (.map es c)))
 (hf:(∃ j,Instr.findNow kd K es.toList 0=some (some (j,V))∧ok=true)∨(Instr.findNow kd K es.toList 0=some none∧V=Z∧ok=false)) (hd:Nat.blt d N=true)
 (k:∀ a',Sl N a' ((d,.tuple #[V,.bool ok])::L) Df→bX P ops Q l a' w):bX P ops Q (⟨some d,.lookup t x y true,ty,pos,af,none⟩::l) a w:=by
 have hb:=s.get i hi
 have hzr:(zeroValue et).run P w=.ok Z w:=by
  cases hi9:P.info? et with
  |none=>simp [hi9] at hZ
  |some info=>simp [hi9] at hZ;simp [zeroValue,typeInfo,hi9,hZ,Result.andThen]
 have hrun:(Instr.lookup t (.map (some b)) K true).run P w=.ok (.tuple #[V,.bool ok]) w:=by
  rcases hf with ⟨j,hf,rfl⟩|⟨hf,rfl,rfl⟩
  ·simp [Instr.lookup,run_underlying ht,MapKept.run_getObj_map hb,MapKept.run_checkKey hk hkd,MapKept.run_findKey hk hf,Result.andThen]
  ·simp [Instr.lookup,run_underlying ht,MapKept.run_getObj_map hb,MapKept.run_checkKey hk hkd,MapKept.run_findKey hk hf,hzr,Result.andThen]
 refine dw h (R:=fun v w'=>v=.tuple #[V,.bool ok]∧w'=w) ?_ hd fun a' w' v ⟨hv,hw⟩ h'=>by subst hv;subst hw;exact k _ h'
 simp [db,execOp,h.ev hx,h.ev hy,hrun,Result.andThen]
end
section
variable {P:Program} {ops:Array Oper} {Q:Act→World→Prop} {l:List Oper} {a:Act} {w w0:World} {N:Nat} {L:List (Nat × Value)} {Df:List Deferred} {B:List Own} {d:Tmp} {ty:TypeId} {pos:String} {af:Array Edge} {x y:Operand} {t e:TypeId}
end
section
variable {P:Program} {ops:Array Oper} {Q:Act→World→Prop} {l:List Oper} {a:Act} {w w0:World} {N:Nat} {L:List (Nat × Value)} {Df:List Deferred} {B:List Own} {d:Tmp} {ty:TypeId} {pos:String} {af:Array Edge} {x y:Operand} {t:TypeId} {fn:Func}
theorem I7 {R:Ending→World→Prop} {p t:Tmp} {b n:Nat} {C:Array Value} {u:TypeId} (i:Nat) (hres:fn.results=#[.cell p t]) (h:Sl N a L) (s:St w0 B w) (hr:Row P t n) (hp:lk L p=some (.pointer (some ⟨b,0,none⟩))) (hi:B[i]? = some (.blk b (.cells C u))) (hn:C.size=n)
 (hR:R (.returned (.agg C)) w):bodyPost P fn R .ret a w:=by
 refine ⟨h.defers,.agg C,?_,hR⟩
 have hp':a.tmps[p]?.getD undef=.pointer (some ⟨b,0,none⟩):=by simpa using h.holds p _ hp
 simp [results,hres,hp',asAddr,ew hr w b C u (0,0) (s.get i hi) hn]
end
section
variable {P:Program} {ops:Array Oper} {Q:Act→World→Prop} {l:List Oper} {a:Act} {w w0:World} {N:Nat} {L:List (Nat × Value)} {Df:List Deferred} {B:List Own} {d:Tmp} {ty:TypeId} {pos:String} {af:Array Edge} {x y:Operand} {t u e:TypeId}
end
section
variable {P:Program} {ρ:Operand→Value} {d:Option Tmp} {ty:TypeId} {pos:String} {af:Array Edge} {g:Option (Nat × Bool)} {x y:Operand} {t t':TypeId} {k:IntKind} {m n:Int}
end
section
variable {N:Nat} {a:Act} {L:List (Nat × Value)} {Df:List Deferred}
end
def At (q:Bool):LoopState:=bif q then .done else .ready
section
variable {P:Program} {fn:Func} {w w0:World} {N:Nat} {a:Act} {L:List (Nat × Value)} {B:List Own}
end
def Ed {τ:Type} (d0:τ) (l:List Nat) (val:Nat→τ):Nat→τ:=fun j=>bif l.any (Nat.beq j) then val j else d0
def tk {τ:Type} (val:Nat→τ) (i:Nat) (v:τ):Nat→τ:=fun j=>bif Nat.beq j i then v else val j
theorem AB {τ:Type} {d0:τ} {l:List Nat} {val val':Nat→τ} (h:∀ j∈l,val j=val' j):Ed d0 l val=Ed d0 l val':=by
 funext j
 unfold Ed
 cases hb:l.any (Nat.beq j) with
 |false=>rfl
 |true=>
  obtain ⟨x,hx,he⟩:=List.any_eq_true.1 hb
  obtain rfl:j=x:=by simpa using he
  exact h j hx
theorem uT {τ:Type} (val:Nat→τ) (i:Nat) (v:τ):tk val i v i=v:=by unfold tk;rw [show Nat.beq i i=true by simp];rfl
theorem su {τ:Type} (val:Nat→τ) {i j:Nat} (v:τ) (h:j≠i):tk val i v j=val j:=by
 unfold tk
 cases hb:Nat.beq j i with
 |false=>rfl
 |true=>exact absurd (by simpa using hb) h
def Ht (l:Nat→Bool) (i:Nat):Nat→Bool:=fun j=>bif Nat.beq j i then true else l j
theorem zx {i j:Nat} (h:i<j):Nat.blt i j=true:=Nat.ble_eq_true_of_le h
theorem zo {i j:Nat} (h:j≤i):Nat.blt i j=false:=by
 cases hb:Nat.blt i j with
 |false=>rfl
 |true=>exact absurd (Nat.le_of_ble_eq_true hb) (by omega)
theorem kh {l:List Nat} {j:Nat}:(!l.contains j)=true↔j ∉ l:=by
 rw [Bool.not_eq_true',← Bool.not_eq_true,List.contains_iff_mem]
def Dz:Value→Nat
 |.pointer (some a)=>a.block
 |_=>0
section
variable (ops:List Oper) (cls cons:List (List Nat)) (q:Nat)
def oq (size i:Nat) (o:Oper):Bool:=
 (cz o).all (fun j=>decide (j<i)) &&
 (cls.getD i []).all (fun j=>(cz o).contains j || (cz o).any fun k=>(cls.getD k []).contains j) &&
 (match o.dst with|some d=>decide (d<size) && (List.range ops.length).all (fun j=>j == i || decide (aT ops j≠some d))|none=>true) &&
 ((o.looksAt ops.toArray).all fun t=>(List.range ops.length).all fun j=>decide (aT ops j≠some t) || (cls.getD i []).contains j || (cls.getD j []).contains i) &&
 (decide (cons.getD i []).Nodup && (cons.getD i []).all fun j=>(decide (j<ops.length+q) && (decide (ops.length≤j) || (cls.getD i []).contains j)) && (List.range ops.length).all fun k=>k == i || !(cons.getD k []).contains j)
def gy (size:Nat):Bool:=(List.range ops.length).all fun i=>match ops[i]? with|some o=>oq ops cls cons q size i o|none=>false
end
section
variable {ops:List Oper} {cls cons:List (List Nat)} {q size:Nat}
theorem tU (h:gy ops cls cons q size=true) {i:Nat} {o:Oper} (hi:ops[i]? = some o):oq ops cls cons q size i o=true:=by
 unfold gy at h
 have hlt:i<ops.length:=(List.getElem?_eq_some_iff.1 hi).1
 have:=List.all_eq_true.1 h i (List.mem_range.2 hlt)
 simpa [hi] using this
theorem iP (h:gy ops cls cons q size=true) {i:Nat} {o:Oper} (hi:ops[i]? = some o):
 (∀ j∈cz o,j<i)∧∀ j∈cls.getD i [],j∈cz o∨∃ k∈cz o,j∈cls.getD k []:=by
 have:=tU h hi
 unfold oq at this
 simp only [Bool.and_eq_true] at this
 refine ⟨fun j hj=>by simpa using List.all_eq_true.1 this.1.1.1.1 j hj,fun j hj=>?_⟩
 have:=List.all_eq_true.1 this.1.1.1.2 j hj
 simpa using this
theorem qd {j:Nat} {t:Tmp} (hd:aT ops j=some t):j<ops.length:=by obtain ⟨o,ho,_⟩:=gr hd;exact(List.getElem?_eq_some_iff.1 ho).1
theorem tA (h:gy ops cls cons q size=true) {i:Nat} {d:Tmp} (hd:aT ops i=some d):d<size∧∀ j,aT ops j=some d→j=i:=by
 obtain ⟨o,ho,hdo⟩:=gr hd
 have:=tU h ho
 unfold oq at this
 simp only [Bool.and_eq_true,hdo] at this
 have h2:=this.1.1.2
 simp only [decide_eq_true_eq] at h2
 refine ⟨h2.1,fun j hj=>?_⟩
 have:=List.all_eq_true.1 h2.2 j (List.mem_range.2 (qd hj))
 simpa [hj] using this
theorem Ee (h:gy ops cls cons q size=true) {i:Nat} {o:Oper} (hi:ops[i]? = some o):∀ t∈o.looksAt ops.toArray,∀ j,aT ops j=some t→j∈cls.getD i []∨i∈cls.getD j []:=by
 have:=tU h hi
 unfold oq at this
 simp only [Bool.and_eq_true] at this
 intro t ht j hj
 have h2:=List.all_eq_true.1 (List.all_eq_true.1 this.1.2 t ht) j (List.mem_range.2 (qd hj))
 simpa [hj] using h2
theorem uX (h:gy ops cls cons q size=true) {i:Nat} {o:Oper} (hi:ops[i]? = some o):(cons.getD i []).Nodup∧∀ j∈cons.getD i [],j<ops.length+q∧(ops.length≤j∨j∈cls.getD i [])∧∀ k,k<ops.length→j∈cons.getD k []→k=i:=by
 have:=tU h hi
 unfold oq at this
 simp only [Bool.and_eq_true,decide_eq_true_eq] at this
 obtain ⟨_,h1,h2⟩:=this
 refine ⟨h1,fun j hj=>?_⟩
 have h3:=List.all_eq_true.1 h2 j hj
 simp only [Bool.and_eq_true,Bool.or_eq_true,decide_eq_true_eq,List.contains_iff_mem] at h3
 refine ⟨h3.1.1,h3.1.2,fun k hk hm=>?_⟩
 have h4:=List.all_eq_true.1 h3.2 k (List.mem_range.2 hk)
 simp only [Bool.or_eq_true,beq_iff_eq,Bool.not_eq_true',List.contains_eq_mem,decide_eq_false_iff_not] at h4
 exact h4.resolve_right fun h5=>h5 hm
theorem yV (hok:gy ops cls cons q size=true):∀ (i:Nat),i<ops.length→∀ j∈cls.getD i [],j<i:=by
 intro i
 induction i using Nat.strongRecOn with
 |_ i ih=>
  intro hi j hj
  have hio:ops[i]? = some ops[i]:=by simp [hi]
  obtain ⟨hlt,hcl⟩:=iP hok hio
  rcases hcl j hj with h|⟨k,hk,hjk⟩
  ·exact hlt j h
  ·have:=hlt k hk
   have:=ih k this (by omega) j hjk
   omega
theorem qf (hok:gy ops cls cons q size=true) {listed:Array Bool} (hs:listed.size=ops.length) (h:Region.ready .any ops.toArray listed=[]):
 ∀ i,i<ops.length→listed.getD i false=true:=by
 intro i
 induction i using Nat.strongRecOn with
 |_ i ih=>
  intro hi
  cases hb:listed.getD i false with
  |true=>rfl
  |false=>
   have hio:ops[i]? = some ops[i]:=by simp [hi]
   have hlt:=(iP hok hio).1
   have:i∈Region.ready .any ops.toArray listed:=mem_ready.2 ⟨by simp [hs,hi] at hb ⊢;exact hb,ops[i],by simp [hi],fun e he hbd=>by
    have hm:e.on∈cz ops[i]:=List.mem_map.2 ⟨e,List.mem_filter.2 ⟨by simpa using he,by simpa using hbd⟩,rfl⟩
    exact ih _ (hlt _ hm) (by have:=hlt _ hm;omega)⟩
   rw [h] at this;cases this
end
def sA (ops:List Oper) (cls cons rd:List (List Nat)) (q:Nat):Bool:=(List.range ops.length).all fun i=>(rd.getD i []).all fun j=>
 decide (j<q) && (!(cons.getD i []).contains (ops.length+j) && (List.range ops.length).all fun k => !(cons.getD k []).contains (ops.length+j) || (cls.getD k []).contains i)
theorem HG {ops:List Oper} {cls cons rd:List (List Nat)} {q:Nat} (h:sA ops cls cons rd q=true) {i:Nat} (hi:i<ops.length) {j:Nat} (hj:j∈rd.getD i []):j<q∧ops.length+j ∉ cons.getD i []∧∀ k,k<ops.length→ops.length+j∈cons.getD k []→i∈cls.getD k []:=by
 have h1:=List.all_eq_true.1 (List.all_eq_true.1 h i (List.mem_range.2 hi)) j hj
 rw [Bool.and_eq_true,Bool.and_eq_true] at h1
 refine ⟨of_decide_eq_true h1.1,kh.1 h1.2.1,fun k hk hm=>?_⟩
 have h2:=List.all_eq_true.1 h1.2.2 k (List.mem_range.2 hk)
 rw [Bool.or_eq_true] at h2
 rcases h2 with h2|h2
 ·exact absurd hm (kh.1 h2)
 ·exact List.contains_iff_mem.1 h2
section
variable {P:Program} {ro:Option Nat} {ops:List Oper} {cls cons:List (List Nat)} {a0:Act} {Q:Exit→Act→World→Prop} {w0 w1:World}
def iR {τ:Type} (d0:τ) (ops:List Oper) (cls:List (List Nat)) (Rs:List ((Nat→τ)→List Own)) (I0:List (List Own)) (val:Nat→τ) (j:Nat):List Own:=
 bif Nat.blt j ops.length then (Rs.getD j fun _=>[]) (Ed d0 (j::cls.getD j []) val) else I0.getD (j - ops.length) []
def mw {τ:Type} (d0:τ) (cls:List (List Nat)) (Fs:List ((Nat→τ)→Prop)) (val:Nat→τ) (j:Nat):Prop:=(Fs.getD j fun _=>True) (Ed d0 (j::cls.getD j []) val)
def fH (ops:List Oper) (cons:List (List Nat)) (listed:Nat→Bool) (j:Nat):Bool:=(Nat.ble ops.length j || listed j) && (List.range ops.length).all fun i => !(listed i && (cons.getD i []).any (Nat.beq j))
theorem jT {listed:Nat→Bool} {j:Nat}:fH ops cons listed j=true↔(ops.length≤j∨listed j=true)∧∀ i,i<ops.length→listed i=true→j ∉ cons.getD i []:=by
 unfold fH
 rw [Bool.and_eq_true,Bool.or_eq_true,Nat.ble_eq,List.all_eq_true]
 refine and_congr Iff.rfl ⟨fun h i hi hl hm=>?_,fun h i hi=>?_⟩
 ·have:=h i (List.mem_range.2 hi)
  rw [hl,List.any_eq_true.2 ⟨j,hm,by simp⟩] at this;cases this
 ·cases hl:listed i with
  |false=>rfl
  |true=>
   cases hb:(cons.getD i []).any (Nat.beq j) with
   |false=>rfl
   |true=>
    obtain ⟨x,hx,he⟩:=List.any_eq_true.1 hb
    obtain rfl:j=x:=by simpa using he
    exact absurd hx (h i (List.mem_range.1 hi) hl)
def lC {τ:Type} (π:τ→Value) (ops:List Oper) (cl:List Nat) (a0 a:Act) (val:Nat→τ) (t:Tmp):Prop:=
 match dY ops cl t with
 |some j=>a.tmps.getD t undef=π (val j)
 |none=>a.tmps.getD t undef=a0.tmps.getD t undef
def OS {τ:Type} (π:τ→Value) (d0:τ) (P:Program) (ops:List Oper) (cls cons rd:List (List Nat)) (Rs:List ((Nat→τ)→List Own)) (I0:List (List Own)) (Fs:List ((Nat→τ)→Prop)) (Sh:(Nat→Bool)→(Nat→τ)→List Own) (Bs:List Own) (w0:World) (a0:Act) (i:Nat) (o:Oper):Prop:=
 ∀ (a:Act) (w:World) (val:Nat→τ) (E:List Own) (At:Nat→Bool),At i=false→(∀ j∈cls.getD i [],At j=true)→(∀ k,At k=true→∀ j∈cls.getD k [],At j=true)→a.tmps.size=a0.tmps.size→a.defers=a0.defers→
  (∀ t∈o.looksAt ops.toArray,lC π ops (cls.getD i []) a0 a val t)→
  (∀ j∈cls.getD i [],mw d0 cls Fs val j)→(∀ j∈rd.getD i [],∀ p∈I0.getD j [],p∈E)→St w0 ((cons.getD i []).flatMap (iR d0 ops cls Rs I0 val)++(Sh At val++(Bs++E))) w→
  bX P ops.toArray (fun a' w'=>∃ v,(∀ d,o.dst=some d→a'.tmps.getD d undef=π v)∧mw d0 cls Fs (tk val i v) i∧St w0 (iR d0 ops cls Rs I0 (tk val i v) i++(Sh (Ht At i) (tk val i v)++(Bs++E))) w') [o] a w
theorem vG {q m size:Nat} (hok:gy ops cls cons q size=true) (hT:∀ i,m≤i→i<ops.length→∀ j,j<i→j∈cls.getD i []):
 ∀ (n i:Nat) (listed:Array Bool) (a:Act) (w:World),ops.length=i+n→m≤i→listed.size=ops.length→(∀ j,j<i→listed.getD j false=true)→(∀ j,i≤j→listed.getD j false=false)→
  wpOpsIn (FR ro) 0 P ops.toArray Q (List.range' i n) a w→wpAnyIn (FR ro) 0 P .any ops.toArray Q n listed a w:=by
 intro n
 induction n with
 |zero=>
  intro i listed a w hn him hs h1 h2 h
  have hq:Q .normal a w:=by simpa [wpOpsIn] using h
  refine ⟨?_,hq⟩
  cases hr:Region.ready .any ops.toArray listed with
  |nil=>rfl
  |cons x xs=>
   have hx:x∈Region.ready .any ops.toArray listed:=by rw [hr];exact List.mem_cons_self
   obtain ⟨o,ho,hf,_⟩:=dl hx
   have hlt:=(List.getElem?_eq_some_iff.1 ho).1
   have:=h1 x (by omega)
   rw [hf hs] at this;cases this
 |succ n ih=>
  intro i listed a w hn him hs h1 h2 h
  have hi:i<ops.length:=by omega
  refine ⟨fun hr=>?_,fun k hk=>?_⟩
  ·have:=qf hok hs hr i hi
   rw [h2 i (Nat.le_refl _)] at this;cases this
  obtain ⟨o,ho,hf,hd⟩:=dl hk
  have hkl:=(List.getElem?_eq_some_iff.1 ho).1
  have hki:k=i:=by
   rcases Nat.lt_trichotomy k i with h3|h3|h3
   ·have:=h1 k h3;rw [hf hs] at this;cases this
   ·exact h3
   ·rcases (iP hok ho).2 i (hT k (by omega) hkl i h3) with h4|⟨p,hp,h4⟩
    ·have:=hd i h4;rw [h2 i (Nat.le_refl _)] at this;cases this
    ·have hql:=hd p hp
     have hqi:p<i:=by
      rcases Nat.lt_or_ge p i with h5|h5
      ·exact h5
      ·rw [h2 p h5] at hql;cases hql
     have:=yV hok p (by omega) i h4
     omega
  subst hki
  rw [List.range'_succ,wpOpsIn_cons] at h
  refine wpOpIn_mono (fun a' w' h'=>ih (k+1) _ a' w' (by omega) (by omega) (by simp [hs]) (fun j hj=>?_) (fun j hj=>?_) h') h
  ·by_cases e:k=j
   ·subst e;have:k<listed.size:=by rw [hs];exact hi
    simp [this]
   ·have:=h1 j (by omega);simpa [Array.getElem?_setIfInBounds_ne e] using this
  ·have e:k≠j:=by omega
   have:=h2 j (by omega);simpa [Array.getElem?_setIfInBounds_ne e] using this
structure oJt {τ:Type} (π:τ→Value) (d0:τ) (ops:List Oper) (cls cons:List (List Nat)) (q:Nat) (Rs:List ((Nat→τ)→List Own)) (I0:List (List Own)) (Fs:List ((Nat→τ)→Prop)) (Sh:(Nat→Bool)→(Nat→τ)→List Own) (Bs:List Own) (w0:World) (a0:Act) (m:Nat) (listed:Array Bool) (a:Act) (w:World) (val:Nat→τ):Prop where
 size:a.tmps.size=a0.tmps.size
 defers:a.defers=a0.defers
 lsize:listed.size=ops.length
 tail:∀ i,m≤i→listed.getD i false=false
 done:∀ i d,aT ops i=some d→listed.getD i false=true→a.tmps.getD d undef=π (val i)
 rest:∀ t,(∀ j,aT ops j=some t→listed.getD j false=false)→a.tmps.getD t undef=a0.tmps.getD t undef
 closed:∀ i,listed.getD i false=true→∀ j∈cls.getD i [],listed.getD j false=true
 facts:∀ i,listed.getD i false=true→mw d0 cls Fs val i
 st:St w0 (((List.range (ops.length+q)).filter (fH ops cons fun j=>listed.getD j false)).flatMap (iR d0 ops cls Rs I0 val)++(Sh (fun j=>listed.getD j false) val++Bs)) w
theorem xT {τ:Type} {π:τ→Value} {d0:τ} {q rid m:Nat} {rd:List (List Nat)} (hrd:sA ops cls cons rd q=true) {Rs:List ((Nat→τ)→List Own)} {I0:List (List Own)} {Fs:List ((Nat→τ)→Prop)} {Sh:(Nat→Bool)→(Nat→τ)→List Own} {Bs:List Own} (hm:P.follows .mixedOrders=true) (hok:gy ops cls cons q a0.tmps.size=true) (hsel:Region.noSelect ops.toArray=true)
 (hml:m≤ops.length) (hT:∀ i,m≤i→i<ops.length→∀ j,j<i→j∈cls.getD i [])
 (hob:∀ i o,i<m→ops[i]? = some o→OS π d0 P ops cls cons rd Rs I0 Fs Sh Bs w0 a0 i o)
 (s:St w0 (((List.range (ops.length+q)).filter (fH ops cons fun _=>false)).flatMap (iR d0 ops cls Rs I0 fun _=>d0)++(Sh (fun _=>false) (fun _=>d0)++Bs)) w1)
 (hfin:∀ (b:Act) (w:World) (val:Nat→τ),b.tmps.size=a0.tmps.size→b.defers=a0.defers→(∀ i d,i<m→aT ops i=some d→b.tmps.getD d undef=π (val i))→(∀ t,(∀ i,i<m→aT ops i≠some t)→b.tmps.getD t undef=a0.tmps.getD t undef)→
  (∀ i,i<m→mw d0 cls Fs val i)→St w0 (((List.range (ops.length+q)).filter (fH ops cons fun j=>Nat.blt j m)).flatMap (iR d0 ops cls Rs I0 val)++(Sh (fun j=>Nat.blt j m) val++Bs)) w→bX P ops.toArray (Q .normal) (ops.drop m) b w):
 (Code.region rid ops.toArray true).wpIn (FR ro) 0 P Q a0 w1:=by
 refine wpIn_region_any hm ?_
 have hend:∀ (listed:Array Bool) (a:Act) (w:World) (val:Nat→τ),oJt π d0 ops cls cons q Rs I0 Fs Sh Bs w0 a0 m listed a w val→(∀ i,i<m→listed.getD i false=true)→∀ fuel,ops.length=m+fuel→wpAnyIn (FR ro) 0 P .any ops.toArray Q fuel listed a w:=by
  intro listed a w val I hall fuel hfu
  refine vG hok hT fuel m listed a w hfu (Nat.le_refl _) I.lsize hall I.tail ?_
  have hfd:fuel=(ops.drop m).length:=by rw [List.length_drop];omega
  rw [hfd,wpOpsIn_eq_wpListIn (ops.drop m) m (fun j=>by rw [List.getElem?_toArray,List.getElem?_drop])]
  refine bX.wp ?_
  refine hfin a w val I.size I.defers (fun i d hi hd=>I.done i d hd (hall i hi)) (fun t ht=>I.rest t fun j hj=>?_) (fun i hi=>I.facts i (hall i hi)) ?_
  ·rcases Nat.lt_or_ge j m with h|h
   ·exact absurd hj (ht j h)
   ·exact I.tail j h
  have hfun:(fun j=>listed.getD j false)=fun j=>Nat.blt j m:=by
   funext j
   rcases Nat.lt_or_ge j m with h|h
   ·rw [hall j h];exact(zx h).symm
   ·rw [zo h];exact I.tail j h
  have h9:=I.st
  rw [hfun] at h9
  exact h9
 have hcount:∀ (fuel:Nat) (listed:Array Bool) (a:Act) (w:World) (val:Nat→τ),listed.toList.count false=fuel→oJt π d0 ops cls cons q Rs I0 Fs Sh Bs w0 a0 m listed a w val→wpAnyIn (FR ro) 0 P .any ops.toArray Q fuel listed a w:=by
  intro fuel
  induction fuel with
  |zero=>
   intro listed a w val hc I
   have hall:∀ i,i<ops.length→listed.getD i false=true:=fun i hi=>iZ hc i (by rw [I.lsize];exact hi)
   refine hend listed a w val I (fun i hi=>hall i (by omega)) 0 ?_
   rcases Nat.lt_or_ge m ops.length with h|h
   ·have:=I.tail m (Nat.le_refl _)
    rw [hall m h] at this;cases this
   ·omega
  |succ fuel ih=>
   intro listed a w val hc I
   by_cases hall:∀ i,i<m→listed.getD i false=true
   ·refine hend listed a w val I hall (fuel+1) ?_
    have key:∀ (b:List Bool) (m:Nat),m≤b.length→(∀ i,i<m→b[i]? = some true)→(∀ i,m≤i→i<b.length→b[i]? = some false)→b.count false=b.length - m:=by
     intro b
     induction b with
     |nil=>intro m _ _ _;simp
     |cons x b ihb=>
      intro m hm h1 h2
      cases m with
      |zero=>
       have hx:x=false:=by simpa using h2 0 (Nat.le_refl _) (by simp)
       have:=ihb 0 (Nat.zero_le _) (fun i hi=>by omega) (fun i _ hi=>by simpa using h2 (i+1) (Nat.zero_le _) (by simp;omega))
       subst hx;simp [this]
      |succ m=>
       have hx:x=true:=by simpa using h1 0 (by omega)
       have:=ihb m (by simpa using hm) (fun i hi=>by simpa using h1 (i+1) (by omega)) (fun i hi hi2=>by simpa using h2 (i+1) (by omega) (by simp;omega))
       subst hx;simp [this]
    have hk:=key listed.toList m (by simp [I.lsize];omega)
     (fun i hi=>by have:=hall i hi;have hil:i<listed.size:=by rw [I.lsize];omega
                   simp [hil] at this ⊢;exact this)
     (fun i hi hi2=>by have:=I.tail i hi;have hil:i<listed.size:=by simpa using hi2
                       simp [hil] at this ⊢;exact this)
    rw [hc] at hk
    simp [I.lsize] at hk
    omega
   refine ⟨fun hr=>absurd (fun i hi=>qf hok I.lsize hr i (by omega)) hall,fun k hk=>?_⟩
   obtain ⟨o,ho,hf,hdir⟩:=dl hk
   have hkl:=(List.getElem?_eq_some_iff.1 ho).1
   have hks:k<listed.size:=by rw [I.lsize];exact hkl
   have hkm:k<m:=by
    rcases Nat.lt_or_ge k m with h3|h3
    ·exact h3
    ·exfalso
     apply hall
     intro j hj
     rcases (iP hok ho).2 j (hT k h3 hkl j (by omega)) with h4|⟨p,hp,h4⟩
     ·exact hdir j h4
     ·exact I.closed p (hdir p hp) j h4
   have hu:=hf I.lsize
   have hcl:∀ j∈cls.getD k [],listed.getD j false=true:=fun j hj=>by
    rcases (iP hok ho).2 j hj with h1|⟨q,hq,h1⟩
    ·exact hdir j h1
    ·exact I.closed q (hdir q hq) j h1
   have hcnt:(listed.setIfInBounds k true).toList.count false=fuel:=by have:=jS hks hu;omega
   have hnk:∀ i,listed.getD i false=true→k ∉ cls.getD i []:=fun i hi hm=>by have:=I.closed i hi k hm;rw [hu] at this;cases this
   have hkk:k ∉ cls.getD k []:=fun hm=>by have:=yV hok k hkl k hm;omega
   obtain ⟨hcn,hcc⟩:=uX hok ho
   have hclive:∀ j∈cons.getD k [],fH ops cons (fun j=>listed.getD j false) j=true:=fun j hj=>by
    obtain ⟨_,h2,h3⟩:=hcc j hj
    refine jT.2 ⟨h2.imp id (hcl j),fun i hi hl hm=>?_⟩
    rw [h3 i hi hm] at hl
    rw [hu] at hl;cases hl
   have hperm:((List.range (ops.length+q)).filter (fH ops cons fun j=>listed.getD j false)).Perm (cons.getD k []++(List.range (ops.length+q)).filter (fun j=>fH ops cons (fun j=>listed.getD j false) j && !(cons.getD k []).contains j)):=by
    refine(List.perm_ext_iff_of_nodup (List.nodup_range.filter _) ?_).2 fun j=>?_
    ·rw [List.nodup_append]
     refine ⟨hcn,List.nodup_range.filter _,fun x hx y hy e=>?_⟩
     subst e
     have:=(Bool.and_eq_true _ _▸(List.mem_filter.1 hy).2:_∧_).2
     exact kh.1 this hx
    ·rw [List.mem_append,List.mem_filter,List.mem_filter,List.mem_range,Bool.and_eq_true]
     constructor
     ·rintro ⟨h1,h2⟩
      by_cases hj:j∈cons.getD k []
      ·exact .inl hj
      ·exact .inr ⟨h1,h2,kh.2 hj⟩
     ·rintro (h1|⟨h1,h2,_⟩)
      ·exact ⟨(hcc j h1).1,hclive j h1⟩
      ·exact ⟨h1,h2⟩
   obtain ⟨E,hE⟩:∃ E,E=((List.range (ops.length+q)).filter (fun j=>fH ops cons (fun j=>listed.getD j false) j && !(cons.getD k []).contains j)).flatMap (iR d0 ops cls Rs I0 val):=⟨_,rfl⟩
   have hst:St w0 ((cons.getD k []).flatMap (iR d0 ops cls Rs I0 val)++(Sh (fun j=>listed.getD j false) val++(Bs++E))) w:=by
    refine I.st.perm ?_
    refine((hperm.flatMap_right _).append_right (Sh (fun j=>listed.getD j false) val++Bs)).trans ?_
    rw [List.flatMap_append,← hE,List.append_assoc,← List.append_assoc (Sh _ _)]
    exact(List.perm_append_comm).append_left _
   have hslots:∀ t∈o.looksAt ops.toArray,lC π ops (cls.getD k []) a0 a val t:=fun t ht=>by
    unfold lC
    cases hw:dY ops (cls.getD k []) t with
    |some j=>
     obtain ⟨hmj,oj,hj,hdj⟩:=eU hw
     exact I.done j t (by rw [cP hj,hdj]) (hcl j hmj)
    |none=>
     refine I.rest t fun j hdj=>?_
     cases hb:listed.getD j false with
     |false=>rfl
     |true=>
      rcases Ee hok ho t ht j hdj with h|h
      ·obtain ⟨oj,h1,h2⟩:=gr hdj
       exact absurd h (gU hw j oj h1 h2)
      ·exact absurd h (hnk j hb)
   have hrdE:∀ j∈rd.getD k [],∀ p∈I0.getD j [],p∈E:=fun j hj p hp=>by
    obtain ⟨h1,h2,h3⟩:=HG hrd hkl hj
    rw [hE]
    refine List.mem_flatMap.2 ⟨ops.length+j,List.mem_filter.2 ⟨List.mem_range.2 (by omega),?_⟩,?_⟩
    ·rw [Bool.and_eq_true]
     refine ⟨jT.2 ⟨.inl (Nat.le_add_right _ _),fun i hi hl hm=>hnk i hl (h3 i hi hm)⟩,kh.2 h2⟩
    ·unfold iR
     rw [zo (Nat.le_add_right _ _),cond_false,Nat.add_sub_cancel_left];exact hp
   have hO:=hob k o hkm ho a w val E (fun j=>listed.getD j false) hu hcl I.closed I.size I.defers hslots (fun j hj=>I.facts j (hcl j hj)) hrdE hst
   have hset:=bv hks
   have step:∀ v v' w',(∀ d,o.dst=some d→v'=π v)→mw d0 cls Fs (tk val k v) k→St w0 (iR d0 ops cls Rs I0 (tk val k v) k++(Sh (Ht (fun j=>listed.getD j false) k) (tk val k v)++(Bs++E))) w'→wpAnyIn (FR ro) 0 P .any ops.toArray Q fuel (listed.setIfInBounds k true) (a.put o.dst v') w':=fun v v' w' hv hF hS=>by
    have hmk:∀ i,listed.getD i false=true→Ed d0 (i::cls.getD i []) (tk val k v)=Ed d0 (i::cls.getD i []) val:=fun i hi=>AB fun j hj=>by
     refine su val v fun e=>?_
     subst e
     rcases List.mem_cons.1 hj with h|h
     ·subst h;rw [hu] at hi;cases hi
     ·exact hnk i hi h
    refine ih _ _ w' (tk val k v) hcnt ⟨by rw [Act.tmps_put_size];exact I.size,by cases o.dst<;>exact I.defers,by simp [I.lsize],fun i hi=>(by have h8:=I.tail i hi;have h7:k≠i:=(by omega);simpa [Array.getElem?_setIfInBounds_ne h7] using h8),fun i d hd hl=>?_,fun t ht=>?_,fun i hi j hj=>?_,fun i hi=>?_,?_⟩
    ·obtain ⟨hds,huniq⟩:=tA hok hd
     by_cases hik:i=k
     ·subst hik
      have hdo:o.dst=some d:=by rw [cP ho] at hd;exact hd
      rw [hdo,bU,if_pos ⟨rfl,by rw [I.size];exact hds⟩,uT]
      exact hv d hdo
     ·have hne:o.dst≠some d:=fun e=>hik (huniq k (by rw [cP ho,e])).symm
      rw [su val v hik]
      have h9:=I.done i d hd (((hset i).1 hl).resolve_left hik)
      cases hdo:o.dst with
      |none=>exact h9
      |some d2=>rw [bU,if_neg (fun h=>hne (by rw [hdo,h.1]))];exact h9
    ·have h9:=I.rest t fun j hj=>by
      have:=ht j hj
      cases hb:listed.getD j false with
      |false=>rfl
      |true=>rw [(hset j).2 (.inr hb)] at this;cases this
     cases hdo:o.dst with
     |none=>exact h9
     |some d2=>
      rw [bU,if_neg]
      ·exact h9
      ·rintro ⟨e,_⟩
       subst e
       have:=ht k (by rw [cP ho,hdo])
       rw [(hset k).2 (.inl rfl)] at this;cases this
    ·rcases (hset i).1 hi with e|e
     ·subst e;exact(hset j).2 (.inr (hcl j hj))
     ·exact(hset j).2 (.inr (I.closed i e j hj))
    ·rcases (hset i).1 hi with e|e
     ·subst e;exact hF
     ·unfold mw
      rw [hmk i e]
      exact I.facts i e
    ·
     have hlive:∀ j,fH ops cons (fun j=>(listed.setIfInBounds k true).getD j false) j=true↔(j=k∨(fH ops cons (fun j=>listed.getD j false) j=true∧j ∉ cons.getD k [])):=fun j=>by
      rw [jT,jT]
      constructor
      ·rintro ⟨h1,h2⟩
       by_cases hjk:j=k
       ·exact .inl hjk
       ·refine .inr ⟨⟨h1.imp id fun h=>((hset j).1 h).resolve_left hjk,fun i hi hl=>h2 i hi ((hset i).2 (.inr hl))⟩,h2 k hkl ((hset k).2 (.inl rfl))⟩
      ·rintro (rfl|⟨⟨h1,h2⟩,h3⟩)
       ·refine ⟨.inr ((hset j).2 (.inl rfl)),fun i hi hl hm=>?_⟩
        have hio:ops[i]? = some ops[i]:=by simp [hi]
        rcases ((uX hok hio).2 j hm).2.1 with h|h
        ·omega
        ·rcases (hset i).1 hl with e|e
         ·subst e;exact hkk h
         ·exact hnk i e h
       ·refine ⟨h1.imp id fun h=>(hset j).2 (.inr h),fun i hi hl=>?_⟩
        rcases (hset i).1 hl with e|e
        ·subst e;exact h3
        ·exact h2 i hi e
     have hp2:((List.range (ops.length+q)).filter (fH ops cons fun j=>(listed.setIfInBounds k true).getD j false)).Perm (k::(List.range (ops.length+q)).filter (fun j=>fH ops cons (fun j=>listed.getD j false) j && !(cons.getD k []).contains j)):=by
      refine(List.perm_ext_iff_of_nodup (List.nodup_range.filter _) ?_).2 fun j=>?_
      ·rw [List.nodup_cons]
       refine ⟨fun hm=>?_,List.nodup_range.filter _⟩
       have h1:=(List.mem_filter.1 hm).2
       rw [Bool.and_eq_true] at h1
       rcases (jT.1 h1.1).1 with h|h
       ·omega
       ·rw [hu] at h;cases h
      ·rw [List.mem_filter,List.mem_cons,List.mem_filter,List.mem_range,Bool.and_eq_true,hlive]
       constructor
       ·rintro ⟨h1,h2|⟨h2,h3⟩⟩
        ·exact .inl h2
        ·exact .inr ⟨h1,h2,kh.2 h3⟩
       ·rintro (h1|⟨h1,h2,h3⟩)
        ·exact ⟨by omega,.inl h1⟩
        ·exact ⟨h1,.inr ⟨h2,kh.1 h3⟩⟩
     have hsf:(fun j=>(listed.setIfInBounds k true).getD j false)=Ht (fun j=>listed.getD j false) k:=by
      funext j
      unfold Ht
      cases hb:Nat.beq j k with
      |true=>exact (hset j).2 (.inl (by simpa using hb))
      |false=>
       show _=listed.getD j false
       cases hl:listed.getD j false with
       |true=>exact (hset j).2 (.inr hl)
       |false=>
        cases h9:(listed.setIfInBounds k true).getD j false with
        |false=>rfl
        |true=>
         rcases (hset j).1 h9 with e|e
         ·subst e;simp at hb
         ·rw [hl] at e;cases e
     refine hS.perm ?_
     refine List.Perm.trans ?_ ((hp2.flatMap_right _).append_right (Sh (fun j=>(listed.setIfInBounds k true).getD j false) (tk val k v)++Bs)).symm
     rw [List.flatMap_cons,hsf]
     have hEq:((List.range (ops.length+q)).filter (fun j=>fH ops cons (fun j=>listed.getD j false) j && !(cons.getD k []).contains j)).flatMap (iR d0 ops cls Rs I0 (tk val k v))=E:=by
      rw [hE,List.flatMap_def,List.flatMap_def]
      congr 1
      refine List.map_congr_left fun j hj=>?_
      have h1:=(List.mem_filter.1 hj).2
      rw [Bool.and_eq_true] at h1
      unfold iR
      rcases Nat.lt_or_ge j ops.length with h|h
      ·have hl:=(jT.1 h1.1).1.resolve_left (by omega)
       rw [hmk j hl]
      ·rw [zo h];rfl
     rw [hEq,List.append_assoc,← List.append_assoc (Sh _ _)]
     exact(List.perm_append_comm).append_left _
   have ho':ops.toArray[k]? = some o:=by simpa using ho
   unfold wpOpIn
   simp only [ho']
   unfold bX at hO
   split at hO
   ·rename_i hw
    rw [if_pos hw]
    exact hO.wp fun v w' h9=>by
     unfold bX at h9
     obtain ⟨u,h1,h2,h3⟩:=h9
     refine step u v w' (fun d hd=>?_) h2 h3
     have:=h1 d hd
     rwa [hd,bU,if_pos ⟨rfl,by rw [I.size];exact(tA hok (by rw [cP ho,hd])).1⟩] at this
   ·rename_i hw
    rw [if_neg hw]
    unfold bX at hO
    obtain ⟨u,h1,h2,h3⟩:=hO
    refine ⟨fun _ _=>trivial,step u undef w (fun d hd=>?_) h2 h3⟩
    have:=h1 d hd
    rwa [hd,bU,if_pos ⟨rfl,by rw [I.size];exact(tA hok (by rw [cP ho,hd])).1⟩] at this
 have hz:∀ i,(Array.replicate ops.toArray.size false).getD i false=false:=fun i=>by simp [Array.getElem?_replicate];split<;>rfl
 have hfz:(fun j=>(Array.replicate ops.toArray.size false).getD j false)=fun _=>false:=funext hz
 refine hcount _ _ _ _ (fun _=>d0) (by simp) ⟨rfl,rfl,by simp,fun i _=>hz i,fun i d _ h=>?_,fun _ _=>rfl,fun i h=>?_,fun i h=>?_,?_⟩
 ·rw [hz] at h;cases h
 ·rw [hz] at h;cases h
 ·rw [hz] at h;cases h
 ·rw [hfz];exact s.drew
end
section
variable {P:Program} {ro:Option Nat} {ops:List Oper} {cls cons:List (List Nat)} {a0:Act} {Q:Exit→Act→World→Prop} {w0 w1:World}
def mz (F:Nat→Oper→Prop):List Oper→Nat→Prop
 |[],_=>True
 |o::r,i=>F i o∧mz F r (i+1)
theorem ug {F:Nat→Oper→Prop}:∀ {l:List Oper} {k:Nat},mz F l k→∀ i o,l[i]? = some o→F (k+i) o
 |[],_,_,i,o,h=>by simp at h
 |x::r,k,H,0,o,h=>by simp at h;subst h;exact H.1
 |x::r,k,H,i+1,o,h=>by
  have:=ug H.2 i o (by simpa using h)
  rwa [show k+(i+1)=k+1+i by omega]
def Aq (m:Nat) (cls:List (List Nat)) (n:Nat):Bool:=Nat.ble m n && (List.range n).all fun i=>Nat.blt i m || (List.range i).all fun j=>(cls.getD i []).contains j
theorem z8 {m n:Nat} {cls:List (List Nat)} (h:Aq m cls n=true):m≤n∧∀ i,m≤i→i<n→∀ j,j<i→j∈cls.getD i []:=by
 unfold Aq at h
 rw [Bool.and_eq_true] at h
 refine ⟨Nat.le_of_ble_eq_true h.1,fun i h1 h2 j hj=>?_⟩
 have h3:=List.all_eq_true.1 h.2 i (List.mem_range.2 h2)
 rw [zo h1,Bool.false_or] at h3
 have h4:=List.all_eq_true.1 h3 j (List.mem_range.2 hj)
 exact List.contains_iff_mem.1 h4
theorem BA {τ:Type} {π:τ→Value} {d0:τ} {rid N:Nat} {L:List (Nat × Value)} {Df:List Deferred} {B:List Own} (q m:Nat) (cls cons rd:List (List Nat)) (Rs:List ((Nat→τ)→List Own)) (I0:List (List Own)) (Fs:List ((Nat→τ)→Prop)) (Sh:(Nat→Bool)→(Nat→τ)→List Own) (Bs:List Own)
 (h:Sl N a0 L Df) (s:St w0 B w1) (hB:((List.range (ops.length+q)).filter (fH ops cons fun _=>false)).flatMap (iR d0 ops cls Rs I0 fun _=>d0)++(Sh (fun _=>false) (fun _=>d0)++Bs)=B) (hm:P.follows .mixedOrders=true) (hok:(gy ops cls cons q N && Aq m cls ops.length)=true) (hrd:sA ops cls cons rd q=true) (hsel:Region.noSelect ops.toArray=true)
 (hob:mz (OS π d0 P ops cls cons rd Rs I0 Fs Sh Bs w0 a0) (ops.take m) 0) (lv:List Nat) (hlv:(List.range (ops.length+q)).filter (fH ops cons fun j=>Nat.blt j m)=lv)
 (hfin:∀ (b:Act) (w:World) (val:Nat→τ),b.tmps.size=N→b.defers=Df→(∀ i d,Nat.blt i m=true→aT ops i=some d→b.tmps.getD d undef=π (val i))→(∀ t,(∀ i,Nat.blt i m=true→aT ops i≠some t)→b.tmps.getD t undef=a0.tmps.getD t undef)→
  (∀ i,Nat.blt i m=true→mw d0 cls Fs val i)→St w0 (lv.flatMap (iR d0 ops cls Rs I0 val)++(Sh (fun j=>Nat.blt j m) val++Bs)) w→bX P ops.toArray (Q .normal) (ops.drop m) b w):
 (Code.region rid ops.toArray true).wpIn (FR ro) 0 P Q a0 w1:=by
 subst hB
 obtain ⟨hok,htl⟩:=(Bool.and_eq_true _ _▸hok:_∧_)
 obtain ⟨hml,hT⟩:=z8 htl
 refine xT hrd hm (by rw [h.size];exact hok) hsel hml hT (fun i o him hi=>?_) s fun b w val h1 h2 h3 h4 h5 h6=>hfin b w val (h1.trans h.size) (h2.trans h.defers) (fun i d hi=>h3 i d (Nat.le_of_ble_eq_true hi)) (fun t ht=>h4 t fun i hi=>ht i (zx hi)) (fun i hi=>h5 i (Nat.le_of_ble_eq_true hi)) (by rw [hlv] at h6;exact h6)
 have:=ug hob i o (by rw [List.getElem?_take,if_pos him];exact hi)
 rwa [Nat.zero_add] at this
end
abbrev ET:Value→Value:=fun v=>v
inductive FcE (τ:Type) where
 |n
 |v (X:Value)
 |p
 |f (F:(Nat→τ)→Prop)
 |r (R:(Nat→τ)→List Own) (F:(Nat→τ)→Prop)
 |m (R:(Nat→τ)→List Own)
 |w (R:(Nat→τ)→List Own) (X:Value)
 |q (R:(Nat→τ)→List Own)
def FcE.fct {τ:Type} (π:τ→Value) (i:Nat):FcE τ→(Nat→τ)→Prop
 |.v X=>fun v=>π (v i)=X
 |.w _ X=>fun v=>π (v i)=X
 |.p=>fun v=>∃ b,π (v i)=.pointer (some ⟨b,0,none⟩)
 |.q _=>fun v=>∃ b,π (v i)=.pointer (some ⟨b,0,none⟩)
 |.f F=>F
 |.r _ F=>F
 |_=>fun _=>True
def FcE.res {τ:Type}:FcE τ→(Nat→τ)→List Own
 |.r R _=>R
 |.m R=>R
 |.w R _=>R
 |.q R=>R
 |_=>fun _=>[]
def wx {τ:Type} (π:τ→Value):List (FcE τ)→Nat→List ((Nat→τ)→Prop)
 |[],_=>[]
 |e::r,i=>e.fct π i::wx π r (i+1)
def Aj {τ:Type}:List (FcE τ)→List ((Nat→τ)→List Own)
 |[]=>[]
 |e::r=>e.res::Aj r
theorem tS {τ:Type} {π:τ→Value}:∀ {E:List (FcE τ)} {k j:Nat} {X:Value},E.getD j .n=.v X→(wx π E k).getD j (fun _=>True)=fun v=>π (v (k+j))=X
 |[],k,j,X,h=>by cases j<;>cases h
 |e::r,k,0,X,h=>by
  have h:e=.v X:=h
  subst h;rfl
 |e::r,k,j+1,X,h=>by
  have:=tS (π:=π) (E:=r) (k:=k+1) (j:=j) (X:=X) h
  rw [show k+(j+1)=k+1+j by omega];exact this
theorem H2 {τ:Type} {π:τ→Value}:∀ {E:List (FcE τ)} {k j:Nat} {R:(Nat→τ)→List Own} {X:Value},E.getD j .n=.w R X→(wx π E k).getD j (fun _=>True)=fun v=>π (v (k+j))=X
 |[],k,j,R,X,h=>by cases j<;>cases h
 |e::r,k,0,R,X,h=>by
  have h:e=.w R X:=h
  subst h;rfl
 |e::r,k,j+1,R,X,h=>by
  have:=H2 (π:=π) (E:=r) (k:=k+1) (j:=j) (R:=R) (X:=X) h
  rw [show k+(j+1)=k+1+j by omega];exact this
theorem zM {τ:Type}:∀ {E:List (FcE τ)} {j:Nat} {X:Value},E.getD j .n=.v X→(Aj E).getD j (fun _=>[])=fun _=>[]
 |[],j,X,h=>by cases j<;>cases h
 |e::r,0,X,h=>by
  have h:e=.v X:=h
  subst h;rfl
 |e::r,j+1,X,h=>zM (E:=r) (j:=j) (X:=X) h
def xE {τ:Type} (E:List (FcE τ)) (j:Nat):Option Value:=match E.getD j .n with
 |.v X=>some X
 |.w _ X=>some X
 |_=>none
theorem I6 {τ:Type} {π:τ→Value} {d0:τ} {cls:List (List Nat)} {E:List (FcE τ)} {val:Nat→τ} {j:Nat} {X:Value} (h:xE E j=some X) (hF:mw d0 cls (wx π E 0) val j):π (val j)=X:=by
 unfold xE at h
 have key:(wx π E 0).getD j (fun _=>True)=(fun v=>π (v (0+j))=X)→π (val j)=X:=fun hg=>by
  unfold mw at hF
  rw [hg,Nat.zero_add] at hF
  have h9:π (Ed d0 (j::cls.getD j []) val j)=X:=hF
  unfold Ed at h9
  rw [List.any_eq_true.2 ⟨j,List.mem_cons_self,by simp⟩] at h9
  exact h9
 split at h
 ·next Y hY=>cases h;exact key (tS hY)
 ·next Y hY=>cases h;exact key (H2 hY)
 ·cases h
theorem PF {τ:Type} {π:τ→Value} {d0:τ} {cls:List (List Nat)} {E:List (FcE τ)} {val:Nat→τ} {i:Nat} {u:τ} {Y:Value} (hE:E.getD i .n=.v Y) (hX:π u=Y):mw d0 cls (wx π E 0) (tk val i u) i:=by
 unfold mw
 rw [tS hE]
 show π (Ed d0 (i::cls.getD i []) (tk val i u) (0+i))=Y
 rw [Nat.zero_add]
 unfold Ed
 rw [List.any_eq_true.2 ⟨i,List.mem_cons_self,by simp⟩,← hX]
 exact congrArg π (uT val i u)
theorem cF {F:Nat→Oper→Prop} {o:Oper} {r:List Oper} {i:Nat} (h:F i o) (t:mz F r (i+1)):mz F (o::r) i:=⟨h,t⟩
def HN {τ:Type} (π:τ→Value) (d0:τ) (P:Program) (ops:List Oper) (cls cons:List (List Nat)) (Rs:List ((Nat→τ)→List Own)) (I0:List (List Own)) (Fs:List ((Nat→τ)→Prop)) (Bs:List Own) (w0:World) (a0:Act) (i:Nat) (o:Oper):Prop:=
 ∀ (a:Act) (w:World) (val:Nat→τ) (E:List Own),a.tmps.size=a0.tmps.size→a.defers=a0.defers→
  (∀ t∈o.looksAt ops.toArray,lC π ops (cls.getD i []) a0 a val t)→(∀ j∈cls.getD i [],mw d0 cls Fs val j)→St w0 ((cons.getD i []).flatMap (iR d0 ops cls Rs I0 val)++(Bs++E)) w→
  bX P ops.toArray (fun a' w'=>∃ v,(∀ d,o.dst=some d→a'.tmps.getD d undef=π v)∧mw d0 cls Fs (tk val i v) i∧St w0 (iR d0 ops cls Rs I0 (tk val i v) i++(Bs++E)) w') [o] a w
theorem n7 {F G:Nat→Oper→Prop} (h:∀ i o,F i o→G i o):∀ {l:List Oper} {k:Nat},mz F l k→mz G l k
 |[],_,_=>trivial
 |_::_,_,H=>⟨h _ _ H.1,n7 h H.2⟩
theorem uC (ops:List Oper) (cls cons:List (List Nat)) (q:Nat):sA ops cls cons [] q=true:=by
 unfold sA
 exact List.all_eq_true.2 fun i _=>rfl
theorem B3 (cls:List (List Nat)) (n:Nat):Aq n cls n=true:=by
 unfold Aq
 rw [Bool.and_eq_true]
 exact ⟨Nat.ble_eq_true_of_le (Nat.le_refl n),List.all_eq_true.2 fun i hi=>by rw [zx (List.mem_range.1 hi)];rfl⟩
section
variable {P:Program} {ro:Option Nat} {ops:List Oper} {a0:Act} {Q:Exit→Act→World→Prop} {w0 w1:World} {τ:Type} {π:τ→Value} {d0:τ} {rid N:Nat} {L:List (Nat × Value)} {Df:List Deferred} {B:List Own}
theorem zc (q:Nat) (cls cons rd:List (List Nat)) (Rs:List ((Nat→τ)→List Own)) (I0:List (List Own)) (Fs:List ((Nat→τ)→Prop)) (Sh:(Nat→Bool)→(Nat→τ)→List Own) (Bs:List Own)
 (h:Sl N a0 L Df) (s:St w0 B w1) (hB:((List.range (ops.length+q)).filter (fH ops cons fun _=>false)).flatMap (iR d0 ops cls Rs I0 fun _=>d0)++(Sh (fun _=>false) (fun _=>d0)++Bs)=B) (hm:P.follows .mixedOrders=true) (hok:gy ops cls cons q N=true) (hrd:sA ops cls cons rd q=true) (hsel:Region.noSelect ops.toArray=true)
 (hob:mz (OS π d0 P ops cls cons rd Rs I0 Fs Sh Bs w0 a0) ops 0) (lv:List Nat) (hlv:(List.range (ops.length+q)).filter (fH ops cons fun j=>Nat.blt j ops.length)=lv)
 (hfin:∀ (b:Act) (w:World) (val:Nat→τ),b.tmps.size=N→b.defers=Df→(∀ i d,aT ops i=some d→b.tmps.getD d undef=π (val i))→(∀ t,(∀ i,aT ops i≠some t)→b.tmps.getD t undef=a0.tmps.getD t undef)→
  (∀ i,Nat.blt i ops.length=true→mw d0 cls Fs val i)→St w0 (lv.flatMap (iR d0 ops cls Rs I0 val)++(Sh (fun j=>Nat.blt j ops.length) val++Bs)) w→Q .normal b w):
 (Code.region rid ops.toArray true).wpIn (FR ro) 0 P Q a0 w1:=by
 refine BA q ops.length cls cons rd Rs I0 Fs Sh Bs h s hB hm (by rw [hok,B3];rfl) hrd hsel (by rw [List.take_length];exact hob) lv hlv fun b w val h1 h2 h3 h4 h5 h6=>?_
 rw [List.drop_length]
 exact bX.nil.2 (hfin b w val h1 h2 (fun i d hd=>h3 i d (zx (qd hd)) hd) (fun t ht=>h4 t fun i _=>ht i) h5 h6)
theorem zJ (q:Nat) (cls cons:List (List Nat)) (Rs:List ((Nat→τ)→List Own)) (I0:List (List Own)) (Fs:List ((Nat→τ)→Prop)) (Bs:List Own)
 (h:Sl N a0 L Df) (s:St w0 B w1) (hB:((List.range (ops.length+q)).filter (fH ops cons fun _=>false)).flatMap (iR d0 ops cls Rs I0 fun _=>d0)++Bs=B) (hm:P.follows .mixedOrders=true) (hok:gy ops cls cons q N=true) (hsel:Region.noSelect ops.toArray=true)
 (hob:mz (HN π d0 P ops cls cons Rs I0 Fs Bs w0 a0) ops 0) (lv:List Nat) (hlv:(List.range (ops.length+q)).filter (fH ops cons fun j=>Nat.blt j ops.length)=lv)
 (hfin:∀ (b:Act) (w:World) (val:Nat→τ),b.tmps.size=N→b.defers=Df→(∀ i d,aT ops i=some d→b.tmps.getD d undef=π (val i))→(∀ t,(∀ i,aT ops i≠some t)→b.tmps.getD t undef=a0.tmps.getD t undef)→
  (∀ i,Nat.blt i ops.length=true→mw d0 cls Fs val i)→St w0 (lv.flatMap (iR d0 ops cls Rs I0 val)++Bs) w→Q .normal b w):
 (Code.region rid ops.toArray true).wpIn (FR ro) 0 P Q a0 w1:=
 zc q cls cons [] Rs I0 Fs (fun _ _=>[]) Bs h s hB hm hok (uC ops cls cons q) hsel (n7 (fun i o H a w val E _ _ _ _ h1 h2 h3 h4 _ s=>H a w val E h1 h2 h3 h4 s) hob) lv hlv hfin
theorem KJ (q m:Nat) (cls cons:List (List Nat)) (Rs:List ((Nat→τ)→List Own)) (I0:List (List Own)) (Fs:List ((Nat→τ)→Prop)) (Bs:List Own)
 (h:Sl N a0 L Df) (s:St w0 B w1) (hB:((List.range (ops.length+q)).filter (fH ops cons fun _=>false)).flatMap (iR d0 ops cls Rs I0 fun _=>d0)++Bs=B) (hm:P.follows .mixedOrders=true) (hok:(gy ops cls cons q N && Aq m cls ops.length)=true) (hsel:Region.noSelect ops.toArray=true)
 (hob:mz (HN π d0 P ops cls cons Rs I0 Fs Bs w0 a0) (ops.take m) 0) (lv:List Nat) (hlv:(List.range (ops.length+q)).filter (fH ops cons fun j=>Nat.blt j m)=lv)
 (hfin:∀ (b:Act) (w:World) (val:Nat→τ),b.tmps.size=N→b.defers=Df→(∀ i d,Nat.blt i m=true→aT ops i=some d→b.tmps.getD d undef=π (val i))→(∀ t,(∀ i,Nat.blt i m=true→aT ops i≠some t)→b.tmps.getD t undef=a0.tmps.getD t undef)→
  (∀ i,Nat.blt i m=true→mw d0 cls Fs val i)→St w0 (lv.flatMap (iR d0 ops cls Rs I0 val)++Bs) w→bX P ops.toArray (Q .normal) (ops.drop m) b w):
 (Code.region rid ops.toArray true).wpIn (FR ro) 0 P Q a0 w1:=
 BA q m cls cons [] Rs I0 Fs (fun _ _=>[]) Bs h s hB hm hok (uC ops cls cons q) hsel (n7 (fun i o H a w val E _ _ _ _ h1 h2 h3 h4 _ s=>H a w val E h1 h2 h3 h4 s) hob) lv hlv hfin
abbrev mW:=fun (q:Nat) (cls cons:List (List Nat)) (I0:List (List Own)) (E:List (FcE Value)) => @zJ P ro ops a0 Q w0 w1 Value ET undef rid N L Df B q cls cons (Aj E) I0 (wx ET E 0)
abbrev ka:=fun (q m:Nat) (cls cons:List (List Nat)) (I0:List (List Own)) (E:List (FcE Value)) => @KJ P ro ops a0 Q w0 w1 Value ET undef rid N L Df B q m cls cons (Aj E) I0 (wx ET E 0)
abbrev xB {γ:Type} [Inhabited γ]:=fun (q:Nat) (cls cons:List (List Nat)) (I0:List (List Own)) (E:List (FcE (Value × γ))) => @zJ P ro ops a0 Q w0 w1 (Value × γ) Prod.fst (undef,default) rid N L Df B q cls cons (Aj E) I0 (wx Prod.fst E 0)
abbrev JI:=fun (q:Nat) (cls cons rd:List (List Nat)) (I0:List (List Own)) (E:List (FcE Value)) => @zc P ro ops a0 Q w0 w1 Value ET undef rid N L Df B q cls cons rd (Aj E) I0 (wx ET E 0)
theorem dK {cl:List Nat} {a:Act} {val:Nat→τ} {lk9:List Tmp} (hl:∀ t∈lk9,lC π ops cl a0 a val t) (t j:Nat) (hm:lk9.contains t=true) (hw:dY ops cl t=some j):a.tmps.getD t undef=π (val j):=by
 have:=hl t (List.contains_iff_mem.1 hm)
 unfold lC at this
 rw [hw] at this
 exact this
theorem JV {cl:List Nat} {a:Act} {val:Nat→τ} {lk9:List Tmp} (hl:∀ t∈lk9,lC π ops cl a0 a val t) (t:Nat) (hm:lk9.contains t=true) (hw:dY ops cl t=none) {v:Value} (hv:a0.tmps.getD t undef=v):a.tmps.getD t undef=v:=by
 have:=hl t (List.contains_iff_mem.1 hm)
 unfold lC at this
 rw [hw] at this
 exact this.trans hv
end
section
variable {ops:List Oper} {a0:Act}
theorem Kt {o:Oper} {a:Act} {v:Value} (D:Tmp) (hd:o.dst=some D) (h:a.tmps.getD D undef=v):∀ d,o.dst=some d→a.tmps.getD d undef=v:=fun d hd'=>by
 rw [hd] at hd';cases hd';exact h
theorem iL {o:Oper} {a:Act} {v:Value} (hd:o.dst=none):∀ d,o.dst=some d→a.tmps.getD d undef=v:=fun d hd'=>by
 rw [hd] at hd';cases hd'
theorem ly {N:Nat} {L:List (Nat × Value)} {Df:List Deferred} {b:Act} (news:List (Nat × Value)) (h:Sl N a0 L Df) (hs:b.tmps.size=N) (hd:b.defers=Df)
 (hr:∀ t,(∀ i,aT ops i≠some t)→b.tmps.getD t undef=a0.tmps.getD t undef) (hn:qN b news)
 (hc:((List.range ops.length).all fun i=>match aT ops i with|some t=>news.any (fun p=>Nat.beq p.1 t)|none=>true)=true):Sl N b (news++L) Df:=by
 refine sl_new (ops:=ops) (mH:=fun _=>true) news h hs hd (fun t ht=>hr t fun i hi=>?_) hn ?_
 ·have:=List.all_eq_true.1 ht i (List.mem_range.2 (qd hi))
  rw [hi] at this
  simp at this
 ·refine List.all_eq_true.2 fun i hi=>?_
  have:=List.all_eq_true.1 hc i hi
  cases hdi:aT ops i with
  |none=>rfl
  |some t=>rw [hdi] at this;exact this
theorem kO {N:Nat} {L:List (Nat × Value)} {Df:List Deferred} {b:Act} (m:Nat) (news:List (Nat × Value)) (h:Sl N a0 L Df) (hs:b.tmps.size=N) (hd:b.defers=Df)
 (hr:∀ t,(∀ i,Nat.blt i m=true→aT ops i≠some t)→b.tmps.getD t undef=a0.tmps.getD t undef) (hn:qN b news)
 (hc:((List.range m).all fun i=>match aT ops i with|some t=>news.any (fun p=>Nat.beq p.1 t)|none=>true)=true):Sl N b (news++L) Df:=by
 refine sl_new (ops:=ops) (mH:=fun i=>Nat.blt i m) news h hs hd (fun t ht=>hr t fun i hi hdi=>?_) hn ?_
 ·have:=List.all_eq_true.1 ht i (List.mem_range.2 (qd hdi))
  simp only [hdi,hi] at this
  simp at this
 ·refine List.all_eq_true.2 fun i hi=>?_
  cases hb:Nat.blt i m with
  |false=>rfl
  |true=>
   have:=List.all_eq_true.1 hc i (List.mem_range.2 (Nat.le_of_ble_eq_true hb))
   cases hdi:aT ops i with
   |none=>rfl
   |some t=>rw [hdi] at this;exact this
end
theorem dh {a b:Act} {N:Nat} {M:List (Nat × Value)} {Df:List Deferred} (L:List (Nat × Value)) (h:Sl N a M Df) (hs:b.tmps.size=a.tmps.size) (hd:b.defers=a.defers) (H:qN b L):Sl N b L Df:=aD L (hs.trans h.size) (hd.trans h.defers) (holds_lk H)
section
variable {ops:List Oper} {a0 a:Act} {cl:List Nat} {τ:Type} {π:τ→Value} {val:Nat→τ} {lk9:List Tmp} {v:Value}
theorem bu (hl:∀ t∈lk9,lC π ops cl a0 a val t) (t j:Nat) (hw:(lk9.contains t && (dY ops cl t == some j))=true) (e:π (val j)=v):a.tmps.getD t undef=v:=by
 obtain ⟨h1,h2⟩:=(Bool.and_eq_true _ _).mp hw
 exact(dK hl t j h1 (eq_of_beq h2)).trans e
theorem gN (hl:∀ t∈lk9,lC π ops cl a0 a val t) (t:Nat) (hw:(lk9.contains t && (dY ops cl t == none))=true) (hv:a0.tmps.getD t undef=v):a.tmps.getD t undef=v:=by
 obtain ⟨h1,h2⟩:=(Bool.and_eq_true _ _).mp hw
 exact JV hl t h1 (eq_of_beq h2) hv
end
theorem bw {o:Oper} {a:Act} {v:Value} {N:Nat} {L:List (Nat × Value)} {Df:List Deferred} (D:Tmp) (h:Sl N a L Df) (hv:lk L D=some v) (hd:o.dst=some D):∀ d,o.dst=some d→a.tmps.getD d undef=v:=Kt D hd (h.holds D _ hv)
def Jr (ops:List Oper) (j t:Nat):Bool:=match ops[j]? with
 |some ⟨some d,_,_,_,_,_⟩=>Nat.beq d t
 |_=>false
def NY (ops:List Oper) (t:Nat):List Nat→Option Nat
 |[]=>none
 |j::r=>bif Jr ops j t then some j else NY ops t r
theorem BU (ops:List Oper) (j t:Nat):Jr ops j t=decide ((ops[j]?).bind (·.dst)=some t):=by
 unfold Jr
 split
 ·next d _ _ _ _ _ h=>
  rw [h]
  show Nat.beq d t=decide (some d=some t)
  cases hb:Nat.beq d t with
  |true=>rw [Nat.eq_of_beq_eq_true hb];simp
  |false=>
   have:d≠t:=fun e=>by subst e;simp at hb
   simp [this]
 ·next h=>
  cases ho:ops[j]? with
  |none=>simp
  |some o=>
   obtain ⟨d,a,b,c,e,f⟩:=o
   cases d with
   |none=>simp
   |some d=>exact absurd ho (h d a b c e f)
theorem Em (ops:List Oper) (t:Nat):∀ cl:List Nat,NY ops t cl=dY ops cl t
 |[]=>rfl
 |j::r=>by
  unfold NY dY
  rw [List.find?_cons,BU,Em ops t r]
  cases decide ((ops[j]?).bind (·.dst)=some t)<;>rfl
def B1 {τ:Type} (ops:List Oper) (cl:List Nat) (L:List (Nat × Value)) (E:List (FcE τ)) (t:Nat):Option Value:=match NY ops t cl with
 |some j=>xE E j
 |none=>lk L t
def MF {τ:Type} (ops:List Oper) (cl:List Nat) (L:List (Nat × Value)) (E:List (FcE τ)) (op:Op):List (Nat × Value):=
 op.operands.toList.filterMap fun x=>match x with
  |.tmp t=>(B1 ops cl L E t).map fun v=>(t,v)
  |_=>none
section
variable {P:Program} {ops:List Oper} {cls cons:List (List Nat)} {I0:List (List Own)} {Bs:List Own} {w0:World} {a0:Act} {τ:Type} {π:τ→Value} {d0:τ} {E:List (FcE τ)} {T:List (Nat × Nat × Nat)} {N:Nat} {L:List (Nat × Value)} {Df:List Deferred}
theorem Nw (mk:Value→τ) (hmk:∀ X,π (mk X)=X) (hT:FT P T) (h:Sl N a0 L Df) {X:Value} {d:Tmp} {op:Op} {ty:TypeId} {pos:String} {af:Array Edge} {l:List Oper} {i:Nat}
 (hev:yM T (MF ops (cls.getD i []) L E op) op=some X) (hX:E.getD i .n=.v X) (hok:(Nat.blt d N && (Nat.blt i ops.length && (cons.getD i []).isEmpty))=true)
 (k:mz (HN π d0 P ops cls cons (Aj E) I0 (wx π E 0) Bs w0 a0) l (i+1)):mz (HN π d0 P ops cls cons (Aj E) I0 (wx π E 0) Bs w0 a0) (⟨some d,op,ty,pos,af,none⟩::l) i:=by
 refine ⟨fun a w val E9 hs hd hl hF s=>?_,k⟩
 rw [Bool.and_eq_true,Bool.and_eq_true] at hok
 obtain ⟨hdl,hil,hce⟩:=hok
 rw [List.isEmpty_iff] at hce
 have hM:∀ t v,lk (MF ops (cls.getD i []) L E op) t=some v→a.tmps.getD t undef=v:=fun t v hm=>by
  obtain ⟨x,hx,hxm⟩:=List.mem_filterMap.1 (xf hm)
  cases x with
  |tmp u=>
   cases hsr:B1 ops (cls.getD i []) L E u with
   |none=>
    have hxm:(B1 ops (cls.getD i []) L E u).map (fun v=>(u,v))=some (t,v):=hxm
    rw [hsr] at hxm;cases hxm
   |some y=>
    have hxm:(B1 ops (cls.getD i []) L E u).map (fun v=>(u,v))=some (t,v):=hxm
    simp only [hsr,Option.map_some,Option.some.injEq,Prod.mk.injEq] at hxm
    obtain ⟨rfl,rfl⟩:=hxm
    have hlook:u∈(Oper.looksAt ops.toArray ⟨some d,op,ty,pos,af,none⟩):=List.mem_append_left _ (List.mem_filterMap.2 ⟨.tmp u,hx,rfl⟩)
    have h9:=hl u hlook
    unfold lC at h9
    unfold B1 at hsr
    rw [Em] at hsr
    cases hw:dY ops (cls.getD i []) u with
    |some j=>
     rw [hw] at h9 hsr
     exact h9.trans (I6 hsr (hF j (eU hw).1))
    |none=>
     rw [hw] at h9 hsr
     exact h9.trans (h.holds u y hsr)
  |_=>simp at hxm
 have hS:Sl N a (MF ops (cls.getD i []) L E op) Df:=⟨hs.trans h.size,hd.trans h.defers,hM⟩
 refine ae hS (im hT hS hev) hdl fun f h9=>av ⟨mk X,fun d' hd'=>?_,PF hX (hmk X),?_⟩
 ·cases hd'
  rw [hmk];exact h9.holds d X (by unfold lk;simp)
 ·rw [hce] at s
  have e:iR d0 ops cls (Aj E) I0 (tk val i (mk X)) i=[]:=by
   unfold iR
   rw [hil,zM hX];rfl
  rw [e];exact s
end
section
variable {P:Program} {ops:List Oper} {cls cons:List (List Nat)} {I0:List (List Own)} {Bs:List Own} {w0:World} {a0:Act} {T:List (Nat × Nat × Nat)} {N:Nat} {L:List (Nat × Value)} {Df:List Deferred} {d:Tmp} {op:Op} {ty:TypeId} {pos:String} {af:Array Edge} {l:List Oper} {i:Nat} {X:Value}
theorem iz {E:List (FcE Value)} (hT:FT P T) (h:Sl N a0 L Df) (hev:yM T (MF ops (cls.getD i []) L E op) op=some X) (hX:E.getD i .n=.v X) (hok:(Nat.blt d N && (Nat.blt i ops.length && (cons.getD i []).isEmpty))=true)
 (k:mz (HN ET undef P ops cls cons (Aj E) I0 (wx ET E 0) Bs w0 a0) l (i+1)):mz (HN ET undef P ops cls cons (Aj E) I0 (wx ET E 0) Bs w0 a0) (⟨some d,op,ty,pos,af,none⟩::l) i:=Nw (fun x=>x) (fun _=>rfl) hT h hev hX hok k
theorem Fy {γ:Type} [Inhabited γ] {E:List (FcE (Value × γ))} (hT:FT P T) (h:Sl N a0 L Df) (hev:yM T (MF ops (cls.getD i []) L E op) op=some X) (hX:E.getD i .n=.v X) (hok:(Nat.blt d N && (Nat.blt i ops.length && (cons.getD i []).isEmpty))=true)
 (k:mz (HN Prod.fst (undef,default) P ops cls cons (Aj E) I0 (wx Prod.fst E 0) Bs w0 a0) l (i+1)):mz (HN Prod.fst (undef,default) P ops cls cons (Aj E) I0 (wx Prod.fst E 0) Bs w0 a0) (⟨some d,op,ty,pos,af,none⟩::l) i:=Nw (fun x=>(x,default)) (fun _=>rfl) hT h hev hX hok k
end
end Go.Proofs.YtobfeflheaobiaaGreatDoor
