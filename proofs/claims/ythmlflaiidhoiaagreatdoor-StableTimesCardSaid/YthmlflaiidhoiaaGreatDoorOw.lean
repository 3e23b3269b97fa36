/- Own overlays, changed in place: own rows that are sorted; ranges over functions within a round; regions that draw their order, in which what was there ahead may be read; sets; what the package asks of overlays and the reference asks too; no Go in it. -/
import Derived.Shelf.SlSortCmp.WholeK
import Derived.Test.YthmlflaiidhoiaaGreatDoorOv
set_option linter.unusedVariables false
set_option linter.unusedSimpArgs false
set_option linter.unusedSectionVars false
namespace Go.Proofs.YthmlflaiidhoiaaGreatDoor
open Go.RowKit Go.Sort
theorem ub (d:Array Mb):(flatK lV 33 d).toList=aj d.toList:=by
 apply List.ext_getElem?
 intro t
 by_cases ht:t<d.size*33
 ·have hj:t / 33<d.size:=by omega
  have hr:t % 33<33:=ax6 _ (by decide)
  have h1:(aj d.toList)[t]? = (lV d[t / 33])[t % 33]? := by
   have h2:t=t / 33*33+t % 33:=by omega
   conv=>lhs;rw [h2]
   rw [← aw8,← aw7 hr]
   unfold aj
   rw [fS _ 33 cf d.toList (t / 33) (by simpa using hj)]
   simp
  rw [h1]
  have h3:=get_flatK lV 33 d t ht
  have h4:t<(flatK lV 33 d).size:=by rw [size_flatK];exact ht
  rw [getElem!_pos _ t h4,getElem!_pos d _ hj] at h3
  rw [aw9,ax0 h4,h3]
  have h5:t % 33<(lV d[t / 33]).length:=by rw [cf];exact hr
  rw [getElem!_pos (lV d[t / 33]) (t % 33) h5,aq8 h5]
 ·rw [av1 (by rw [ar2,size_flatK];omega),av1 (by rw [fo,ar2];omega)]
theorem AR (F c:Array Value):(putCells id 0 F c).size=c.size:=by simp [putCells]
theorem Lu (F c:Array Value) (h:F.size<=c.size):(putCells id 0 F c).toList.take F.size=F.toList:=by
 apply List.ext_getElem?
 intro t
 by_cases ht:t<F.size
 ·rw [aw7 ht,aw9,aw9]
  unfold putCells
  rw [Array.getElem?_mapIdx,ax0 (by omega),Option.map_some,if_pos ⟨as3 _,by omega⟩,ax0 ht,Nat.sub_zero,getElem!_pos F t ht]
  rfl
 ·rw [av1 (by rw [au0];omega),av1 (by rw [ar2];omega)]
theorem nU (w:World) (g m:Nat) (d:Array Mb) (os:Array Obj):(sortWorldK lV 33 w g 0 m d os).heap=w.heap.modify g (onCells (putCells id 0 (flatK lV 33 d)))++os:=rfl
theorem qu (w:World) (g m:Nat) (d:Array Mb) (os:Array Obj) {k:Nat} (hk:k<w.heap.size) (hne:k≠g):(sortWorldK lV 33 w g 0 m d os).heap[k]? = w.heap[k]? := by
 rw [nU,aw3 (by rw [Array.size_modify];exact hk),Array.getElem?_modify,if_neg (λe=>hne e.symm)]
theorem FD (w:World) (g m:Nat) (d:Array Mb) (os:Array Obj) {cur:Array Value} {e:TypeId} {fz:Nat × Nat} (hg:w.heap[g]? = some (.cells cur e fz)):(sortWorldK lV 33 w g 0 m d os).heap[g]? = some (.cells (putCells id 0 (flatK lV 33 d) cur) e fz):=by
 have hk:g<w.heap.size:=(ax1.1 hg).1
 rw [nU,aw3 (by rw [Array.size_modify];exact hk),Array.getElem?_modify,if_pos rfl,hg]
 rfl
theorem Ps {w0 w:World} {B:List Own} {v:Value} {e:TypeId} {n:Nat} {l:List Mb} (s:St w0 (.sl v e 33 n (aj l)::B) w) (hl:l.length=n) (hn:1<=n):
 ∃ g cap,v=.slice (some ⟨g,0,none⟩) n cap/\g<w.heap.size/\w0.heap.size<=g/\HoldsK lV 33 w g 0 l.toArray/\
  ∀ (m:Nat) (os:Array Obj) (d:Array Mb),d.size=n->St w0 (.sl v e 33 n (aj d.toList)::B) (sortWorldK lV 33 w g 0 m d os):=by
 obtain ⟨g,cap,cur,fz,rfl,hfz,hnc,hcm,hcs,htk,s⟩:=s.open_sl hn
 have hg:=s.get 0 rfl
 have hlt:g<w.heap.size:=(ax1.1 hg).1
 have hroom:n*33<=cur.size:=by rw [hcs];exact Nat.mul_le_mul_right _ hnc
 refine ⟨g,cap,rfl,hlt,s.own _ ar5 g (Own.at_blk.2 rfl),λj hj=>?_,λm os d hd=>?_⟩
 ·have hjs:j<n*33:=by rw [size_flatK] at hj;simpa [hl] using hj
  constructor
  ·rw [Nat.zero_add,cell_of_row w g j cur e fz hg]
   have h1:(flatK lV 33 l.toArray).toList=cur.toList.take (n*33):=by rw [ub,htk]
   have h2:(flatK lV 33 l.toArray).toList[j]? = cur.toList[j]? := by rw [h1,aw7 hjs]
   rw [aw9,aw9,ax0 hj] at h2
   rw [getElem!_pos _ j hj]
   exact h2.symm
  ·simp only [World.frozen?,hg,Nat.zero_add]
   obtain ⟨lo,hi⟩:=fz
   rcases hfz with h9|h9
   ·change hi=0 at h9;subst h9;simp
   ·change cur.size<=lo at h9
    have:¬ lo<=j:=by omega
    simp [this]
 ·have hF:(flatK lV 33 d).size=n*33:=by rw [size_flatK,hd]
  have s2:=s.upd 0 (w':=sortWorldK lV 33 w g 0 m d os) (p':=.blk g (.cells (putCells id 0 (flatK lV 33 d) cur) e fz)) rfl rfl rfl rfl (by rw [nU];simp) (FD w g m d os hg) (λk hk=>.inl hk) (λk hk hne=>qu w g m d os hk (λe9=>hne (Own.at_blk.2 e9))) (Nat.le_add_right _ _)
  refine s2.close_sl (by rw [AR];exact hfz) hnc hcm (by rw [AR];exact hcs) ?_ ?_
  ·rw [← hF,Lu _ _ (by omega),ub]
  ·rw [fo,ar2,hd]
theorem MY {W w':World} (h:Ext W w'):∃ q os',w'=grow (W.drewN q) os':=by
 refine ⟨w'.drawn - W.drawn,w'.heap.extract W.heap.size w'.heap.size,?_⟩
 have hh:w'.heap=W.heap++w'.heap.extract W.heap.size w'.heap.size:=by
  apply Array.ext_getElem?
  intro k
  rw [Array.getElem?_append]
  by_cases hk:k<W.heap.size
  ·rw [if_pos hk];exact h.block k hk
  ·rw [if_neg hk,Array.getElem?_extract]
   by_cases h2:k<w'.heap.size
   ·rw [if_pos (by omega)];congr 1;omega
   ·rw [if_neg (by omega),at0 (by omega)]
 have h1:=h.os
 have h2:=h.tape
 have h3:=h.output
 have h4:=h.drawn
 obtain ⟨hp,tp,dr,o,ou⟩:=w'
 obtain ⟨hp2,tp2,dr2,o2,ou2⟩:=W
 simp only at h1 h2 h3 h4 hh
 subst h1;subst h2;subst h3
 have h5:dr2+(dr - dr2)=dr:=by omega
 simp only [grow,World.drewN,h5]
 rw [← hh]
theorem xp (x9:Id) (a b:Mb):ltOf (λx y:Mb=>eW (x.2 - x9) (y.2 - x9)) a b=decide (fd x9 a.2<fd x9 b.2):=Ej _ _ _
theorem PR (x9:Id):SWO (ltOf λx y:Mb=>eW (x.2 - x9) (y.2 - x9)) where
 irrefl x:=by rw [xp];simp
 trans x y z h1 h2:=by rw [xp] at *;simp at *;omega
 ntrans x y z h1 h2:=by rw [xp] at *;simp at *;omega
theorem CS {l:List Mb} (h:Rg l) (x9:Id) {d:Array Mb} (hp:PermIn 0 l.toArray.size l.toArray d) (hs:SortedIn (ltOf λx y:Mb=>eW (x.2 - x9) (y.2 - x9)) 0 l.toArray.size d):d.toList=fW x9 l:=by
 obtain ⟨hsz,_,hpm⟩:=hp
 have e1:d.extract 0 l.toArray.size=d:=by rw [← hsz];exact Array.extract_size
 rw [e1,Array.extract_size] at hpm
 refine SQ h x9 hpm ?_
 rw [List.pairwise_iff_getElem]
 intro i j hi hj hij
 have hi':i<d.size:=by simpa using hi
 have hj':j<d.size:=by simpa using hj
 have:=hs i j (as3 _) hij (by omega)
 rw [getElem!_pos d j hj',getElem!_pos d i hi',xp] at this
 simpa using this
theorem St.memSl {w0 w:World} {B:List Own} {v:Value} {e:TypeId} {sz n:Nat} {xs:List Value} (s:St w0 B w) (h:Own.sl v e sz n xs∈B):cd w w0.heap.size e sz v n xs:=by
 obtain ⟨i,hi⟩:=List.mem_iff_getElem?.1 h
 exact s.getSl i hi
section
variable {P:Program} {ops:Array Oper} {Q:Act->World->Prop} {l:List Oper} {a:Act} {w w0:World} {N:Nat} {L:List (Nat × Value)} {Df:List Deferred} {B:List Own} {d:Tmp} {ty:TypeId} {pos:String} {af:Array Edge} {x y z:Operand} {t e:TypeId}
theorem uB {v u9:Value} {sz n p:Nat} {xs ys D:List Value} (i:Nat) (h:Sl N a L Df) (s:St w0 B w) (hx:ec L x=some (.pointer (some (bf v p)))) (hy:ec L y=some u9) (hi:B[i]? = some (.sl v e sz n xs)) (hp:p+D.length<=n*sz) (h1:0<D.length) (hv:∀ u∈D,u.oneCell'=true)
 (hst:∀ (g:Nat) (w9:World) (cur:Array Value) (fz:Nat × Nat),w9.heap[g]? = some (.cells cur e fz)->(fz.2=0∨cur.size<=fz.1)->p+D.length<=cur.size->(storeVar t ⟨g,p,none⟩ u9).run P w9=.ok () (w9.setRow g (cur.toList.take p++D++cur.toList.drop (p+D.length)).toArray))
 (hys:xs.take p++D++xs.drop (p+D.length)=ys)
 (k:∀ w',St w0 (B.set i (.sl v e sz n ys)) w'->ce P ops Q l a w'):ce P ops Q (⟨none,.store t x y,ty,pos,af,none⟩::l) a w:=by
 have ho:=s.getSl i hi
 rcases ho.2 with ⟨_,h0⟩|⟨g,cap,cur,fz,rfl,hb,hg,hfz,hnc,hcm,hcs,htk⟩
 ·subst h0;omega
 ·have hcl:n*sz<=cur.size:=by rw [hcs];exact Nat.mul_le_mul_right _ hnc
  have hxl:xs.length=n*sz:=ho.1
  have hcx:cur.toList=xs++cur.toList.drop (n*sz):=by rw [← htk];exact(as7 _ _).symm
  have hyl:ys.length=n*sz:=by
   rw [← hys];simp only [aq7,au0,at2];omega
  have hnew:cur.toList.take p++D++cur.toList.drop (p+D.length)=ys++cur.toList.drop (n*sz):=by
   rw [← hys]
   conv=>lhs;rw [hcx]
   rw [List.take_append_of_le_length (by omega),List.drop_append_of_le_length (by omega)]
   simp only [av3]
  have hel:(some (bf (Value.slice (some ⟨g,0,none⟩) n cap) p):Option Addr)=some ⟨g,p,none⟩:=by show some (Addr.add _ _)=_;rw [Addr.add_lit,Nat.zero_add]
  have hstr:=hst g w cur fz hg hfz (by omega)
  rw [hnew] at hstr
  have hsz:(ys++cur.toList.drop (n*sz)).toArray.size=cur.size:=by
   rw [List.size_toArray,aq7,at2,hyl];have:=ar2 (xs:=cur);omega
  refine ji (R:=λ_ w'=>w'=w.setRow g (ys++cur.toList.drop (n*sz)).toArray) ?_ λw' _ hw=>by
   subst hw
   refine k _ (s.upd i hi (p':=.sl _ e sz n ys) rfl rfl rfl (by simp) ⟨hyl,.inr ⟨g,cap,_,fz,rfl,hb,setRow_heap w g cur _ e fz hg,?_,hnc,hcm,?_,?_⟩⟩ (λk hk=>.inl hk) (λk hk hne=>setRow_other w g k _ λe9=>hne (Own.at_sl.2 (by simp [Value.ownBlock,e9]))))
   ·rw [hsz];exact hfz
   ·rw [hsz];exact hcs
   ·show (ys++cur.toList.drop (n*sz)).take (n*sz)=ys
    rw [← hyl];exact List.take_left
  unfold cL
  rw [hel] at hx
  simp only [execOp,h.ev hx,h.ev hy,Instr.storeAt,Instr.sureAddr,au7,au8,aq9,hstr]
theorem ej {v V:Value} {sz n p:Nat} {xs ys:List Value} (i:Nat) (h:Sl N a L Df) (s:St w0 B w) (ho:One P t) (hx:ec L x=some (.pointer (some (bf v p)))) (hy:ec L y=some V) (hi:B[i]? = some (.sl v e sz n xs)) (hp:p+1<=n*sz) (hv:V.oneCell'=true)
 (hys:xs.set p V=ys)
 (k:∀ w',St w0 (B.set i (.sl v e sz n ys)) w'->ce P ops Q l a w'):ce P ops Q (⟨none,.store t x y,ty,pos,af,none⟩::l) a w:=by
 have hxl:xs.length=n*sz:=(s.getSl i hi).1
 refine uB (D:=[V]) i h s hx hy hi hp (by simp) (λu hu=>by rw [ar4] at hu;subst hu;exact hv) (λg w9 cur fz hg hfz hc=>?_) (by rw [← hys];simp only [at5,at6,Nat.zero_add];rw [List.set_eq_take_append_cons_drop,if_pos (by omega)];simp) k
 have hs:(sizeOf t).run P w9=.ok 1 w9:=by
  cases hq:P.info? t with
  |none=>have:=ho.size;simp [hq] at this
  |some i=>have:=ho.size;simp [hq] at this;simp [sizeOf,typeInfo,au7,hq,this]
 have hc1:V.cells=#[V]:=by
  cases V<;>first|rfl|(simp [Value.oneCell'] at hv)
 have:=dl P g p e fz [V] 0 cur w9 hg hfz (by simpa using hc) (λu hu=>by rw [ar4] at hu;subst hu;exact hv)
 simp only [Nat.add_zero,at5,at6,Nat.zero_add] at this
 simp [storeVar,au7,hs,hc1,this]
theorem JK {b c:Nat} {es:Array MapEntry} {n:Int} {V:Value} {kt et:TypeId} (i:Nat) (h:Sl N a L Df) (s:St w0 B w) (ht:P.underlying t=some (.map kt et)) (hk:P.underlying kt=some (.int .i64))
 (hx:ec L x=some (.map (some b))) (hy:ec L y=some (.int .i64 n)) (hz:ec L z=some V) (hi:B[i]? = some (.blk b (.map es c))) (hf:Instr.findNow (.int .i64) (.int .i64 n) es.toList 0=some none)
 (k:∀ w',St w0 (B.set i (.blk b (.map (es.push {key:=.int .i64 n,val:=V,born:=c}) (c+1)))) w'->ce P ops Q l a w'):ce P ops Q (⟨none,.mapUpdate t x y z,ty,pos,af,none⟩::l) a w:=by
 have hb:=s.get i hi
 have hrun:(Instr.mapUpdate t (.map (some b)) (.int .i64 n) V).run P w=.ok () (w.putObj b (.map (es.push {key:=.int .i64 n,val:=V,born:=c}) (c+1))):=by
  simp [Instr.mapUpdate,ar1 ht,MapKept.run_getObj_map hb,MapKept.run_checkKey hk (show MapKept.IsKey (.int .i64) (.int .i64 n) from rfl),MapKept.run_findKey hk hf,MapKept.run_setObj_map _ hb,Result.andThen,World.putObj]
 refine ji (R:=λv' w'=>w'=w.putObj b (.map (es.push {key:=.int .i64 n,val:=V,born:=c}) (c+1))) ?_ λw' v' hw=>by subst hw;exact k _ (s.putObj i hi _)
 simp [cL,execOp,h.ev hx,h.ev hy,h.ev hz,hrun,Result.andThen]
theorem BK {b c:Nat} {es:Array MapEntry} {n:Int} {Z V:Value} {ok:Bool} {kt et:TypeId} (h:Sl N a L Df) (hb:w.heap[b]? = some (.map es c)) (ht:P.underlying t=some (.map kt et)) (hk:P.underlying kt=some (.int .i64)) (hZ:(P.info? et).bind (·.zero)=some Z)
 (hx:ec L x=some (.map (some b))) (hy:ec L y=some (.int .i64 n))
 (hf:(∃ j,Instr.findNow (.int .i64) (.int .i64 n) es.toList 0=some (some (j,V))/\ok=true)∨(Instr.findNow (.int .i64) (.int .i64 n) es.toList 0=some none/\V=Z/\ok=false)) (hd:Nat.blt d N=true)
 (k:∀ a',Sl N a' ((d,.tuple #[V,.bool ok])::L) Df->ce P ops Q l a' w):ce P ops Q (⟨some d,.lookup t x y true,ty,pos,af,none⟩::l) a w:=by
 have hzr:(zeroValue et).run P w=.ok Z w:=by
  cases hi9:P.info? et with
  |none=>simp [hi9] at hZ
  |some info=>simp [hi9] at hZ;simp [zeroValue,typeInfo,hi9,hZ,Result.andThen]
 have hrun:(Instr.lookup t (.map (some b)) (.int .i64 n) true).run P w=.ok (.tuple #[V,.bool ok]) w:=by
  rcases hf with ⟨j,hf,rfl⟩|⟨hf,rfl,rfl⟩
  ·simp [Instr.lookup,ar1 ht,MapKept.run_getObj_map hb,MapKept.run_checkKey hk (show MapKept.IsKey (.int .i64) (.int .i64 n) from rfl),MapKept.run_findKey hk hf,Result.andThen]
  ·simp [Instr.lookup,ar1 ht,MapKept.run_getObj_map hb,MapKept.run_checkKey hk (show MapKept.IsKey (.int .i64) (.int .i64 n) from rfl),MapKept.run_findKey hk hf,hzr,Result.andThen]
 refine dR h (R:=λv w'=>v=.tuple #[V,.bool ok]/\w'=w) ?_ hd λa' w' v ⟨hv,hw⟩ h'=>by subst hv;subst hw;exact k _ h'
 simp [cL,execOp,h.ev hx,h.ev hy,hrun,Result.andThen]
end
theorem gq {P:Program} {e:TypeId} {sz by_:Nat} (h:((P.info? e).bind λi=>i.zero.map λz=>(i.size,i.bytes,z.cells.size))=some (sz,by_,sz)) (h0:0<sz):Elm P e sz by_:=by
 cases hi:P.info? e with
 |none=>rw [hi] at h;simp at h
 |some i=>
  rw [hi] at h
  cases hz:i.zero with
  |none=>simp [hz] at h
  |some z=>
   simp only [Option.bind_some,hz,Option.map_some,Option.some.injEq,av8] at h
   exact ⟨⟨i,z,hi,hz,h.1,h.2.1,h.2.2⟩,h0⟩
section
variable {P:Program} {ρ:Operand->Value} {d:Option Tmp} {ty:TypeId} {pos:String} {af:Array Edge} {g:Option (Nat × Bool)} {x y:Operand} {t t' e:TypeId}
theorem Ij {w:World} (ht:P.underlying t=some (.pointer e)) (q:Option Addr) (n:Nat):(Op.equalIn (n+1) t (.pointer q) (.pointer none)).run P w=.ok q.isNone w:=by
 cases q<;>simp [Op.equalIn,ar1 ht]
theorem Gk {w:World} (ht:P.underlying t=some (.pointer e)) (q:Option Addr):(Op.equal t (.pointer q) (.pointer none)).run P w=.ok q.isNone w:=Ij ht q 9999
theorem fv {q:Option Addr} (ht:P.underlying t=some (.pointer e)) (hx:ρ x=.pointer q) (hy:ρ y=.pointer none):a8 P ⟨d,.binOp .neq t x y t',ty,pos,af,g⟩ ρ (.bool !q.isNone):=λw=>by
 simp [execOp,hx,hy,eqGuard,binOp,Gk ht,Result.andThen]
end
def PS (ks:List Int):Array MapEntry:=(ks.zipIdx.map λp=>{key:=Value.int .i64 p.1,val:=Value.agg #[],born:=p.2}).toArray
theorem HF (ks:List Int) (n:Int):(PS ks).push {key:=.int .i64 n,val:=.agg #[],born:=ks.length}=PS (ks++[n]):=by
 unfold PS
 rw [List.zipIdx_append,ax5,List.push_toArray]
 simp
theorem zd {ks:List Int} {n:Int} (h:n ∉ ks):Instr.findNow (.int .i64) (.int .i64 n) (PS ks).toList 0=some none:=by
 refine ES n _ 0 λe he=>?_
 obtain ⟨p,hp,rfl⟩:=au9.1 he
 refine ⟨p.1,λe9=>h ?_,rfl⟩
 rw [← e9]
 exact List.fst_mem_of_mem_zipIdx hp
theorem vM (n:Int):∀ (es:List MapEntry) (i:Nat),(∀ e∈es,∃ m:Int,e.key=.int .i64 m/\e.val=.agg #[])->(∃ e∈es,e.key=.int .i64 n)->∃ j,Instr.findNow (.int .i64) (.int .i64 n) es i=some (some (j,.agg #[]))
 |[],_,_,h=>by obtain ⟨e,he,_⟩:=h;cases he
 |e::es,i,h,hx=>by
  obtain ⟨m,he,hv⟩:=h e ar5
  unfold Instr.findNow
  rw [he]
  have hs:Instr.sameNow (.int .i64) (.int .i64 n) (.int .i64 m)=some (n == m):=by simp [Instr.sameNow]
  rw [hs]
  by_cases hm:n=m
  ·subst hm;simp only [BEq.rfl];exact ⟨i,by rw [hv]⟩
  ·rw [beq_eq_false_iff_ne.2 hm]
   refine vM n es (i+1) (λe9 h9=>h e9 (as5 _ h9)) ?_
   obtain ⟨e9,h9,h8⟩:=hx
   rcases ar6.1 h9 with rfl|h9
   ·rw [he] at h8;simp only [Value.int.injEq,true_and] at h8;exact ax7 h8.symm hm
   ·exact ⟨e9,h9,h8⟩
theorem LQ {ks:List Int} {n:Int} (h:n∈ks):∃ j,Instr.findNow (.int .i64) (.int .i64 n) (PS ks).toList 0=some (some (j,.agg #[])):=by
 refine vM n _ 0 (λe he=>?_) ?_
 ·obtain ⟨p,hp,rfl⟩:=au9.1 he
  exact ⟨p.1,rfl,rfl⟩
 ·obtain ⟨i,hi,e⟩:=aw1 h
  refine ⟨{key:=Value.int .i64 n,val:=Value.agg #[],born:=i},au9.2 ⟨(n,i),?_,rfl⟩,rfl⟩
  rw [List.mem_zipIdx_iff_getElem?]
  simp [e,hi]
theorem Nl (ks:List Int) (n:Int):(∃ j,Instr.findNow (.int .i64) (.int .i64 n) (PS ks).toList 0=some (some (j,.agg #[]))/\decide (n∈ks)=true)∨(Instr.findNow (.int .i64) (.int .i64 n) (PS ks).toList 0=some none/\Value.agg #[]=Value.agg #[]/\decide (n∈ks)=false):=by
 by_cases h:n∈ks
 ·obtain ⟨j,hj⟩:=LQ h;exact .inl ⟨j,hj,aq2 h⟩
 ·exact .inr ⟨zd h,rfl,aq1 h⟩
def il (L:List N3) (no:Int):Nat:=L.findIdx λx=>decide (x.1.me.1=no)
def CK (vo:Value) (L:List N3) (no:Int):Value:=bif decide (il L no<L.length) then .pointer (some (bf vo (il L no*68))) else .pointer none
theorem Q1 {L:List N3} {no:Int} {k:Nat} (hk:k<L.length) (h:∀ j,j<k->decide ((L.getD j z3).1.me.1=no)=false) (he:decide ((L.getD k z3).1.me.1=no)=true):il L no=k:=by
 unfold il
 rw [List.findIdx_eq hk]
 refine ⟨by rw [uw hk];exact he,λj hj=>?_⟩
 rw [uw (by omega)];exact h j hj
theorem Oz {L:List N3} {no:Int} {k:Nat} (hk:L.length<=k) (h:∀ j,j<k->decide ((L.getD j z3).1.me.1=no)=false):il L no=L.length:=by
 unfold il
 rw [List.findIdx_eq_length]
 intro x hx
 obtain ⟨j,hj,rfl⟩:=yD hx
 exact h j (by omega)
theorem QZ {L:List N3} {no:Int} (h:il L no<L.length):(∀ j,j<il L no->decide ((L.getD j z3).1.me.1=no)=false)/\decide ((L.getD (il L no) z3).1.me.1=no)=true:=by
 refine ⟨λj hj=>?_,?_⟩
 ·have:=List.not_of_lt_findIdx (p:=λx:N3=>decide (x.1.me.1=no)) (xs:=L) hj
  rw [uw (by omega)] at this
  simpa using this
 ·have:=List.findIdx_getElem (p:=λx:N3=>decide (x.1.me.1=no)) (xs:=L) (w:=h)
  rw [← uw h]
  exact this
theorem HR {L:List N3} {no:Int} (h:il L no<L.length):L.getD (il L no) z3=br L no/\(br L no).1.me.1=no:=by
 obtain ⟨h1,h2⟩:=QZ h
 have e:=HX h h1 h2
 exact ⟨e.symm,by rw [e];exact ap9 h2⟩
theorem yT {vo:Value} {L:List N3} {no:Int} (h:il L no<L.length):CK vo L no=.pointer (some (bf vo (il L no*68))):=by unfold CK;rw [aq2 h];rfl
theorem DX {vo:Value} {L:List N3} {no:Int} (h:¬ il L no<L.length):CK vo L no=.pointer none:=by unfold CK;rw [aq1 h];rfl
theorem II {L:List N3} {no:Int} (h:∃ x∈L,x.1.me.1=no):il L no<L.length:=by
 obtain ⟨x,hx,e⟩:=h
 exact List.findIdx_lt_length_of_exists ⟨x,hx,aq2 e⟩
theorem tM {L:List N3} {no:Int} (hn:∀ m∈av L,0<=m.1):decide (il L no<L.length)=bu (av L) no:=by
 rw [aw6,decide_eq_true_iff,gD hn]
 constructor
 ·intro h
  obtain ⟨e1,e2⟩:=HR h
  exact ⟨(br L no).1.me,au9.2 ⟨br L no,by rw [← e1];exact bE h,rfl⟩,e2⟩
 ·rintro ⟨m,hm,e⟩
  obtain ⟨x,hx,rfl⟩:=au9.1 hm
  exact II ⟨x,hx,e⟩
def Xp (vo:Value) (q:Nat->Bool):Nat->Value|0=>.pointer none|d+1=>bif q d then .pointer (some (bf vo (d*68))) else .pointer none
theorem On {vo:Value} {q:Nat->Bool} {d:Nat} (h:∀ j,j<d->q j=false):Xp vo q d=.pointer none:=by
 cases d with
 |zero=>rfl
 |succ d=>show (bif q d then _ else _)=_;rw [h d (Nat.lt_succ_self d)];rfl
def qL (L:List N3) (no:Int) (j:Nat):Bool:=decide ((L.getD j z3).1.me.1=no)
theorem WT {vo:Value} {L:List N3} {no:Int} {d:Nat} (hd:d<L.length) (h:∀ j,j<d->qL L no j=false) (he:qL L no d=true):Xp vo (qL L no) (d+1)=CK vo L no:=by
 show (bif qL L no d then _ else _)=_
 have e:=Q1 hd h he
 rw [he,yT (by rw [e];exact hd),e];rfl
theorem Zn {vo:Value} {L:List N3} {no:Int} (h:∀ j,j<L.length->qL L no j=false):CK vo L no=.pointer none:=DX (by rw [Oz (as1 _) h];omega)
def nu (l:List Mb) (k:Nat):Bool:=decide ((l.getD k aS).1<(l.getD (k - 1) aS).1)
def uy (l:List Mb):Bool:=(List.range l.length).all λk => !(decide (0<k) && nu l k)
theorem z8 {l:List Mb} {k:Nat} (hk:k<l.length) (h0:0<k) (h:nu l k=true):uy l=false:=by
 unfold uy
 rw [← Bool.not_eq_true,aq6]
 intro h9
 have:=h9 k (ar7.2 hk)
 rw [h,aq2 h0] at this;cases this
theorem tq {l:List Mb} (h:∀ j,0<j->j<l.length->nu l j=false):uy l=true:=by
 unfold uy
 rw [aq6]
 intro j hj
 by_cases h0:0<j
 ·rw [h j h0 (ar7.1 hj)];simp
 ·rw [aq1 h0];rfl
theorem Mt {l:List Mb}:uy l=true↔∀ j,0<j->j<l.length->nu l j=false:=by
 refine ⟨λh j h0 hj=>?_,tq⟩
 cases hq:nu l j with
 |false=>rfl
 |true=>rw [z8 hj h0 hq] at h;cases h
theorem JY {l:List Mb} {k:Nat} (h:∀ j,k<=j->0<j->j<l.length->nu l j=false) (hk:0<k) (hq:nu l (k - 1)=false):∀ j,k - 1<=j->0<j->j<l.length->nu l j=false:=λj h1 h2 h3=>by
 by_cases e:j=k - 1
 ·subst e;exact hq
 ·exact h j (by omega) h2 h3
theorem sW (x y:Int):dE x y<0↔x<y:=by unfold dE;split<;>(try split)<;>omega
theorem i9 {L:List N3} {k:Nat} (hk:k<L.length):(av L).getD k aS=(L.getD k z3).1.me:=by
 rw [← u3 (by rw [au1];exact hk),← uw hk];exact List.getElem_map _
theorem Vz {L:List N3} {no:Int} (h:il L no<L.length):fE (av L) no=some (L.getD (il L no) z3).1.me:=by
 obtain ⟨h1,h2⟩:=QZ h
 have e:=xV (l:=av L) (no:=no) (k:=il L no) (by rw [au1];exact h) (λj hj=>by rw [i9 (by omega)];exact h1 j hj) (by rw [i9 h];exact h2)
 rw [e,i9 h]
theorem Mv {L:List N3} {no:Int} (h:¬ il L no<L.length):fE (av L) no=none:=by
 refine wS (k:=L.length) (by rw [au1];exact as1 _) λj hj=>?_
 rw [i9 hj]
 refine aq1 λe=>h (II ⟨_,bE hj,e⟩)
def nW (L:List N3) (m:Mb):Bool:=decide (il L m.1<L.length) && !decide ((L.getD (il L m.1) z3).1.me=m)
theorem L5 {L:List N3} (hr:Rg (av L)) (m:Mb):nW L m=q7 (av L) m:=by
 unfold nW q7 o8
 by_cases h:il L m.1<L.length
 ·rw [Vz h,aq2 h]
  have h0:=(hr.nos _ (au9.2 ⟨_,bE h,rfl⟩)).1
  rw [Option.getD_some,aq2 h0]
 ·rw [Mv h,aq1 h]
  rfl
theorem Z0 {L:List N3} {m:Mb} (h:decide (il L m.1<L.length)=false):nW L m=false:=by unfold nW;rw [h];rfl
theorem Yp {L:List N3} {m:Mb} (h:decide (il L m.1<L.length)=true):nW L m = !decide ((L.getD (il L m.1) z3).1.me=m):=by unfold nW;rw [h];rfl
def ZL (n:Nd) (L:List N3) (j:Nat):Bool:=nW L ((aO n).getD j aS)
theorem Nn {n:Nd} {L:List N3} {d:Nat} (hd:d<(aO n).length) (h:ZL n L d=true):(aO n).any (nW L)=true:=aw4.2 ⟨_,fL hd,h⟩
theorem OE {n:Nd} {L:List N3} (h:∀ j,j<(aO n).length->ZL n L j=false):(aO n).any (nW L)=false:=by
 rw [aw5]
 intro x hx
 obtain ⟨j,hj,rfl⟩:=mC hx
 rw [show nW L ((aO n).getD j aS)=false from h j hj];decide
def LV (L:List N3) (k:Nat):Bool := !co (L.getD k z3).1 || (aO (L.getD k z3).1).any (nW L)
theorem Su {L:List N3} (h:c8 (av L)=false):iv L=false:=by unfold iv;rw [h,Bool.and_false]
theorem TC {L:List N3} (h:uy (av L)=false):iv L=false:=by
 have:¬ ∀ j,0<j->j<(av L).length->nu (av L) j=false:=λh9=>by rw [tq h9] at h;cases h
 rw [Classical.not_forall] at this
 obtain ⟨k,hk⟩:=this
 rw [Classical.not_imp,Classical.not_imp] at hk
 obtain ⟨h0,h1,h2⟩:=hk
 rw [au1] at h1
 refine N7 h1 (ae1 (aq2 h0) ?_)
 have h3:nu (av L) k=true:=by cases hq:nu (av L) k with|true=>rfl|false=>exact ax7 hq h2
 unfold nu at h3
 rw [i9 h1,i9 (by omega)] at h3
 have:=ap9 h3
 exact aq2 (by omega)
theorem Hj {L:List N3} (h0:c8 (av L)=true) (h1:uy (av L)=true):iv L=(List.range L.length).all λk => !LV L k:=by
 have hg:=(lH _).1 h0
 have key:∀ k,k<L.length->ly L k=LV L k:=λk hk=>by
  have e1:(decide (0<k) && decide ((L.getD k z3).1.me.1<=(L.getD (k - 1) z3).1.me.1))=false:=by
   by_cases hk0:0<k
   ·have h2:=Mt.1 h1 k hk0 (by rw [au1];exact hk)
    unfold nu at h2
    rw [i9 hk,i9 (by omega)] at h2
    have h3:=aq0 h2
    have h4:=(List.pairwise_iff_getElem.1 hg.nd (k - 1) k (by rw [au1];omega) (by rw [au1];exact hk) (by omega)).1
    rw [u3,u3,i9 hk,i9 (by omega)] at h4
    rw [aq2 hk0,aq1 (by omega)];rfl
   ·rw [aq1 hk0];rfl
  have e2:(aO (L.getD k z3).1).any (q7 (av L))=(aO (L.getD k z3).1).any (nW L):=by
   congr 1;funext m;exact(L5 hg m).symm
  unfold ly LV
  rw [e1,e2,Bool.false_or]
 unfold iv
 rw [h0,Bool.and_true,aw6,aq6,aq6]
 exact ⟨λh k hk=>by rw [← key k (ar7.1 hk)];exact h k hk,λh k hk=>by rw [key k (ar7.1 hk)];exact h k hk⟩
theorem Pn {L:List N3} {d:Nat} (h0:c8 (av L)=true) (h1:uy (av L)=true) (hd:d<L.length) (h:LV L d=true):iv L=false:=by
 rw [Hj h0 h1,← Bool.not_eq_true,aq6]
 intro h9
 have:=h9 d (ar7.2 hd)
 rw [h] at this;cases this
theorem P6 {L:List N3} (h0:c8 (av L)=true) (h1:uy (av L)=true) (h:∀ j,j<L.length->LV L j=false):iv L=true:=by
 rw [Hj h0 h1,aq6]
 intro k hk
 rw [h k (ar7.1 hk)];rfl
theorem aa8 {L:List N3} {k:Nat} (h:co (L.getD k z3).1=false):LV L k=true:=by unfold LV;rw [h];rfl
theorem Ws {L:List N3} {k:Nat} (h:co (L.getD k z3).1=true):LV L k=(aO (L.getD k z3).1).any (nW L):=by unfold LV;rw [h];rfl
theorem nP (a b c:List Mb):[a,b,c].flatten=a++(b++c):=by simp
theorem Ib {w:World} {u v x:Value} {a b c:List Mb} (h1:a7 w u 33 a.length (aj a)) (h2:a7 w v 33 b.length (aj b)) (h3:a7 w x 33 c.length (aj c)):∀ k,k<[u,v,x].length->a7 w ([u,v,x].getD k undef) 33 ([a,b,c].getD k []).length (aj ([a,b,c].getD k [])):=λk hk=>by
 match k,hk with
 |0,_=>exact h1
 |1,_=>exact h2
 |2,_=>exact h3
def rf (l:List Mb) (m:Mb):Mb:=bif decide (l.length=1) then fj else oI l m
def yy (l:List Mb) (m:Mb):List Mb:=bif decide (l.length=1) then [m] else eV l m (min (l.length - 1) 4)
theorem HN {l:List Mb} {m:Mb} (h:l.length=1):rf l m=fj/\yy l m=[m]:=by unfold rf yy;rw [aq2 h];exact ⟨rfl,rfl⟩
theorem K4 {l:List Mb} {m:Mb} (h:¬ l.length=1):rf l m=oI l m/\yy l m=eV l m (min (l.length - 1) 4):=by unfold rf yy;rw [aq1 h];exact ⟨rfl,rfl⟩
theorem QN (l:List Mb) (m:Mb):(yy l m).length<=4:=by
 by_cases h:l.length=1
 ·rw [(HN h).2];simp
 ·rw [(K4 h).2,jl];omega
def NbP (w:World) (M:TypeId) (l:List Mb) (m:Mb):cX:=λv w9=>∃ v8,v=.tuple #[.agg (ar (rf l m)),v8]/\cd w9 w.heap.size M 33 v8 (yy l m).length (aj (yy l m))
theorem ND {w w':World} {M:TypeId} {l:List Mb} {m:Mb} {v8:Value} (h:l.length=1) (hO:cd w' w.heap.size M 33 v8 [m].length (aj [m])):NbP w M l m (.tuple #[.agg (ar fj),v8]) w':=
 ⟨v8,by rw [(HN h).1],by rw [(HN h).2];exact hO⟩
theorem P5 {w w':World} {M:TypeId} {l:List Mb} {m:Mb} {v8:Value} (h:¬ l.length=1) (hO:cd w' w.heap.size M 33 v8 (eV l m (min (l.length - 1) 4)).length (aj (eV l m (min (l.length - 1) 4)))):NbP w M l m (.tuple #[.agg (ar (oI l m)),v8]) w':=
 ⟨v8,by rw [(K4 h).1],by rw [(K4 h).2];exact hO⟩
def kO (v:Value):Value:=match v with|.tuple a=>a.getD 1 undef|_=>undef
def G3 (L:List N3) (k:Nat):Bool := !decide ((L.getD k z3).1.pr=rf (av L) (L.getD k z3).1.me) || !decide ((L.getD k z3).1.sc=yy (av L) (L.getD k z3).1.me)
theorem Yo {L:List N3} {k:Nat} (h:decide ((L.getD k z3).1.pr=rf (av L) (L.getD k z3).1.me)=false):G3 L k=true:=by unfold G3;rw [h];rfl
theorem QO {L:List N3} {k:Nat} (h:decide ((L.getD k z3).1.pr=rf (av L) (L.getD k z3).1.me)=true):G3 L k = !decide ((L.getD k z3).1.sc=yy (av L) (L.getD k z3).1.me):=by unfold G3;rw [h];rfl
theorem KI {L:List N3} {k:Nat} (h:L.length=1):G3 L k = !Bt (L.getD k z3).1:=by
 have hm:(av L).length=1:=by rw [au1];exact h
 unfold G3 Bt
 rw [(HN hm).1,(HN hm).2,Bool.not_and]
 congr 2
 rw [aw6]
 simp only [ar0,aq5]
 constructor
 ·intro e;rw [e];exact ⟨rfl,rfl⟩
 ·rintro ⟨h1,h2⟩
  match hs:(L.getD k z3).1.sc,h1 with
  |[x],_=>rw [hs] at h2;rw [show x=_ from h2]
theorem DT {L:List N3} {k:Nat} (h:¬ L.length=1):G3 L k = !pS L k:=by
 have hm:¬ (av L).length=1:=by rw [au1];exact h
 unfold G3 pS
 rw [(K4 hm).1,(K4 hm).2,Bool.not_and,au1]
theorem Qw {L:List N3} {d:Nat} (h:iv L=true) (hd:d<L.length) (hq:G3 L d=true):cV L=false:=by
 by_cases h1:L.length=1
 ·rw [BP h hd h1];rw [KI h1] at hq;simpa using hq
 ·refine MW h1 hd ?_;rw [DT h1] at hq;simpa using hq
theorem MA {L:List N3} (h:iv L=true) (hq:∀ j,j<L.length->G3 L j=false):cV L=true:=by
 by_cases h1:L.length=1
 ·have h2:=hq 0 (by omega)
  rw [BP h (k:=0) (by omega) h1];rw [KI h1] at h2;simpa using h2
 ·refine NY h h1 (as1 _) λj hj=>?_
  have h2:=hq j hj
  rw [DT h1] at h2;simpa using h2
theorem IQ (L:List N3) (j i:Nat) (hj:j<L.length) (hi:i<68):(au L)[j*68+i]? = (Ft (L.getD j z3))[i]? := by
 have h1:=aq3 (λa:Array Value=>a[i]?) (eZ L j hj)
 simp only [as8] at h1
 rw [aw7 hi,aw8] at h1
 rw [h1];simp [aR,Ft]
theorem kc (L:List N3) (j:Nat) (hj:j<L.length):(au L)[j*68+66]? = some (L.getD j z3).2.1:=by rw [IQ L j 66 hj (by decide)];exact yr _ _ _ _ 0
theorem KG (L:List N3) (j:Nat) (hj:j<L.length):(au L)[j*68+67]? = some (L.getD j z3).2.2:=by rw [IQ L j 67 hj (by decide)];exact yr _ _ _ _ 1
theorem kZ {K:List N3} {j:Nat} (hj:j<K.length) (x:N3):(K.set j x).getD j z3=x:=by
 rw [← uw (by rw [List.length_set];exact hj)];exact List.getElem_set_self _
theorem Rz {K:List N3} {i j:Nat} (h:i≠j) (x:N3):(K.set j x).getD i z3=K.getD i z3:=by
 rw [as6,as6,List.getElem?_set_ne (λe=>h e.symm)]
theorem GF {K:List N3} {j:Nat} (hj:j<K.length) (x:N3):(K.set j x).take (j+1)=K.take j++[x]:=by
 rw [xo (by rw [List.length_set];exact hj),kZ hj,List.take_set_of_le (as1 _)]
theorem zA {K:List N3} {j:Nat} (hj:j<K.length):au K=au (K.take j)++(Ft (K.getD j z3)++au (K.drop (j+1))):=by
 conv=>lhs;rw [← as7 j K,List.drop_eq_getElem_cons hj,uw hj]
 rw [qR];rfl
theorem Dw {K:List N3} {j:Nat} (hj:j<K.length) (x:N3):au (K.set j x)=au (K.take j)++(Ft x++au (K.drop (j+1))):=by
 rw [List.set_eq_take_append_cons_drop,if_pos hj,qR];rfl
theorem xl {K:List N3} {j:Nat} (hj:j<K.length):(au (K.take j)).length=j*68:=by rw [AV,au0,Nat.min_eq_left (by omega)]
theorem P0 {K:List N3} {j off:Nat} (hj:j<K.length) (D:List Value) (h:off+D.length<=68):
 (au K).take (j*68+off)++D++(au K).drop (j*68+off+D.length)=au (K.take j)++((Ft (K.getD j z3)).take off++D++(Ft (K.getD j z3)).drop (off+D.length)++au (K.drop (j+1))):=by
 rw [zA hj]
 obtain ⟨a,ha⟩:∃ a,a=au (K.take j):=⟨_,rfl⟩
 obtain ⟨c,hc⟩:∃ c,c=au (K.drop (j+1)):=⟨_,rfl⟩
 have hl:a.length=j*68:=by rw [ha];exact xl hj
 have hn:(Ft (K.getD j z3)).length=68:=lT _
 rw [← ha,← hc]
 rw [show j*68+off=a.length+off by omega,List.take_length_add_append,List.take_append_of_le_length (by omega),show a.length+off+D.length=a.length+(off+D.length) by omega,List.drop_length_add_append,List.drop_append_of_le_length (by omega)]
 simp only [av3]
theorem sJ {K:List N3} {j:Nat} (hj:j<K.length) (x:N3):(au K).take (j*68)++(aR x.1.me x.1.pr x.2.1 x.2.2).toList++(au K).drop (j*68+68)=au (K.set j x):=by
 have hl:(aR x.1.me x.1.pr x.2.1 x.2.2).toList.length=68:=by rw [ar2];exact ao _ _ _ _
 have h:=P0 hj (off:=0) (aR x.1.me x.1.pr x.2.1 x.2.2).toList (by omega)
 rw [hl] at h
 rw [show j*68+0=j*68 from rfl] at h
 rw [h,Dw hj]
 have hn:(Ft (K.getD j z3)).length=68:=lT _
 rw [List.take_zero,List.nil_append,List.drop_of_length_le (by omega),av4]
 rfl
theorem YQ (m p:Mb) (u v V:Value):(nR m p u v).set 66 V=nR m p V v:=by
 have:=aq3 Array.toList (pq m p u v V)
 rwa [Array.toList_setIfInBounds] at this
theorem YY (m p:Mb) (u v V:Value):(nR m p u v).set 67 V=nR m p u V:=by
 have:=aq3 Array.toList (rQ m p u v V)
 rwa [Array.toList_setIfInBounds] at this
theorem EB {K:List N3} {j off:Nat} (hj:j<K.length) (ho:off<68) {V:Value} {x:N3} (h:(Ft (K.getD j z3)).set off V=Ft x):(au K).set (j*68+off) V=au (K.set j x):=by
 rw [Dw hj,← h,zA hj,List.set_append_right _ _ (by rw [xl hj];omega),xl hj,Nat.add_sub_cancel_left,List.set_append_left _ _ (by rw [lT];exact ho)]
theorem AC {K:List N3} {j:Nat} (hj:j<K.length) (V:Value) (l:List Mb):(au K).set (j*68+66) V=au (K.set j (⟨(K.getD j z3).1.me,(K.getD j z3).1.pr,l,(K.getD j z3).1.fg⟩,V,(K.getD j z3).2.2)):=EB hj (by decide) (YQ _ _ _ _ _)
theorem zy {K:List N3} {j:Nat} (hj:j<K.length) (V:Value) (l:List Mb):(au K).set (j*68+67) V=au (K.set j (⟨(K.getD j z3).1.me,(K.getD j z3).1.pr,(K.getD j z3).1.sc,l⟩,(K.getD j z3).2.1,V)):=EB hj (by decide) (YY _ _ _ _ _)
theorem wh {L:List N3} {w:World} (h:∀ x∈L,CW w x):∀ u∈au L,u.oneCell'=true:=λu hu=>by
 unfold au at hu
 obtain ⟨x,hx,hu⟩:=List.mem_flatMap.1 hu
 exact bL (h x hx).ones.1 (h x hx).ones.2 u hu
theorem Cc {w:World} {a:Option Addr} {n c:Nat} {L:List N3} (ha:a.isNone=true) (h:a7 w (.slice a n c) 68 L.length (au L)):L=[]:=by
 cases a with
 |some p=>cases ha
 |none=>
  rcases h.2 with ⟨_,h2⟩|⟨p,cap,h1,_⟩
  ·exact List.eq_nil_of_length_eq_zero h2
  ·cases h1
def CpP (w:World) (N:TypeId) (E:List Nd):cX:=λv w9=>∃ vq K ks,v=.agg #[vq]/\nds K=E/\St w [.sl vq N 68 K.length (au K),.grp ks (eI K)] w9
theorem St.bring {w0 w:World} {B:List Own} {p:Own} (s:St w0 B w) (i:Nat) (hi:B[i]? = some p):St w0 (p::B.eraseIdx i) w:=s.perm (ni hi)
theorem D2 {K:List N3} {E:List Nd} {j:Nat} {x:N3} (h:nds K=E) (hx:x.1=(K.getD j z3).1) (hj:j<K.length):nds (K.set j x)=E:=by
 subst h
 apply List.ext_getElem?
 intro i
 unfold nds
 rw [av0,av0,List.getElem?_set]
 by_cases e:j=i
 ·subst e;rw [if_pos rfl,if_pos hj,aq8 hj,uw hj,Option.map_some,Option.map_some,hx]
 ·rw [if_neg e]
theorem Eh {K:List N3} {j:Nat} {x:N3} (hj:j<K.length) {w9:World} (h:eI (K.take j) w9) (hx:CW w9 x):eI ((K.set j x).take (j+1)) w9:=λy hy=>by
 rw [GF hj] at hy
 rcases at9.1 hy with hy|hy
 ·exact h y hy
 ·rw [ar4] at hy;subst hy;exact hx
theorem zp (K:List N3) (j:Nat) (x y:N3):(K.set j x).set j y=K.set j y:=List.set_set _
theorem vK {x:N3}:∀ K:List N3,(K.Pairwise λa b=>a.1.me.1<b.1.me.1)->(∀ y∈K,y.1.me.1≠x.1.me.1)->∃ A B,K=A++B/\(∀ a∈A,a.1.me.1<x.1.me.1)/\∀ b∈B,x.1.me.1<b.1.me.1
 |[],_,_=>⟨[],[],rfl,by simp,by simp⟩
 |y::K,h,hx=>by
  have hp:=List.pairwise_cons.1 h
  by_cases e:x.1.me.1<y.1.me.1
  ·refine ⟨[],y::K,rfl,by simp,λb hb=>?_⟩
   rcases ar6.1 hb with rfl|hb
   ·exact e
   ·have:=hp.1 b hb;omega
  ·obtain ⟨A,B,rfl,hA,hB⟩:=vK K hp.2 λz hz=>hx z (as5 _ hz)
   have:=hx y ar5
   refine ⟨y::A,B,rfl,λa ha=>?_,hB⟩
   rcases ar6.1 ha with rfl|ha
   ·omega
   ·exact hA a ha
theorem P7 {A B:List N3} {x:N3} (hA:∀ z∈A,z.1.me.1<x.1.me.1) (hB:∀ z∈B,x.1.me.1<z.1.me.1):fm (A++B) x=A++x::B:=by
 match B,hB with
 |[],_=>
  have:iS x (A++[])=(A,false):=by unfold iS;rw [av4,oB A [] hA];rfl
  rw [XW (by rw [this]),this]
 |b::B,hB=>
  have hb:=hB b ar5
  have:iS x (A++b::B)=(A++x::b::B,true):=by
   unfold iS
   rw [List.foldl_append,oB A [] hA,List.nil_append,List.foldl_cons,R5 rfl (aq2 (by show x.1.me.1<=b.1.me.1;omega)) (aq2 (by show b.1.me.1≠x.1.me.1;omega)),rK B _ λz hz=>hB z (as5 _ hz)]
   simp
  rw [X3 (by rw [this]),this]
theorem TN {K L:List N3} (h:nds K=nds L) (hL:L.Pairwise λa b=>a.1.me.1<b.1.me.1):K.Pairwise λa b=>a.1.me.1<b.1.me.1:=by
 have h1:(nds L).Pairwise λa b=>a.me.1<b.me.1:=by unfold nds;rw [List.pairwise_map];exact hL
 rw [← h] at h1
 unfold nds at h1
 rw [List.pairwise_map] at h1;exact h1
theorem Qi {K L:List N3} (h:nds K=nds L) {P:Nd->Prop} (hL:∀ y∈L,P y.1):∀ y∈K,P y.1:=λy hy=>by
 have:y.1∈nds L:=by rw [← h];exact au9.2 ⟨y,hy,rfl⟩
 obtain ⟨z,hz,e⟩:=au9.1 this
 rw [← e];exact hL z hz
def dc (L:List N3):List Int:=L.map (·.1.me.1)
theorem JZ {L:List N3} {k:Nat} (hk:k<L.length):dc (L.take (k+1))=dc (L.take k)++[(L.getD k z3).1.me.1]:=by unfold dc;rw [xo hk,ax5];rfl
theorem Ie {L:List N3} (hd:L.Pairwise λa b=>a.1.me.1≠b.1.me.1) {k:Nat} (hk:k<L.length):(L.getD k z3).1.me.1 ∉ dc (L.take k):=λhx=>by
 obtain ⟨y,hy,e⟩:=au9.1 hx
 obtain ⟨j,hj,rfl⟩:=List.mem_iff_getElem.1 hy
 rw [au0] at hj
 have h1:=List.pairwise_iff_getElem.1 hd j k (by omega) hk (by omega)
 rw [List.getElem_take] at e
 rw [uw hk] at h1
 exact h1 e
theorem VC {L:List N3} (h:L.Pairwise λa b=>a.1.me.1<b.1.me.1):L.Pairwise λa b=>a.1.me.1≠b.1.me.1:=h.imp λh=>by omega
theorem vv {L:List N3} (hn:∀ m∈av L,0<=m.1) (no:Int):decide (no∈dc L)=bu (av L) no:=by
 rw [aw6,decide_eq_true_iff,gD hn]
 constructor
 ·intro h
  obtain ⟨y,hy,e⟩:=au9.1 h
  exact ⟨y.1.me,au9.2 ⟨y,hy,rfl⟩,e⟩
 ·rintro ⟨m,hm,e⟩
  obtain ⟨y,hy,rfl⟩:=au9.1 hm
  exact au9.2 ⟨y,hy,e⟩
abbrev jE (ks:List Int):Obj:=.map (PS ks) ks.length
theorem MQ (ks:List Int) (n:Int):Obj.map ((PS ks).push {key:=.int .i64 n,val:=.agg #[],born:=ks.length}) (ks.length+1)=jE (ks++[n]):=by
 rw [HF];simp [jE]
theorem Bh {P:Program} {ρ:Operand->Value} {d:Option Tmp} {ty:TypeId} {pos:String} {af:Array Edge} {g:Option (Nat × Bool)} {t:TypeId} (S:Stt P t []):a8 P ⟨d,.build t #[],ty,pos,af,g⟩ ρ (.agg #[]):=
 cx (parts:=#[]) S [] (by simp) (λi v hm=>by simp at hm) (D:=[]) rfl
def ZQ (w:World) (N:TypeId) (L:List N3) (no:Int):cX:=λv w9=>
 (∃ k,cE L no=k/\k≠0/\v=.tuple #[.agg #[aq],.pointer none,.int .i64 k]) ∨
 (cE L no=0/\∃ vq K ks,v=.tuple #[.agg #[vq],.pointer (some (bf vq (il L no*68))),.int .i64 0]/\nds K=nds L/\St w [.sl vq N 68 K.length (au K),.grp ks (eI K)] w9)
theorem ZQ.n {w w9:World} {N:TypeId} {L:List N3} {no k:Int} {v:Value} (h:ZQ w N L no v w9) (hk:cE L no=k) (h0:k≠0):v=.tuple #[.agg #[aq],.pointer none,.int .i64 k]:=by
 rcases h with ⟨q,h1,_,h3⟩|⟨h1,_⟩
 ·rw [h3,← h1,hk]
 ·exact ax7 (hk.symm.trans h1) h0
theorem ZQ.y {w w9:World} {N:TypeId} {L:List N3} {no:Int} {v:Value} (h:ZQ w N L no v w9) (hk:cE L no=0):∃ vq K ks,v=.tuple #[.agg #[vq],.pointer (some (bf vq (il L no*68))),.int .i64 0]/\nds K=nds L/\St w [.sl vq N 68 K.length (au K),.grp ks (eI K)] w9:=by
 rcases h with ⟨q,h1,h2,_⟩|⟨_,h3⟩
 ·exact ax7 (h1.symm.trans hk) h2
 ·exact h3
theorem RS.nds {K L:List N3} (h:RS L) (e:nds K=nds L):RS K:=
 ⟨fun y hy=>Qi e (P:=RN) h.rn y hy,TN e h.inc,by have:av K=av L:=by rw [← cN,← cN,e]
                                                 rw [this];exact h.ring⟩
theorem Vj {K L:List N3} (e:nds K=nds L):av K=av L:=by rw [← cN,← cN,e]
theorem St.reob9 {w0 w:World} {B:List Own} {b:Nat} {o o':Obj} (s:St w0 B w) (i:Nat) (hi:B[i]? = some (.blk b o)) (e:o=o'):St w0 (B.set i (.blk b o')) w:=by
 subst e
 have:B.set i (.blk b o)=B:=by
  apply List.ext_getElem?
  intro j
  by_cases h:i=j
  ·subst h
   rw [List.getElem?_set_self (aq4.1 hi).1,hi]
  ·rw [List.getElem?_set_ne h]
 rw [this];exact s
theorem ot {K:List N3} {j:Nat} {x:N3} {w9:World} (h:eI K w9) (hx:CW w9 x):eI (K.set j x) w9:=λy hy=>by
 rcases List.mem_or_eq_of_mem_set hy with hy|rfl
 ·exact h y hy
 ·exact hx
theorem XJ {K:List N3} (h:K.Pairwise λa b=>a.1.me.1<b.1.me.1) {j:Nat} (hj:j<K.length):il K (K.getD j z3).1.me.1=j/\br K (K.getD j z3).1.me.1=K.getD j z3:=by
 have h1:∀ i,i<j->decide ((K.getD i z3).1.me.1=(K.getD j z3).1.me.1)=false:=λi hi=>by
  have:=List.pairwise_iff_getElem.1 h i j (by omega) hj hi
  rw [uw hj,uw (by omega)] at this
  exact aq1 (by omega)
 have h2:decide ((K.getD j z3).1.me.1=(K.getD j z3).1.me.1)=true:=aq2 rfl
 exact ⟨Q1 hj h1 h2,HX hj h1 h2⟩
theorem pm {K:List N3} (h:RS K) {j:Nat} (hj:j<K.length) {x:N3} (he:(K.getD j z3).1.me=x.1.me) (hx:RN x.1):K.set j x=fm K x/\RS (K.set j x)/\av (K.set j x)=av K:=by
 have hp:=h.inc
 have hsp:K=K.take j++K.getD j z3::K.drop (j+1):=by
  conv=>lhs;rw [← as7 j K,List.drop_eq_getElem_cons hj,uw hj]
 rw [hsp] at hp
 have h1:=List.pairwise_append.1 hp
 have h2:=List.pairwise_cons.1 h1.2.1
 have hno:(K.getD j z3).1.me.1=x.1.me.1:=by rw [he]
 have e:K.set j x=fm K x:=by
  rw [List.set_eq_take_append_cons_drop,if_pos hj]
  conv=>rhs;rw [hsp]
  exact(Dy (x:=x) (λz hz=>by rw [← hno];exact h1.2.2 z hz _ ar5) hno (λz hz=>by rw [← hno];exact h2.1 z hz)).symm
 obtain ⟨q1,q2,_⟩:=h.put (x:=x) (bE hj) he hx
 rw [e];exact ⟨rfl,q1,q2⟩
theorem Au {K K1 K2:List N3} {j:Nat} (h:RS K) (hj:j<K.length) {T1 T2:Nd} (hT1:T1=cD (av K) (K.getD j z3).1) (h1:nds K1=jI (nds K) T1) (hT2:T2=oz T1 (kw (av K1) (br K1 (T1.sc.getD 0 aS).1).1)) (h2:nds K2=jI (nds K1) T2):
 fl (nds K) (K.getD j z3).1.me.1=bif bu (av K2) (T2.sc.getD 0 aS).1 then jI (nds K2) (EO (br K2 (T2.sc.getD 0 aS).1).1 T2.me) else nds K2:=by
 have e0:ii (nds K) (K.getD j z3).1.me.1=(K.getD j z3).1:=by rw [← jj,(XJ h.inc hj).2]
 unfold fl
 simp only [e0,cN,← hT1]
 rw [← h1,cN,← jj,← hT2,← h2,cN,← jj]
theorem lE {K:List N3} (h:RS K) {no:Int} (hl:bu (av K) no=true):il K no<K.length/\K.getD (il K no) z3=br K no/\br K no∈K:=by
 have h1:il K no<K.length:=ap9 ((tM h.nos).trans hl)
 have h2:=(HR h1).1
 exact ⟨h1,h2,by rw [← h2];exact bE h1⟩
theorem Ar {K:List N3} (h:RS K) {j:Nat} (hj:j<K.length):bu (av K) (K.getD j z3).1.me.1=true:=(gD h.nos).2 ⟨_,au9.2 ⟨_,bE hj,rfl⟩,rfl⟩
theorem eP {w:World} {K:List N3} {j:Nat} {T:Nd} {u v:Value} (h:eI K w) (hj:j<K.length) (e:K.getD j z3=(T,u,v)):a7 w u 33 T.sc.length (aj T.sc)/\a7 w v 33 T.fg.length (aj T.fg):=by
 have h9:=h _ (bE hj)
 rw [e] at h9;exact h9
def VS (w:World) (N:TypeId) (L:List N3) (no:Int):cX:=λv w9=>
 (∃ k,cE L no=k/\k≠0/\v=.tuple #[.agg #[aq],.int .i64 k]) ∨
 (cE L no=0/\∃ vq K ks,v=.tuple #[.agg #[vq],.int .i64 0]/\nds K=iC (nds L) no/\St w [.sl vq N 68 K.length (au K),.grp ks (eI K)] w9)
theorem VS.n {w w9:World} {N:TypeId} {L:List N3} {no k:Int} {v:Value} (h:VS w N L no v w9) (hk:cE L no=k) (h0:k≠0):v=.tuple #[.agg #[aq],.int .i64 k]:=by
 rcases h with ⟨q,h1,_,h3⟩|⟨h1,_⟩
 ·rw [h3,← h1,hk]
 ·exact ax7 (hk.symm.trans h1) h0
theorem VS.y {w w9:World} {N:TypeId} {L:List N3} {no:Int} {v:Value} (h:VS w N L no v w9) (hk:cE L no=0):∃ vq K ks,v=.tuple #[.agg #[vq],.int .i64 0]/\nds K=iC (nds L) no/\St w [.sl vq N 68 K.length (au K),.grp ks (eI K)] w9:=by
 rcases h with ⟨q,h1,h2,_⟩|⟨_,h3⟩
 ·exact ax7 (h1.symm.trans hk) h2
 ·exact h3
theorem VS.any {w w9:World} {N:TypeId} {L:List N3} {vo:Value} {no:Int} {v:Value} (h:VS w N L no v w9) (e:Ext w w9):V1 w (ZY vo L) (Yx L no) (cE L no) v w9:=by
 rcases h with ⟨k,h1,h2,rfl⟩|⟨h1,vq,K,ks,rfl,hk,s⟩
 ·exact Lh ((St.start w).more e) (Xz h1 h2) h1
 ·exact LM h1 (RA (by rw [Yq h1,hk]) s)
theorem RS.wos {L:List N3} (h:RS L) (no:Int):RS (oM L no):=
 ⟨λx hx=>h.rn x (at4.1 hx).1,h.inc.sublist List.filter_sublist,h.ring.sub ((List.filter_sublist (l:=L)).map _)⟩
abbrev fQ (x:Nd) (u v:Value):Array Value:=aR x.me x.pr u v
abbrev Ry (y:N3):Array Value:=aR y.1.me y.1.pr y.2.1 y.2.2
abbrev tA (K:List N3) (kx:Nat):Nd:=cD (av K) (K.getD kx z3).1
abbrev tX (K K1:List N3) (kx:Nat):Nat:=il K1 ((tA K kx).sc.getD 0 aS).1
abbrev tB (K K1:List N3) (kx:Nat):N3:=K1.getD (tX K K1 kx) z3
abbrev tC (K K1:List N3) (kx:Nat):Nd:=kw (av K1) (tB K K1 kx).1
abbrev tD (K K1:List N3) (kx:Nat):Nd:=oz (tA K kx) (tC K K1 kx)
abbrev tY (K K1 K2:List N3) (kx:Nat):Nat:=il K2 ((tD K K1 kx).sc.getD 0 aS).1
abbrev tE (K K1 K2:List N3) (kx:Nat):N3:=K2.getD (tY K K1 K2 kx) z3
abbrev tF (K K1 K2:List N3) (kx:Nat):Nd:=EO (tE K K1 K2 kx).1 (tD K K1 kx).me
end Go.Proofs.YthmlflaiidhoiaaGreatDoor
