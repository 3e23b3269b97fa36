/- Own overlays, changed in place: own rows that are sorted; ranges over functions within a round; regions that draw their order, in which what was there ahead may be read; sets; what the package asks of overlays and the reference asks too; no Go in it. -/
import Derived.Shelf.SlSortCmp.WholeK
import Derived.Test.YtobfeflheaobiaaGreatDoorOv
set_option linter.unusedVariables false
set_option linter.unusedSimpArgs false
set_option linter.unusedSectionVars false
namespace Go.Proofs.YtobfeflheaobiaaGreatDoor
open Go.RowKit Go.Sort
section
variable {P:Program} {ops:Array Oper} {Q:Act→World→Prop} {l:List Oper} {a:Act} {w w0:World} {N:Nat} {L:List (Nat × Value)} {Df:List Deferred} {B:List Own} {d:Tmp} {ty:TypeId} {pos:String} {af:Array Edge} {x y z:Operand} {t e:TypeId}
theorem rG {v u9:Value} {sz n p:Nat} {xs ys D:List Value} (i:Nat) (h:Sl N a L Df) (s:St w0 B w) (hx:eu L x=some (.pointer (some (dy v p)))) (hy:eu L y=some u9) (hi:B[i]? = some (.sl v e sz n xs)) (hp:p+D.length≤n*sz) (h1:0<D.length) (hv:∀ u∈D,u.oneCell'=true)
 (hst:∀ (g:Nat) (w9:World) (cur:Array Value) (fz:Nat × Nat),w9.heap[g]? = some (.cells cur e fz)→(fz.2=0∨cur.size≤fz.1)→p+D.length≤cur.size→(storeVar t ⟨g,p,none⟩ u9).run P w9=.ok () (w9.setRow g (cur.toList.take p++D++cur.toList.drop (p+D.length)).toArray))
 (hys:xs.take p++D++xs.drop (p+D.length)=ys)
 (k:∀ w',St w0 (B.set i (.sl v e sz n ys)) w'→bX P ops Q l a w'):bX P ops Q (⟨none,.store t x y,ty,pos,af,none⟩::l) a w:=by
 have ho:=s.getSl i hi
 rcases ho.2 with ⟨_,h0⟩|⟨g,cap,cur,fz,rfl,hb,hg,hfz,hnc,hcm,hcs,htk⟩
 ·subst h0;omega
 ·have hcl:n*sz≤cur.size:=by rw [hcs];exact Nat.mul_le_mul_right _ hnc
  have hxl:xs.length=n*sz:=ho.1
  have hcx:cur.toList=xs++cur.toList.drop (n*sz):=by rw [← htk];exact(List.take_append_drop _ _).symm
  have hyl:ys.length=n*sz:=by
   rw [← hys];simp only [List.length_append,List.length_take,List.length_drop];omega
  have hnew:cur.toList.take p++D++cur.toList.drop (p+D.length)=ys++cur.toList.drop (n*sz):=by
   rw [← hys]
   conv=>lhs;rw [hcx]
   rw [List.take_append_of_le_length (by omega),List.drop_append_of_le_length (by omega)]
   simp only [List.append_assoc]
  have hel:(some (dy (Value.slice (some ⟨g,0,none⟩) n cap) p):Option Addr)=some ⟨g,p,none⟩:=by show some (Addr.add _ _)=_;rw [Addr.add_lit,Nat.zero_add]
  have hstr:=hst g w cur fz hg hfz (by omega)
  rw [hnew] at hstr
  have hsz:(ys++cur.toList.drop (n*sz)).toArray.size=cur.size:=by
   rw [List.size_toArray,List.length_append,List.length_drop,hyl];have:=Array.length_toList (xs:=cur);omega
  refine nH (R:=fun _ w'=>w'=w.setRow g (ys++cur.toList.drop (n*sz)).toArray) ?_ fun w' _ hw=>by
   subst hw
   refine k _ (s.upd i hi (p':=.sl _ e sz n ys) rfl rfl rfl (by simp) ⟨hyl,.inr ⟨g,cap,_,fz,rfl,hb,setRow_heap w g cur _ e fz hg,?_,hnc,hcm,?_,?_⟩⟩ (fun k hk=>.inl hk) (fun k hk hne=>setRow_other w g k _ fun e9=>hne (Own.at_sl.2 (by simp [Value.ownBlock,e9]))))
   ·rw [hsz];exact hfz
   ·rw [hsz];exact hcs
   ·show (ys++cur.toList.drop (n*sz)).take (n*sz)=ys
    rw [← hyl];exact List.take_left
  unfold db
  rw [hel] at hx
  simp only [execOp,h.ev hx,h.ev hy,Instr.storeAt,Instr.sureAddr,Sem.run_bind,Sem.run_pure,Result.andThen_ok,hstr]
theorem vF {v V:Value} {sz n p:Nat} {xs ys:List Value} (i:Nat) (h:Sl N a L Df) (s:St w0 B w) (ho:One P t) (hx:eu L x=some (.pointer (some (dy v p)))) (hy:eu L y=some V) (hi:B[i]? = some (.sl v e sz n xs)) (hp:p+1≤n*sz) (hv:V.oneCell'=true)
 (hys:xs.set p V=ys)
 (k:∀ w',St w0 (B.set i (.sl v e sz n ys)) w'→bX P ops Q l a w'):bX P ops Q (⟨none,.store t x y,ty,pos,af,none⟩::l) a w:=by
 have hxl:xs.length=n*sz:=(s.getSl i hi).1
 refine rG (D:=[V]) i h s hx hy hi hp (by simp) (fun u hu=>by rw [List.mem_singleton] at hu;subst hu;exact hv) (fun g w9 cur fz hg hfz hc=>?_) (by rw [← hys];simp only [List.length_cons,List.length_nil,Nat.zero_add];rw [List.set_eq_take_append_cons_drop,if_pos (by omega)];simp) k
 have hs:(sizeOf t).run P w9=.ok 1 w9:=by
  cases hq:P.info? t with
  |none=>have:=ho.size;simp [hq] at this
  |some i=>have:=ho.size;simp [hq] at this;simp [sizeOf,typeInfo,Sem.run_bind,hq,this]
 have hc1:V.cells=#[V]:=by
  cases V<;>first|rfl|(simp [Value.oneCell'] at hv)
 have:=gc P g p e fz [V] 0 cur w9 hg hfz (by simpa using hc) (fun u hu=>by rw [List.mem_singleton] at hu;subst hu;exact hv)
 simp only [Nat.add_zero,List.length_cons,List.length_nil,Nat.zero_add] at this
 simp [storeVar,Sem.run_bind,hs,hc1,this]
end
theorem kC {P:Program} {e:TypeId} {sz by_:Nat} (h:((P.info? e).bind fun i=>i.zero.map fun z=>(i.size,i.bytes,z.cells.size))=some (sz,by_,sz)) (h0:0<sz):Elm P e sz by_:=by
 cases hi:P.info? e with
 |none=>rw [hi] at h;simp at h
 |some i=>
  rw [hi] at h
  cases hz:i.zero with
  |none=>simp [hz] at h
  |some z=>
   simp only [Option.bind_some,hz,Option.map_some,Option.some.injEq,Prod.mk.injEq] at h
   exact ⟨⟨i,z,hi,hz,h.1,h.2.1,h.2.2⟩,h0⟩
section
variable {P:Program} {ρ:Operand→Value} {d:Option Tmp} {ty:TypeId} {pos:String} {af:Array Edge} {g:Option (Nat × Bool)} {x y:Operand} {t t' e:TypeId}
end
def Pc (L:List N3) (no:Int):Nat:=L.findIdx fun x=>decide (x.1.me.1=no)
theorem St.bring {w0 w:World} {B:List Own} {p:Own} (s:St w0 B w) (i:Nat) (hi:B[i]? = some p):St w0 (p::B.eraseIdx i) w:=s.perm (rj hi)
def PI:Type:={x:N3 // x.2.1.oneCell'=true∧x.2.2.oneCell'=true}
instance:Inhabited PI:=⟨⟨z3,rfl,rfl⟩⟩
theorem Jt {K L:List N3} (h:nds K=nds L) (hL:L.Pairwise fun a b=>a.1.me.1<b.1.me.1):K.Pairwise fun a b=>a.1.me.1<b.1.me.1:=by
 have h1:(nds L).Pairwise fun a b=>a.me.1<b.me.1:=by unfold nds;rw [List.pairwise_map];exact hL
 rw [← h] at h1
 unfold nds at h1
 rw [List.pairwise_map] at h1;exact h1
theorem F8 {K L:List N3} (h:nds K=nds L) {P:Nd→Prop} (hL:∀ y∈L,P y.1):∀ y∈K,P y.1:=fun y hy=>by
 have:y.1∈nds L:=by rw [← h];exact List.mem_map.2 ⟨y,hy,rfl⟩
 obtain ⟨z,hz,e⟩:=List.mem_map.1 this
 rw [← e];exact hL z hz
def N2 (w:World) (N:TypeId) (L:List N3) (no:Int):cW:=fun v w9=>
 (∃ k,cE L no=k∧k≠0∧v=.tuple #[.agg #[aI],.pointer none,.int .i64 k]) ∨
 (cE L no=0∧∃ vq K ks,v=.tuple #[.agg #[vq],.pointer (some (dy vq (Pc L no*68))),.int .i64 0]∧nds K=nds L∧St w [.sl vq N 68 K.length (gC K),.grp ks (Ld K)] w9)
theorem N2.n {w w9:World} {N:TypeId} {L:List N3} {no k:Int} {v:Value} (h:N2 w N L no v w9) (hk:cE L no=k) (h0:k≠0):v=.tuple #[.agg #[aI],.pointer none,.int .i64 k]:=by
 rcases h with ⟨q,h1,_,h3⟩|⟨h1,_⟩
 ·rw [h3,← h1,hk]
 ·exact absurd (hk.symm.trans h1) h0
theorem N2.y {w w9:World} {N:TypeId} {L:List N3} {no:Int} {v:Value} (h:N2 w N L no v w9) (hk:cE L no=0):∃ vq K ks,v=.tuple #[.agg #[vq],.pointer (some (dy vq (Pc L no*68))),.int .i64 0]∧nds K=nds L∧St w [.sl vq N 68 K.length (gC K),.grp ks (Ld K)] w9:=by
 rcases h with ⟨q,h1,h2,_⟩|⟨_,h3⟩
 ·exact absurd (h1.symm.trans hk) h2
 ·exact h3
theorem RS.nds {K L:List N3} (h:RS L) (e:nds K=nds L):RS K:=
 ⟨fun y hy=>F8 e (P:=RN) h.rn y hy,Jt e h.inc,by have:lq K=lq L:=by rw [← yu,← yu,e]
                                                 rw [this];exact h.ring⟩
def Lc (w:World) (N:TypeId) (L:List N3) (no:Int):cW:=fun v w9=>
 (∃ k,cE L no=k∧k≠0∧v=.tuple #[.agg #[aI],.int .i64 k]) ∨
 (cE L no=0∧∃ vq K ks,v=.tuple #[.agg #[vq],.int .i64 0]∧nds K=Hi (nds L) no∧St w [.sl vq N 68 K.length (gC K),.grp ks (Ld K)] w9)
theorem Lc.n {w w9:World} {N:TypeId} {L:List N3} {no k:Int} {v:Value} (h:Lc w N L no v w9) (hk:cE L no=k) (h0:k≠0):v=.tuple #[.agg #[aI],.int .i64 k]:=by
 rcases h with ⟨q,h1,_,h3⟩|⟨h1,_⟩
 ·rw [h3,← h1,hk]
 ·exact absurd (hk.symm.trans h1) h0
theorem Lc.y {w w9:World} {N:TypeId} {L:List N3} {no:Int} {v:Value} (h:Lc w N L no v w9) (hk:cE L no=0):∃ vq K ks,v=.tuple #[.agg #[vq],.int .i64 0]∧nds K=Hi (nds L) no∧St w [.sl vq N 68 K.length (gC K),.grp ks (Ld K)] w9:=by
 rcases h with ⟨q,h1,h2,_⟩|⟨_,h3⟩
 ·exact absurd (h1.symm.trans hk) h2
 ·exact h3
theorem Lc.any {w w9:World} {N:TypeId} {L:List N3} {vo:Value} {no:Int} {v:Value} (h:Lc w N L no v w9) (e:Ext w w9):MO w (PB vo L) (Mw L no) (cE L no) v w9:=by
 rcases h with ⟨k,h1,h2,rfl⟩|⟨h1,vq,K,ks,rfl,hk,s⟩
 ·exact JW ((St.start w).more e) (No h1 h2) h1
 ·exact IH h1 (Nn (by rw [LZ h1,hk]) s)
end Go.Proofs.YtobfeflheaobiaaGreatDoor
