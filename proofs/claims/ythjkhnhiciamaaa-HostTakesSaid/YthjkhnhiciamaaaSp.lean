/- Where a packet comes to in the end: links that do not come back, counts, copy by copy, more hops, fewer entries, one more trigger; no Go in it. -/
import Derived.Test.YthjkhnhiciamaaaRw
set_option linter.unusedVariables false
set_option linter.unusedSimpArgs false
set_option linter.unusedSectionVars false
namespace Go.Proofs.Ythjkhnhiciamaaa
open Go.RowKit
/-! ### what is counted -/
@[ext] structure Cn where
  hs : Nat → Nat
  lost : Nat
  hops : Nat
  work : Nat
namespace Cn
def zero : Cn := ⟨fun _ => 0, 0, 0, 0⟩
def add (a b : Cn) : Cn := ⟨fun h => a.hs h + b.hs h, a.lost + b.lost, a.hops + b.hops, a.work + b.work⟩
theorem add_zero (a : Cn) : a.add zero = a := rfl
theorem zero_add (a : Cn) : zero.add a = a := by
  unfold add zero; cases a; simp
theorem add_assoc (a b c : Cn) : (a.add b).add c = a.add (b.add c) := by
  unfold add; simp [Nat.add_assoc]
end Cn
def wkC : Cn := ⟨fun _ => 0, 0, 0, 1⟩
def oneC (f : Pk → Cn) (o : Ot) : Cn := if o.k = 1 then ⟨fun h => if h = o.h.toNat then 1 else 0, 0, 0, 0⟩ else if o.k = 2 then f o.p else if o.y = 9 then ⟨fun _ => 0, 0, 1, 0⟩ else ⟨fun _ => 0, 1, 0, 0⟩
/-! ### none is dead by hops -/
end Go.Proofs.Ythjkhnhiciamaaa

namespace Go.Proofs.Ythjkhnhiciamaaa
open Go.RowKit
/-! ### whole packets, queues, hosts -/
theorem Cn.add_comm (a b : Cn) : a.add b = b.add a := by
  unfold Cn.add
  simp only [Nat.add_comm]
/-! ### one that adds nothing -/
/-! ### one that is alone -/
end Go.Proofs.Ythjkhnhiciamaaa

namespace Go.Proofs.Ythjkhnhiciamaaa
open Go.RowKit
/-! ### copy by copy: what the walk wants -/
structure COk (c : Cn) : Prop where
  hs : ∀ h, c.hs h ≤ c.work
  lost : c.lost ≤ c.work
  hops : c.hops ≤ c.work
  work : c.work ≤ 1001
theorem COk.wk {c : Cn} (h : COk c) (hw : ¬ 1000 < c.work) : COk (c.add wkC) :=
  ⟨fun x => by have := h.hs x; show c.hs x + 0 ≤ c.work + 1; omega, by have := h.lost; show c.lost + 0 ≤ c.work + 1; omega, by have := h.hops; show c.hops + 0 ≤ c.work + 1; omega, by show c.work + 1 ≤ 1001; omega⟩
end Go.Proofs.Ythjkhnhiciamaaa

namespace Go.Proofs.Ythjkhnhiciamaaa
open Go.RowKit
/-! ### what the walks want of spreads: four cells -/
def ssL (v : Value) (l h k : Int) : List Value := [v, .int .i64 l, .int .i64 h, .int .i64 k]
def ssArr (v : Value) (l h k : Int) : Array Value := (ssL v l h k).toArray
section
variable {P : Program} {ρ : Operand → Value} {d : Option Tmp} {ty : TypeId} {pos : String} {af : Array Edge} {g : Option (Nat × Bool)} {x y z : Operand} {t : TypeId}
end
/-! where it came to -/
structure Sd where
  hosts : List Int
  lost : Int
  hops : Int
  work : Int
deriving DecidableEq
/-! links of a table -/
end Go.Proofs.Ythjkhnhiciamaaa

namespace Go.Proofs.Ythjkhnhiciamaaa
open Go.RowKit
/-! ### copy by copy, in memory -/
/-! where it comes to, in a row -/
theorem one_cell {v : Value} (h : v.oneCell' = true) : v.cells.size = 1 ∧ v.cells.toList = [v] := by cases v <;> first | exact ⟨rfl, rfl⟩ | cases h
end Go.Proofs.Ythjkhnhiciamaaa

namespace Go.Proofs.Ythjkhnhiciamaaa
open Go.RowKit
/-! ### what the package answers -/
def SpP (w : World) (D : Sd) (E : Int) : Asrt := fun v w' => ∃ u ks, v = .tuple #[.agg (ssArr u D.lost D.hops D.work), .int .i64 E] ∧ St w [.grp ks fun w9 => RdZ w9 u 1 D.hosts.length (intC D.hosts)] w'
end Go.Proofs.Ythjkhnhiciamaaa

namespace Go.Proofs.Ythjkhnhiciamaaa
open Go.RowKit
/-! ### a slice of the call's own that does not begin at its block's head -/
def Tails (w : World) (base : Nat) (e : TypeId) (sz : Nat) (v : Value) (n : Nat) (xs : List Value) : Prop :=
  xs.length = n * sz ∧
  ((v = .slice none 0 0 ∧ n = 0) ∨
   ∃ g o cap cur fz, v = .slice (some ⟨g, o, none⟩) n cap ∧ base ≤ g ∧ w.heap[g]? = some (.cells cur e fz) ∧ (fz.2 = 0 ∨ cur.size ≤ fz.1) ∧ n ≤ cap ∧ cap ≤ maxLen ∧ o + cap * sz ≤ cur.size ∧ (cur.toList.drop o).take (n * sz) = xs)
theorem Tails.of_owns {w : World} {base : Nat} {e : TypeId} {sz : Nat} {v : Value} {n : Nat} {xs : List Value} (h : Owns w base e sz v n xs) : Tails w base e sz v n xs := by
  refine ⟨h.1, h.2.imp id ?_⟩
  rintro ⟨g, cap, cur, fz, hv, hb, hg, hz, hn, hc, hs, ht⟩
  exact ⟨g, 0, cap, cur, fz, hv, hb, hg, hz, hn, hc, by omega, by simpa using ht⟩
theorem Tails.rd {w : World} {base : Nat} {e : TypeId} {sz : Nat} {v : Value} {n : Nat} {xs : List Value} (h : Tails w base e sz v n xs) : RdZ w v sz n xs := by
  refine ⟨h.1, h.2.imp id ?_⟩
  rintro ⟨g, o, cap, cur, fz, hv, hb, hg, hz, hn, hc, hs, ht⟩
  refine ⟨⟨g, o, none⟩, cap, hv, hn, fun j x hx => ?_⟩
  have hadd : (⟨g, o, none⟩ : Addr).add j = ⟨g, o + j, none⟩ := by unfold Addr.add; split <;> simp_all
  rw [List.getElem?_toArray] at hx
  rw [hadd, cell_of_row w g (o + j) cur e fz hg]
  rw [← ht, List.getElem?_take] at hx
  split at hx
  · rw [List.getElem?_drop] at hx; simpa using hx
  · cases hx
theorem Tails.at {w w' : World} {base : Nat} {e : TypeId} {sz : Nat} {v : Value} {n : Nat} {xs : List Value} (h : Tails w base e sz v n xs) (hk : ∀ k ∈ v.ownBlock.toList, w'.heap[k]? = w.heap[k]?) : Tails w' base e sz v n xs := by
  refine ⟨h.1, h.2.imp id ?_⟩
  rintro ⟨g, o, cap, cur, fz, hv, hb, hg, r⟩
  exact ⟨g, o, cap, cur, fz, hv, hb, by rw [hk g (by rw [hv]; simp [Value.ownBlock])]; exact hg, r⟩
theorem drop_block (v : Value) (sz k : Nat) : (dropV v sz k).ownBlock = v.ownBlock := by
  unfold dropV
  split
  · next a n c =>
    cases a with
    | none => split <;> rfl
    | some p =>
      split
      · rfl
      · show some (p.add (k * sz)).block = some p.block
        rw [add_block]
  · rfl
theorem Tails.drop {w : World} {base : Nat} {e : TypeId} {sz : Nat} {v : Value} {n : Nat} {xs : List Value} (h : Tails w base e sz v n xs) (k : Nat) (hk : k ≤ n) : Tails w base e sz (dropV v sz k) (n - k) (xs.drop (k * sz)) := by
  refine ⟨by rw [List.length_drop, h.1, Nat.sub_mul], ?_⟩
  rcases h.2 with ⟨rfl, rfl⟩ | ⟨g, o, cap, cur, fz, rfl, hb, hg, hz, hn, hc, hs, ht⟩
  · obtain rfl : k = 0 := by omega
    exact .inl ⟨rfl, rfl⟩
  · right
    have hmul : k * sz ≤ cap * sz := Nat.mul_le_mul_right _ (by omega)
    by_cases hck : cap = k
    · refine ⟨g, o, cap - k, cur, fz, by simp [dropV, hck], hb, hg, hz, by omega, by omega, ?_, ?_⟩
      · rw [Nat.sub_mul]; omega
      · obtain rfl : n = k := by omega
        rw [Nat.sub_self, Nat.zero_mul, List.take_zero, ← h.1, List.drop_length]
    · have hadd : (⟨g, o, none⟩ : Addr).add (k * sz) = ⟨g, o + k * sz, none⟩ := by unfold Addr.add; split <;> simp_all
      refine ⟨g, o + k * sz, cap - k, cur, fz, by simp [dropV, hck, hadd], hb, hg, hz, by omega, by omega, ?_, ?_⟩
      · rw [Nat.sub_mul]; omega
      · rw [← ht, List.drop_take, List.drop_drop, Nat.sub_mul]
/-- as what is owned -/
def tlO (base : Nat) (v : Value) (e : TypeId) (sz n : Nat) (xs : List Value) : Own := .grp v.ownBlock.toList fun w9 => Tails w9 base e sz v n xs
theorem tl_holds {w0 w : World} {base : Nat} {v : Value} {e : TypeId} {sz n : Nat} {xs : List Value} (h : Tails w base e sz v n xs) : (tlO base v e sz n xs).holds w0 w := by
  refine ⟨fun k hk => ?_, fun w' hw => h.at hw⟩
  rcases h.2 with ⟨rfl, _⟩ | ⟨g, o, cap, cur, fz, rfl, _, hg, _⟩
  · simp [Value.ownBlock] at hk
  · simp [Value.ownBlock] at hk
    subst hk
    exact (Array.getElem?_eq_some_iff.1 hg).1
theorem tl_at {base : Nat} {v : Value} {e : TypeId} {sz n : Nat} {xs : List Value} {k : Nat} : (tlO base v e sz n xs).at k ↔ v.ownBlock = some k := by
  show k ∈ v.ownBlock.toList ↔ _
  simp
theorem St.tails {w0 w : World} {B : List Own} {base : Nat} {v : Value} {e : TypeId} {sz n : Nat} {xs : List Value} (s : St w0 B w) (i : Nat) (hi : B[i]? = some (tlO base v e sz n xs)) : Tails w base e sz v n xs :=
  (s.has _ (List.mem_of_getElem? hi)).2 w fun _ _ => rfl
/-- what is owned is said otherwise -/
theorem St.said {w0 w : World} {B : List Own} (s : St w0 B w) (i : Nat) {p q : Own} (hi : B[i]? = some p) (hold : q.holds w0 w) (hk : ∀ k, q.at k → p.at k) : St w0 (B.set i q) w :=
  s.upd i hi rfl rfl rfl (Nat.le_refl _) hold (fun k h => .inl (hk k h)) fun _ _ _ => rfl
theorem St.tail {w0 w : World} {B : List Own} {v : Value} {e : TypeId} {sz n : Nat} {xs : List Value} (s : St w0 B w) (i : Nat) (hi : B[i]? = some (.sl v e sz n xs)) : St w0 (B.set i (tlO w0.heap.size v e sz n xs)) w :=
  s.said i hi (tl_holds (.of_owns (s.getSl i hi))) fun k h => Own.at_sl.2 (tl_at.1 h)
theorem St.tdrop {w0 w : World} {B : List Own} {base : Nat} {v : Value} {e : TypeId} {sz n : Nat} {xs : List Value} (s : St w0 B w) (i : Nat) (hi : B[i]? = some (tlO base v e sz n xs)) (k : Nat) (hk : k ≤ n) : St w0 (B.set i (tlO base (dropV v sz k) e sz (n - k) (xs.drop (k * sz)))) w :=
  s.said i hi (tl_holds ((s.tails i hi).drop k hk)) fun j h => tl_at.2 (by rw [← drop_block v sz k]; exact tl_at.1 h)
theorem St.retl {w0 w : World} {B : List Own} {base : Nat} {v : Value} {e : TypeId} {sz n m : Nat} {xs ys : List Value} (s : St w0 B w) (i : Nat) (hi : B[i]? = some (tlO base v e sz n xs)) (hn : n = m) (hx : xs = ys) : St w0 (B.set i (tlO base v e sz m ys)) w := by
  subst hn; subst hx; exact s.said i hi (tl_holds (s.tails i hi)) fun _ h => h
theorem run_append_roomO {P : Program} (w : World) (t ty e : TypeId) (i : TypeInfo) (ht : P.underlying t = some (.slice e)) (hi : P.info? e = some i)
    (g o sLen sCap : Nat) (cur : Array Value) (fz : Nat × Nat) (hg : w.heap[g]? = some (.cells cur e fz)) (hz : fz.2 = 0 ∨ cur.size ≤ fz.1)
    (a : Addr) (m c : Nat) (news : List Value) (hl : news.length = m * i.size) (hnews : ∀ j u, news[j]? = some u → w.cell? (a.add j) = some u) (h1 : ∀ u ∈ news, u.oneCell' = true)
    (hroom : sLen + m ≤ sCap) (hfit : o + sLen * i.size + news.length ≤ cur.size) :
    (Builtin.append_ #[t, t] ty #[.slice (some ⟨g, o, none⟩) sLen sCap, .slice (some a) m c]).run P w =
      .ok (.slice (some ⟨g, o, none⟩) (sLen + m) sCap) (w.setRow g (cur.toList.take (o + sLen * i.size) ++ news ++ cur.toList.drop (o + sLen * i.size + news.length)).toArray) := by
  have hf := run_firstCells_some (P := P) w i.size m a m c news hl hnews
  have hst := run_storeCells_atG P g (o + sLen * i.size) e fz news 0 cur w hg hz (by simpa using hfit) h1
  simp only [Nat.add_zero] at hst
  have hadd : (⟨g, o, none⟩ : Addr).add (sLen * i.size) = ⟨g, o + sLen * i.size, none⟩ := by unfold Addr.add; split <;> simp_all
  simp [Builtin.append_, run_underlying ht, sizeOf, typeInfo, hi, Builtin.lenOf, hroom, hf, hadd, hst]
theorem run_append_tl {P : Program} {w : World} {base : Nat} {t ty e : TypeId} {sz by_ : Nat} (ht : P.underlying t = some (.slice e)) (E : Elm P e sz by_) {v : Value} {n : Nat} {xs : List Value} (hown : Tails w base e sz v n xs)
    {a : Addr} {m c : Nat} {news : List Value} (hl : news.length = m * sz) (hnews : ∀ (j : Nat) u, news[j]? = some u → w.cell? (a.add j) = some u) (h1 : ∀ u ∈ news, u.oneCell' = true) (hm : 1 ≤ m)
    (h63 : n + m ≤ maxLen) (hbytes : (n + m) * by_ ≤ 140737488355328) (hbase : base ≤ w.heap.size) :
    ∃ v' w', (Builtin.append_ #[t, t] ty #[v, .slice (some a) m c]).run P w = .ok v' w' ∧ Tails w' base e sz v' (n + m) (xs ++ news) ∧ Grw w w' v.ownBlock ∧ (v'.ownBlock = v.ownBlock ∨ v'.ownBlock = some w.heap.size) := by
  obtain ⟨i, z, hi, hz, rfl, rfl, hzs⟩ := E.info
  have hsmall : n + m ≤ 9223372036854775807 := by simp only [maxLen] at h63; omega
  have hlen : (xs ++ news).length = (n + m) * i.size := by rw [List.length_append, hown.1, hl, Nat.add_mul]
  have hnew : ∀ (cap : Nat) (rest : Array Value), n + m ≤ cap → cap ≤ maxLen → rest.size = (cap - (n + m)) * i.size → Tails (w.drew.alloc (.cells (xs.toArray ++ news.toArray ++ rest) e)) base e i.size (.slice (some ⟨w.heap.size, 0, none⟩) (n + m) cap) (n + m) (xs ++ news) := fun cap rest h2 h3 h4 => by
    refine ⟨hlen, .inr ⟨w.heap.size, 0, cap, _, (0, 0), rfl, hbase, heap_alloc_new w.drew _, .inl rfl, h2, h3, ?_, ?_⟩⟩
    · rw [Array.size_append, Array.size_append, List.size_toArray, List.size_toArray, hown.1, hl, h4, ← Nat.add_mul, ← Nat.add_mul, Nat.zero_add]
      exact Nat.mul_le_mul_right _ (by omega)
    · rw [Array.toList_append, Array.toList_append, ← hlen, List.drop_zero]; exact List.take_left
  have hgrow : ∀ (o : Obj) (row : Option Nat), Grw w (w.drew.alloc o) row := fun o row => ⟨⟨rfl, rfl, rfl, by simp, fun k hk _ => Below.heap_alloc w.drew _ k hk⟩, Nat.le_succ _⟩
  have hrest : ∀ old, (Builtin.zeroCells z.cells (grownCap w (n + m) old e - (n + m))).size = (grownCap w (n + m) old e - (n + m)) * i.size := fun old => by rw [size_zeroCells, hzs]
  rcases hown.2 with ⟨rfl, rfl⟩ | ⟨g, o, cap, cur, fz, rfl, hbg, hg, hfz, hnc, hcm, hcs, htake⟩
  · have hx : xs = [] := List.eq_nil_of_length_eq_zero (by simpa using hown.1)
    subst hx
    have hr := run_append_nil (P := P) w t ty e i z ht hi hz a m c news hl hnews (by omega) (by omega) (by have hb := hbytes; simp only [Nat.zero_add] at hb; omega)
    have h9 := hnew (grownCap w (0 + m) 0 e) _ (grownCap_ge w _ 0 e) (grownCap_le_maxLen w _ 0 e h63) (hrest 0)
    simp only [Nat.zero_add, List.nil_append, Array.empty_append] at h9 hr ⊢
    exact ⟨_, _, hr, h9, hgrow _ _, .inr rfl⟩
  · by_cases hroom : n + m ≤ cap
    · have hfit : o + n * i.size + news.length ≤ cur.size := by
        have := Nat.mul_le_mul_right i.size hroom
        rw [Nat.add_mul] at this
        rw [hl]; omega
      have hr := run_append_roomO (P := P) w t ty e i ht hi g o n cap cur fz hg hfz a m c news hl hnews h1 hroom hfit
      have hsz : (cur.toList.take (o + n * i.size) ++ news ++ cur.toList.drop (o + n * i.size + news.length)).length = cur.size := by
        simp only [List.length_append, List.length_take, List.length_drop, Array.length_toList]
        omega
      refine ⟨_, _, hr, ⟨hlen, .inr ⟨g, o, cap, _, fz, rfl, hbg, setRow_heap w g cur _ e _ hg, ?_, hroom, hcm, ?_, ?_⟩⟩, ⟨⟨rfl, rfl, rfl, by simp, fun k _ hk => setRow_other w g k _ (fun e => hk (by simp [Value.ownBlock, e]))⟩, Nat.le_refl _⟩, .inl rfl⟩
      · refine hfz.imp id fun h9 => ?_
        rw [List.size_toArray, hsz]; exact h9
      · rw [List.size_toArray, hsz]; exact hcs
      · show (List.drop o (cur.toList.take (o + n * i.size) ++ news ++ cur.toList.drop (o + n * i.size + news.length))).take _ = _
        have hol : o ≤ (cur.toList.take (o + n * i.size)).length := by
          rw [List.length_take, Array.length_toList]; omega
        rw [List.append_assoc, List.drop_append_of_le_length hol, List.drop_take, Nat.add_sub_cancel_left, htake, ← List.append_assoc, ← hlen]
        exact List.take_left
    · have hcells : ∀ (j : Nat) u, xs[j]? = some u → w.cell? ((⟨g, o, none⟩ : Addr).add j) = some u := fun j u hu => by
        obtain h9 := hown.rd.2
        rcases h9 with ⟨h9, _⟩ | ⟨p, c9, h9, _, hc9⟩
        · cases h9
        · cases h9; exact hc9 j u (by simpa using hu)
      have hr := run_append_grow (P := P) w t ty e i z ht hi hz ⟨g, o, none⟩ n cap xs hown.1 hcells a m c news hl hnews (by omega) (by omega) (growslice_fits (by omega) hbytes)
      exact ⟨_, _, hr, hnew _ _ (grownCap_ge w _ cap e) (grownCap_le_maxLen w _ cap e h63) (hrest cap), hgrow _ _, .inr rfl⟩
section
variable {ro : Option Nat} {P : Program} {ops : Array Oper} {Q : Act → World → Prop} {l : List Oper} {a : Act} {w w0 : World} {N : Nat} {L : List (Nat × Value)} {Df : List Deferred} {B : List Own} {d : Tmp} {ty : TypeId} {pos : String} {af : Array Edge} {x y : Operand} {t e : TypeId}
theorem s_append_tl {v v2 : Value} {base sz by_ n m : Nat} {xs ys : List Value} (i j : Nat) (h : Sl N a L Df) (s : St w0 B w) (ht : P.underlying t = some (.slice e)) (E : Elm P e sz by_) (hx : evo L x = some v) (hy : evo L y = some v2)
    (hi : B[i]? = some (tlO base v e sz n xs)) (hj : B[j]? = some (.sl v2 e sz m ys)) (hm : 1 ≤ m) (h1 : ∀ u ∈ ys, u.oneCell' = true) (h63 : n + m ≤ maxLen) (hbytes : (n + m) * by_ ≤ 140737488355328) (hbase : base ≤ w.heap.size) (hd : Nat.blt d N = true)
    (k : ∀ a' w' v', Sl N a' ((d, v') :: L) Df → St w0 (B.set i (tlO base v' e sz (n + m) (xs ++ ys))) w' → Lst P ops Q l a' w') :
    Lst P ops Q (⟨some d, .call { callee := .builtin .append, args := #[x, y], argTypes := #[t, t] }, ty, pos, af, none⟩ :: l) a w := by
  have hv := s.tails i hi
  have hv2 := s.getSl j hj
  obtain ⟨g2, c2, rfl⟩ := ownsRow_addr hv2 hm
  obtain ⟨v', w', hr, h2, h3, h4⟩ := run_append_tl (ty := ty) ht E hv (a := ⟨g2, 0, none⟩) (m := m) (c := c2) (news := ys) hv2.1 (hv2.cells (g := g2) rfl) h1 hm h63 hbytes hbase
  refine s_does (R := fun u w'' => u = v' ∧ w'' = w') h (by
    unfold Does
    simp only [execOp, resolve, invoke, builtin, Sem.run_bind, Sem.run_pure, Result.andThen_ok, List.map_toArray, List.map_cons, List.map_nil, h.ev hx, h.ev hy, hr]
    first | exact ⟨rfl, rfl⟩ | exact ⟨trivial, rfl⟩ | exact ⟨trivial, trivial⟩ | trivial) hd fun a' w'' u ⟨e1, e2⟩ hs => ?_
  subst e1; subst e2
  refine k _ _ _ hs (s.upd i hi h3.os h3.tape h3.output h3.size (tl_holds h2) (fun k hk => ?_) (fun k hk hne => ?_) h3.drawn)
  · rcases h4 with h4 | h4
    · exact .inl (tl_at.2 (by rw [← tl_at.1 hk]; exact h4.symm))
    · right
      have : u.ownBlock = some k := tl_at.1 hk
      rw [h4] at this; cases this; exact Nat.le_refl _
  · exact h3.block k hk fun e => hne (tl_at.2 e.symm)
end
/-! ### copy, to a part of an own slice whose elements are of one cell -/
section
variable {ro : Option Nat} {P : Program} {ops : Array Oper} {Q : Act → World → Prop} {l : List Oper} {a : Act} {w w0 : World} {N : Nat} {L : List (Nat × Value)} {Df : List Deferred} {B : List Own} {d : Tmp} {ty : TypeId} {pos : String} {af : Array Edge} {x y : Operand} {t t' e : TypeId}
end
theorem Tails.one {w : World} {base : Nat} {e : TypeId} {sz : Nat} {v : Value} {n : Nat} {xs : List Value} (h : Tails w base e sz v n xs) : v.oneCell' = true := by
  rcases h.2 with ⟨rfl, _⟩ | ⟨g, o, cap, cur, fz, rfl, _⟩ <;> rfl
end Go.Proofs.Ythjkhnhiciamaaa

namespace Go.Proofs.Ythjkhnhiciamaaa
open Go.RowKit
/-! ### where it comes to, copy behind copy: a row of packets, counts -/
theorem RwU.take {K : List O2} {w : World} (h : RwU K w) (k : Nat) : RwU (K.take k) w := fun x hx => h x (List.mem_of_mem_take hx)
/-! counts, added -/
structure CB (c : Cn) (m : Nat) : Prop where
  hs : ∀ h, c.hs h ≤ m
  lost : c.lost ≤ m
  hops : c.hops ≤ m
theorem CB.mono {c : Cn} {m n : Nat} (h : CB c m) (hm : m ≤ n) : CB c n := ⟨fun x => Nat.le_trans (h.hs x) hm, Nat.le_trans h.lost hm, Nat.le_trans h.hops hm⟩
theorem CB.zero : CB .zero 0 := ⟨fun _ => Nat.le_refl _, Nat.le_refl _, Nat.le_refl _⟩
theorem CB.wk {c : Cn} {m : Nat} (h : CB c m) : CB (c.add wkC) m := ⟨fun x => h.hs x, h.lost, h.hops⟩
theorem CB.one {c : Cn} {m : Nat} (h : CB c m) (o : Ot) : CB (c.add (oneC (fun _ => .zero) o)) (m + 1) := by
  have h1 := h.hs; have h2 := h.lost; have h3 := h.hops
  unfold oneC
  split
  · refine ⟨fun x => ?_, ?_, ?_⟩
    · have := h1 x; show c.hs x + (if x = o.h.toNat then 1 else 0) ≤ m + 1; split <;> omega
    · show c.lost + 0 ≤ m + 1; omega
    · show c.hops + 0 ≤ m + 1; omega
  · split
    · refine ⟨fun x => ?_, ?_, ?_⟩
      · have := h1 x; show c.hs x + 0 ≤ m + 1; omega
      · show c.lost + 0 ≤ m + 1; omega
      · show c.hops + 0 ≤ m + 1; omega
    · split
      · refine ⟨fun x => ?_, ?_, ?_⟩
        · have := h1 x; show c.hs x + 0 ≤ m + 1; omega
        · show c.lost + 0 ≤ m + 1; omega
        · show c.hops + 1 ≤ m + 1; omega
      · refine ⟨fun x => ?_, ?_, ?_⟩
        · have := h1 x; show c.hs x + 0 ≤ m + 1; omega
        · show c.lost + 1 ≤ m + 1; omega
        · show c.hops + 0 ≤ m + 1; omega
/-! the counts in a row of numbers -/
/-! one, so many times -/
/-! what the package hands out -/
/-! what the walks want besides -/
section
variable {P : Program} {ρ : Operand → Value} {d : Option Tmp} {ty : TypeId} {pos : String} {af : Array Edge} {g : Option (Nat × Bool)} {x y z u : Operand} {t : TypeId}
end
end Go.Proofs.Ythjkhnhiciamaaa
