/- Maps whose keys are 1 to n; letters that were posted, by their numbers; how often each is there; no Go in it. -/
import Derived.Laws.IdiomRangeMap
import Derived.Test.YtbgkoikpdhecfaaEm
set_option linter.unusedVariables false
set_option linter.unusedSimpArgs false
set_option linter.unusedSectionVars false
namespace Go.Proofs.Ytbgkoikpdhecfaa
open Go.RowKit
/-! ### maps whose keys are 1 to n, each with its value; they are written, read, gone through -/
def mpL (a n : Nat) (V : Nat → Value) : List MapEntry := (List.range' a n).map fun (j : Nat) => { key := .int .i64 ((j : Int) + 1), val := V j, born := j }
def mpE (n : Nat) (V : Nat → Value) : Array MapEntry := (mpL 0 n V).toArray
def mpO (n : Nat) (V : Nat → Value) : Obj := .map (mpE n V) n
def updV (V : Nat → Value) (q : Nat) (v : Value) : Nat → Value := fun j => if j = q then v else V j
theorem find_mp (V : Nat → Value) (q : Nat) : ∀ (n a i : Nat), Instr.findNow (.int .i64) (.int .i64 ((q : Int) + 1)) (mpL a n V) i = some (if a ≤ q ∧ q < a + n then some (i + (q - a), V q) else none)
  | 0, a, i => by
    rw [if_neg (by omega)]; rfl
  | n + 1, a, i => by
    have ih := find_mp V q n (a + 1) (i + 1)
    have hc : mpL a (n + 1) V = { key := .int .i64 ((a : Int) + 1), val := V a, born := a } :: mpL (a + 1) n V := by unfold mpL; rw [List.range'_succ]; rfl
    rw [hc]
    unfold Instr.findNow
    by_cases h : q = a
    · subst h
      have hs : Instr.sameNow (.int .i64) (.int .i64 ((q : Int) + 1)) (.int .i64 ((q : Int) + 1)) = some true := by simp [Instr.sameNow]
      rw [if_pos (by omega), Nat.sub_self]
      simp only [hs]; rfl
    · have hs : Instr.sameNow (.int .i64) (.int .i64 ((q : Int) + 1)) (.int .i64 ((a : Int) + 1)) = some false := by
        simp only [Instr.sameNow, if_true]
        congr 1
        rw [beq_eq_false_iff_ne]; omega
      simp only [hs, ih]
      by_cases h1 : a + 1 ≤ q ∧ q < a + 1 + n
      · rw [if_pos h1, if_pos (by omega), show i + 1 + (q - (a + 1)) = i + (q - a) from by omega]
      · rw [if_neg h1, if_neg (by omega)]
theorem mpE_list (n : Nat) (V : Nat → Value) : (mpE n V).toList = mpL 0 n V := rfl
theorem mpE_get (n : Nat) (V : Nat → Value) (j : Nat) : (mpE n V)[j]? = if j < n then some { key := .int .i64 ((j : Int) + 1), val := V j, born := j } else none := by
  rw [← Array.getElem?_toList, mpE_list]
  unfold mpL
  rw [List.getElem?_map]
  by_cases h : j < n
  · rw [if_pos h, List.getElem?_range' h]; simp
  · rw [if_neg h, List.getElem?_eq_none (by simp; omega)]; rfl
theorem mp_congr {n : Nat} {V W : Nat → Value} (h : ∀ j, j < n → V j = W j) : mpO n V = mpO n W := by
  unfold mpO
  congr 1
  apply Array.ext_getElem?
  intro j
  rw [mpE_get, mpE_get]
  by_cases hj : j < n
  · rw [if_pos hj, if_pos hj, h j hj]
  · rw [if_neg hj, if_neg hj]
theorem mp_blk {b n : Nat} {V W : Nat → Value} (h : ∀ j, j < n → V j = W j) : Own.blk b (mpO n V) = Own.blk b (mpO n W) := by rw [mp_congr h]
theorem mpE_push (n : Nat) (V : Nat → Value) (v : Value) : (mpE n V).push { key := .int .i64 ((n : Int) + 1), val := v, born := n } = mpE (n + 1) (updV V n v) := by
  apply Array.ext_getElem?
  intro j
  have hs : (mpE n V).size = n := by unfold mpE mpL; simp
  rw [Array.getElem?_push, hs, mpE_get, mpE_get]
  by_cases h : j = n
  · subst h; simp [updV]
  · rw [if_neg h]
    by_cases h2 : j < n
    · rw [if_pos h2, if_pos (by omega)]; simp [updV, h]
    · rw [if_neg h2, if_neg (by omega)]
theorem mpE_mod (n : Nat) (V : Nat → Value) (q : Nat) (v : Value) : ((mpE n V).modify q fun e => { e with key := .int .i64 ((q : Int) + 1), val := v }) = mpE n (updV V q v) := by
  apply Array.ext_getElem?
  intro j
  rw [Array.getElem?_modify, mpE_get, mpE_get]
  by_cases h : q = j
  · subst h
    rw [if_pos rfl]
    by_cases h2 : q < n
    · rw [if_pos h2, if_pos h2]; simp [updV]
    · rw [if_neg h2, if_neg h2]; rfl
  · rw [if_neg h]
    by_cases h2 : j < n
    · rw [if_pos h2, if_pos h2]; simp [updV, Ne.symm h]
    · rw [if_neg h2, if_neg h2]
theorem mpE_born (n : Nat) (V : Nat → Value) : ∀ x ∈ (mpE n V).toList, x.born < n ∧ x.val = V x.born ∧ x.key = .int .i64 ((x.born : Int) + 1) := fun x hx => by
  rw [mpE_list] at hx
  obtain ⟨j, hj, rfl⟩ := List.mem_map.1 hx
  have := List.mem_range'.1 hj
  obtain ⟨i, hi, rfl⟩ := this
  exact ⟨by show 0 + 1 * i < n; omega, rfl, rfl⟩
theorem mpE_nodup (n : Nat) (V : Nat → Value) : ((mpE n V).toList.map (·.born)).Nodup := by
  rw [mpE_list]
  unfold mpL
  rw [List.map_map]
  show ((List.range' 0 n).map fun j => j).Nodup
  rw [List.map_id']
  exact List.nodup_range'
section
variable {P : Program} {ops : Array Oper} {Q : Act → World → Prop} {l : List Oper} {a : Act} {w w0 : World} {N : Nat} {L : List (Nat × Value)} {Df : List Deferred} {B : List Own} {d : Tmp} {ty : TypeId} {pos : String} {af : Array Edge} {x y z : Operand} {t kt et : TypeId}
theorem St.reobj {w0 w : World} {B : List Own} {b : Nat} {o o' : Obj} (s : St w0 B w) (i : Nat) (hi : B[i]? = some (.blk b o)) (e : o = o') : St w0 (B.set i (.blk b o')) w := by
  subst e
  have : B.set i (.blk b o) = B := by
    apply List.ext_getElem?
    intro j
    by_cases h : i = j
    · subst h
      rw [List.getElem?_set_self (List.getElem?_eq_some_iff.1 hi).1, hi]
    · rw [List.getElem?_set_ne h]
  rw [this]; exact s
theorem s_mpnew {b n : Nat} {V : Nat → Value} {K : Int} {v : Value} (i : Nat) (h : Sl N a L Df) (s : St w0 B w) (ht : P.underlying t = some (.map kt et)) (hk : P.underlying kt = some (.int .i64))
    (hx : evo L x = some (.map (some b))) (hy : evo L y = some (.int .i64 K)) (hz : evo L z = some v) (hi : B[i]? = some (.blk b (mpO n V))) (hK : K = (n : Int) + 1)
    (k : ∀ w', St w0 (B.set i (.blk b (mpO (n + 1) (updV V n v)))) w' → Lst P ops Q l a w') : Lst P ops Q (⟨none, .mapUpdate t x y z, ty, pos, af, none⟩ :: l) a w := by
  subst hK
  have hb := s.get i hi
  have hf : Instr.findNow (.int .i64) (.int .i64 ((n : Int) + 1)) (mpE n V).toList 0 = some none := by rw [mpE_list, find_mp, if_neg (by omega)]
  have hrun : (Instr.mapUpdate t (.map (some b)) (.int .i64 ((n : Int) + 1)) v).run P w = .ok () (w.putObj b (mpO (n + 1) (updV V n v))) := by
    simp [Instr.mapUpdate, run_underlying ht, MapKept.run_getObj_map hb, MapKept.run_checkKey hk (show MapKept.IsKey (.int .i64) (.int .i64 ((n : Int) + 1)) from rfl), MapKept.run_findKey hk hf, MapKept.run_setObj_map _ hb, Result.andThen, World.putObj, mpE_push, mpO]
  refine s_doesN (R := fun v' w' => w' = w.putObj b (mpO (n + 1) (updV V n v))) ?_ fun w' v' hw => by subst hw; exact k _ (s.putObj i hi _)
  simp [Does, execOp, h.ev hx, h.ev hy, h.ev hz, hrun, Result.andThen]
theorem s_mpset {b n : Nat} {V : Nat → Value} {K : Int} {v : Value} (i q : Nat) (h : Sl N a L Df) (s : St w0 B w) (ht : P.underlying t = some (.map kt et)) (hk : P.underlying kt = some (.int .i64))
    (hx : evo L x = some (.map (some b))) (hy : evo L y = some (.int .i64 K)) (hz : evo L z = some v) (hi : B[i]? = some (.blk b (mpO n V))) (hK : K = (q : Int) + 1) (hq : q < n)
    (k : ∀ w', St w0 (B.set i (.blk b (mpO n (updV V q v)))) w' → Lst P ops Q l a w') : Lst P ops Q (⟨none, .mapUpdate t x y z, ty, pos, af, none⟩ :: l) a w := by
  subst hK
  have hb := s.get i hi
  have hf : Instr.findNow (.int .i64) (.int .i64 ((q : Int) + 1)) (mpE n V).toList 0 = some (some (q, V q)) := by rw [mpE_list, find_mp, if_pos (by omega)]; simp
  have hg : (mpE n V)[q]? = some { key := .int .i64 ((q : Int) + 1), val := V q, born := q } := by rw [mpE_get, if_pos hq]
  have hst : (Instr.keyThatStays (.int .i64 ((q : Int) + 1)) (.int .i64 ((q : Int) + 1))).run P w = .ok (.int .i64 ((q : Int) + 1)) w := by
    unfold Instr.keyThatStays
    have : Instr.sameBits 10000 (.int .i64 ((q : Int) + 1)) (.int .i64 ((q : Int) + 1)) = true := by unfold Instr.sameBits; simp
    rw [this]; rfl
  have hrun : (Instr.mapUpdate t (.map (some b)) (.int .i64 ((q : Int) + 1)) v).run P w = .ok () (w.putObj b (mpO n (updV V q v))) := by
    simp [Instr.mapUpdate, run_underlying ht, MapKept.run_getObj_map hb, MapKept.run_checkKey hk (show MapKept.IsKey (.int .i64) (.int .i64 ((q : Int) + 1)) from rfl), MapKept.run_findKey hk hf, MapKept.run_setObj_map _ hb, Result.andThen, World.putObj, hg, hst, mpE_mod, mpO]
  refine s_doesN (R := fun v' w' => w' = w.putObj b (mpO n (updV V q v))) ?_ fun w' v' hw => by subst hw; exact k _ (s.putObj i hi _)
  simp [Does, execOp, h.ev hx, h.ev hy, h.ev hz, hrun, Result.andThen]
theorem s_mplook {b n : Nat} {V : Nat → Value} {K : Int} {Z X : Value} (i q : Nat) (h : Sl N a L Df) (s : St w0 B w) (ht : P.underlying t = some (.map kt et)) (hk : P.underlying kt = some (.int .i64)) (hZ : (P.info? et).bind (·.zero) = some Z)
    (hx : evo L x = some (.map (some b))) (hy : evo L y = some (.int .i64 K)) (hi : B[i]? = some (.blk b (mpO n V))) (hK : K = (q : Int) + 1) (hX : (q < n ∧ X = V q) ∨ (n ≤ q ∧ X = Z)) (hd : Nat.blt d N = true)
    (k : ∀ a', Sl N a' ((d, X) :: L) Df → Lst P ops Q l a' w) : Lst P ops Q (⟨some d, .lookup t x y false, ty, pos, af, none⟩ :: l) a w := by
  subst hK
  have hb := s.get i hi
  have hzr : (zeroValue et).run P w = .ok Z w := by
    cases hi9 : P.info? et with
    | none => simp [hi9] at hZ
    | some info => simp [hi9] at hZ; simp [zeroValue, typeInfo, hi9, hZ, Result.andThen]
  have hrun : (Instr.lookup t (.map (some b)) (.int .i64 ((q : Int) + 1)) false).run P w = .ok X w := by
    rcases hX with ⟨h1, rfl⟩ | ⟨h1, rfl⟩
    · have hf : Instr.findNow (.int .i64) (.int .i64 ((q : Int) + 1)) (mpE n V).toList 0 = some (some (q, V q)) := by rw [mpE_list, find_mp, if_pos (by omega)]; simp
      simp [Instr.lookup, run_underlying ht, MapKept.run_getObj_map hb, MapKept.run_checkKey hk (show MapKept.IsKey (.int .i64) (.int .i64 ((q : Int) + 1)) from rfl), MapKept.run_findKey hk hf, Result.andThen]
    · have hf : Instr.findNow (.int .i64) (.int .i64 ((q : Int) + 1)) (mpE n V).toList 0 = some none := by rw [mpE_list, find_mp, if_neg (by omega)]
      simp [Instr.lookup, run_underlying ht, MapKept.run_getObj_map hb, MapKept.run_checkKey hk (show MapKept.IsKey (.int .i64) (.int .i64 ((q : Int) + 1)) from rfl), MapKept.run_findKey hk hf, hzr, Result.andThen]
  refine s_does h (R := fun v w' => v = X ∧ w' = w) ?_ hd fun a' w' v ⟨hv, hw⟩ h' => by subst hv; subst hw; exact k _ h'
  simp [Does, execOp, h.ev hx, h.ev hy, hrun, Result.andThen]
theorem s_range {b n : Nat} {V : Nat → Value} (i : Nat) (h : Sl N a L Df) (s : St w0 B w) (ht : P.underlying t = some (.map kt et)) (hx : evo L x = some (.map (some b))) (hi : B[i]? = some (.blk b (mpO n V))) (hd : Nat.blt d N = true)
    (k : ∀ a' w' bi, Sl N a' ((d, .pointer (some ⟨bi, 0, none⟩)) :: L) Df → St w0 (.blk bi (.mapIter (some b) n #[] n) :: B) w' → Lst P ops Q l a' w') : Lst P ops Q (⟨some d, .range t x, ty, pos, af, none⟩ :: l) a w := by
  have hb := s.get i hi
  have hrun := run_range_map w t kt et b _ _ ht hb
  refine s_does h (R := fun v w' => v = .pointer (some ⟨w.heap.size, 0, none⟩) ∧ w' = w.alloc (.mapIter (some b) n #[] n)) ?_ hd fun a' w' v ⟨hv, hw⟩ h' => by subst hv; subst hw; exact k _ _ _ h' (s.new _)
  simp [Does, execOp, h.ev hx, hrun, Result.andThen]
/-- what a step yields -/
def nxV (ok : Bool) (k v : Value) : Array Value := bif ok then #[.bool true, k, v] else #[.bool false]
theorem nxV_0 (ok : Bool) (k v : Value) : (nxV ok k v)[0]? = some (.bool ok) := by cases ok <;> rfl
theorem run_nextG (ty : TypeId) {bi bm since c0 : Nat} {seen : Array Nat} {es : Array MapEntry} {clock : Nat} (hi : w.heap[bi]? = some (.mapIter (some bm) since seen c0)) (hb : w.heap[bm]? = some (.map es clock)) (hold : ∀ x ∈ es.toList, x.born < since) (hsc : since ≤ c0) :
    (Instr.next (.pointer (some ⟨bi, 0, none⟩)) false ty).run P w = .ok (.tuple #[.bool false]) w ∨
    ∃ e ∈ (leftOf es seen).toList, ∃ w1 : World, (w1 = w ∨ w1 = w.drew) ∧ (Instr.next (.pointer (some ⟨bi, 0, none⟩)) false ty).run P w = .ok (.tuple #[.bool true, e.key, e.val]) (w1.putObj bi (.mapIter (some bm) since (seen.push e.born) clock)) := by
  have hgi : ∀ w1 : World, (w1 = w ∨ w1 = w.drew) → w1.heap[bi]? = some (.mapIter (some bm) since seen c0) := by rintro w1 (rfl | rfl) <;> exact hi
  simp only [Instr.next, getObj, Sem.run_bind, Sem.run, hi, hb, Result.andThen, next_test_false seen es since c0 hold hsc, Bool.false_eq_true, if_false]
  unfold leftOf
  have hmem : ∀ x ∈ (Array.filter (fun e => !seen.contains e.born) es).toList, x.born < since := fun x hx => hold x (by simp at hx ⊢; exact hx.1)
  generalize Array.filter (fun e => !seen.contains e.born) es = L at hmem ⊢
  have e1 : L.filter (fun x => decide (x.born < since)) = L := Array.filter_eq_self.2 (fun x hx => by simpa using hmem x (by simpa using hx))
  have e2 : L.filter (fun x => decide (x.born ≥ since)) = #[] := by
    rw [Array.filter_eq_empty_iff]
    intro x hx
    have := hmem x (by simpa using hx)
    simp
    omega
  simp only [e1, e2, Array.append_empty]
  by_cases h0 : L.size = 0
  · left
    have : L = #[] := Array.eq_empty_of_size_eq_zero h0
    subst this
    simp [choose, Sem.run, Question.forced]
  · right
    have hne : L.isEmpty = false := by simp [Array.isEmpty, h0]
    simp only [hne, Bool.false_eq_true, if_false, Array.empty_append, Array.size_map]
    have hch : ∃ (j : Nat) (w1 : World), j < L.size ∧ (w1 = w ∨ w1 = w.drew) ∧ (choose (Question.mapNext L.size)).run P w = .ok j w1 := by
      by_cases hf : L.size ≤ 1
      · exact ⟨0, w, by omega, .inl rfl, by simp [choose, Sem.run, Question.forced, hf]⟩
      · exact ⟨_, w.drew, Nat.mod_lt _ (by omega), .inr rfl, by
          simp only [choose, Sem.run, Question.forced, decide_eq_true_eq, hf, if_false, Question.cut]
          rfl⟩
    obtain ⟨j, w1, hj, hal, hrun⟩ := hch
    refine ⟨L[j], by simp, w1, hal, ?_⟩
    have hset : ∀ o' : Obj, (setObj bi o').run P w1 = .ok () (w1.putObj bi o') := fun o' => by
      simp only [setObj, Sem.run, hgi w1 hal]
      rfl
    simp only [hrun, Array.getElem?_map, Array.getElem?_eq_getElem hj, Option.map_some, Sem.run_bind, hset, Result.andThen]
    rfl
theorem s_next {bi bm n : Nat} {V : Nat → Value} {seen : Array Nat} (i j : Nat) (h : Sl N a L Df) (s : St w0 B w) (hx : evo L x = some (.pointer (some ⟨bi, 0, none⟩))) (hi : B[i]? = some (.blk bi (.mapIter (some bm) n seen n))) (hj : B[j]? = some (.blk bm (mpO n V))) (hd : Nat.blt d N = true)
    (k : ∀ a' w' ok key val seen', (ok = true → ∃ q, q < n ∧ seen' = seen.push q ∧ (leftOf (mpE n V) seen').size < (leftOf (mpE n V) seen).size) → Sl N a' ((d, .tuple (nxV ok key val)) :: L) Df → St w0 (B.set i (.blk bi (.mapIter (some bm) n seen' n))) w' → Lst P ops Q l a' w') :
    Lst P ops Q (⟨some d, .next x false, ty, pos, af, none⟩ :: l) a w := by
  have hgi := s.get i hi
  have hgj := s.get j hj
  rcases run_nextG (P := P) ty hgi hgj (fun x hx => (mpE_born n V x hx).1) (Nat.le_refl n) with hrun | ⟨e, he, w1, hw1, hrun⟩
  · refine s_does h (R := fun v w' => v = .tuple (nxV false undef undef) ∧ w' = w) ?_ hd fun a' w' v ⟨hv, hw⟩ h' => by subst hv; subst hw; exact k _ _ false undef undef seen (fun h9 => by cases h9) h' (s.reobj i hi rfl)
    simp [Does, execOp, h.ev hx, hrun, Result.andThen, nxV]
  · have hm := mpE_born n V e (mem_left he).1
    have s1 : St w0 B w1 := by
      rcases hw1 with rfl | rfl
      · exact s
      · exact s.drew
    refine s_does h (R := fun v w' => v = .tuple (nxV true e.key e.val) ∧ w' = w1.putObj bi (.mapIter (some bm) n (seen.push e.born) n)) ?_ hd fun a' w' v ⟨hv, hw⟩ h' => by
      subst hv; subst hw; exact k _ _ true e.key e.val _ (fun _ => ⟨e.born, hm.1, rfl, left_shrinks _ _ e he⟩) h' (s1.putObj i hi _)
    simp [Does, execOp, h.ev hx, hrun, Result.andThen, nxV]
theorem s_entry {bi bm n q : Nat} {V : Nat → Value} {seen : Array Nat} (i j : Nat) (h : Sl N a L Df) (s : St w0 B w) (hx : evo L x = some (.pointer (some ⟨bi, 0, none⟩))) (hi : B[i]? = some (.blk bi (.mapIter (some bm) n (seen.push q) n))) (hj : B[j]? = some (.blk bm (mpO n V))) (hq : q < n) (hd : Nat.blt d N = true)
    (k : ∀ a', Sl N a' ((d, .tuple #[.int .i64 ((q : Int) + 1), V q]) :: L) Df → Lst P ops Q l a' w) : Lst P ops Q (⟨some d, .entry x, ty, pos, af, none⟩ :: l) a w := by
  have hgi := s.get i hi
  have hgj : w.heap[bm]? = some (.map (mpE n V) n) := s.get j hj
  have hm : ({ key := .int .i64 ((q : Int) + 1), val := V q, born := q } : MapEntry) ∈ (mpE n V).toList := by
    have := mpE_get n V q
    rw [if_pos hq] at this
    exact Array.mem_toList_iff.2 (Array.mem_of_getElem? this)
  have hf : (mpE n V).find? (·.born == q) = some { key := .int .i64 ((q : Int) + 1), val := V q, born := q } := by rw [← Array.find?_toList]; exact find_born _ _ (mpE_nodup n V) hm
  have hrun : (Instr.entry (.pointer (some ⟨bi, 0, none⟩))).run P w = .ok (.tuple #[.int .i64 ((q : Int) + 1), V q]) w := by
    simp only [Instr.entry, getObj, Sem.run_bind, Sem.run, hgi, hgj, Result.andThen, Array.back?_push, bne_self_eq_false, Bool.false_eq_true, if_false, hf]
    rfl
  refine s_does h (R := fun v w' => v = .tuple #[.int .i64 ((q : Int) + 1), V q] ∧ w' = w) ?_ hd fun a' w' v ⟨hv, hw⟩ h' => by subst hv; subst hw; exact k _ h'
  simp [Does, execOp, h.ev hx, hrun, Result.andThen]
end
end Go.Proofs.Ytbgkoikpdhecfaa

namespace Go.Proofs.Ytbgkoikpdhecfaa
open Go.RowKit Go.ChangeShapes Go.WideShapes Go.ChangeAt
theorem rdz_at {w : World} {v : Value} {sz n : Nat} {xs : List Value} (h : RdZ w v sz n xs) (i : Nat) {V : Value} (hV : xs[i]? = some V) : w.cell? (elAddr v i) = some V := by
  rcases h.2 with ⟨_, h2⟩ | ⟨p, c, h1, _, h2⟩
  · have h1 := h.1
    rw [h2, Nat.zero_mul] at h1
    rw [List.eq_nil_of_length_eq_zero h1] at hV; cases hV
  · subst h1
    exact h2 i V (by simpa using hV)
theorem lt_no (l : List Lt) (j : Nat) (hj : j < l.length) : (ltCells l)[j * 4 + 0]? = some (.int .i64 l[j].1) := by
  have h := congrArg (fun a : Array Value => a[0]?) (lt_el l j hj)
  simp only [List.getElem?_toArray] at h
  rw [List.getElem?_take, if_pos (by decide), List.getElem?_drop] at h
  exact h
section
variable {P : Program} {ρ : Operand → Value} {d : Option Tmp} {ty : TypeId} {pos : String} {af : Array Edge} {g : Option (Nat × Bool)} {x y : Operand} {t t' : TypeId} {m n : Int}
theorem quot_bd (m : Int) (h : -9223372036854775808 ≤ m ∧ m ≤ 9223372036854775807) : -2305843009213693952 ≤ m.tdiv 4 ∧ m.tdiv 4 ≤ 2305843009213693951 := by
  by_cases h0 : 0 ≤ m
  · rw [Int.tdiv_eq_ediv_of_nonneg h0]; omega
  · have : m.tdiv 4 = -((-m) / 4) := by rw [← Int.tdiv_eq_ediv_of_nonneg (by omega), Int.neg_tdiv, Int.neg_neg]
    rw [this]; omega
theorem ru_quot4 (hx : ρ x = .int .i64 m) (hy : ρ y = .int .i64 4) (h : -9223372036854775808 ≤ m ∧ m ≤ 9223372036854775807) : RunsTo P ⟨d, .binOp .quo t x y t', ty, pos, af, g⟩ ρ (.int .i64 (m.tdiv 4)) :=
  ru_bin hx hy fun w => by
    have hb := quot_bd m h
    simp [binOp, Op.intDiv, IntWalk.i64_in _ (show -9223372036854775808 ≤ m.tdiv 4 ∧ m.tdiv 4 ≤ 9223372036854775807 by omega)]
end
theorem tm_bd (m : Int) {k : Nat} (h : 0 < k) : -(k : Int) < m.tmod k ∧ m.tmod k < k := ⟨Int.lt_tmod_of_pos m (by omega), Int.tmod_lt_of_pos m (by omega)⟩
theorem tm_ok {m : Int} {k : Nat} (h : 0 < k) (h0 : 0 ≤ m) : ∃ p : Nat, m.tmod k = (p : Int) ∧ p < k := by
  have h1 := Int.tmod_nonneg k h0
  have h2 := Int.tmod_lt_of_pos m (b := (k : Int)) (by omega)
  exact ⟨(m.tmod k).toNat, by omega, by omega⟩
/-! ### letters that were posted, each once, by their numbers -/
def dO (ps : List ByteArray) (j : Nat) : ByteArray := (pt ps j).extract 0 (min (pt ps j).size 100)
theorem dO_size (ps : List ByteArray) (j : Nat) : (dO ps j).size ≤ 100 := by unfold dO; rw [ByteArray.size_extract]; omega
def ltO (ps : List ByteArray) (j : Nat) : Lt := ((j : Int) + 1, (j : Int), 31 - (j : Int), dO ps j)
def mlO (ps : List ByteArray) (n : Nat) (ks : List Nat) : Ml := ⟨ks.map (ltO ps), (n : Int), 0⟩
def okO (n : Nat) (ks : List Nat) : Prop := n ≤ 20 ∧ ks.length ≤ 64 ∧ ∀ j ∈ ks, j < n
theorem mlO_len (ps : List ByteArray) (n : Nat) (ks : List Nat) : (mlO ps n ks).l.length = ks.length := List.length_map ..
theorem okO_range {n : Nat} (h : n ≤ 20) : okO n (List.range n) := ⟨h, by rw [List.length_range]; omega, fun j hj => List.mem_range.1 hj⟩
theorem mlO_get {ps : List ByteArray} {n p : Nat} {ks : List Nat} (hp : p < ks.length) : (mlO ps n ks).l.getD p zLt = ltO ps (ks.getD p 0) := by
  show (ks.map (ltO ps)).getD p zLt = _
  rw [List.getD_eq_getElem?_getD, List.getD_eq_getElem?_getD, List.getElem?_map, List.getElem?_eq_getElem hp]; rfl
theorem okO_get {n p : Nat} {ks : List Nat} (h : okO n ks) (hp : p < ks.length) : ks.getD p 0 < n := by
  rw [List.getD_eq_getElem?_getD, List.getElem?_eq_getElem hp]
  exact h.2.2 _ (List.getElem_mem hp)
theorem rightO {ps : List ByteArray} {n : Nat} {ks : List Nat} (h : okO n ks) : rightL (mlO ps n ks) = true := by
  obtain ⟨h1, h2, h3⟩ := h
  rw [right_iff]
  refine ⟨by rw [mlO_len]; exact h2, ⟨by show 0 ≤ (n : Int); omega, by show (n : Int) ≤ _; omega⟩, ⟨by show (0 : Int) ≤ 0; omega, by show (0 : Int) ≤ _; omega⟩, fun x hx => ?_⟩
  obtain ⟨j, hj, rfl⟩ := List.mem_map.1 hx
  have := h3 j hj
  rw [bad_iff]
  exact ⟨by show 1 ≤ (j : Int) + 1; omega, by show (j : Int) + 1 ≤ (n : Int); omega, ⟨by show 0 ≤ (j : Int); omega, by show (j : Int) < 32; omega⟩, ⟨by show 0 ≤ 31 - (j : Int); omega, by show 31 - (j : Int) < 32; omega⟩, Nat.le_trans (dO_size ps j) (by decide)⟩
theorem postO {ps : List ByteArray} {n : Nat} {ks : List Nat} (h : okO n ks) (hn : n < 20) (hk : ks.length < 64) :
    postM (mlO ps n ks) (n : Int) (31 - (n : Int)) (dO ps n) = mlO ps (n + 1) (ks ++ [n]) ∧ postN (mlO ps n ks) (n : Int) (31 - (n : Int)) (dO ps n) = (n : Int) + 1 ∧ postE (mlO ps n ks) (n : Int) (31 - (n : Int)) (dO ps n) = 0 := by
  have hb : (!rightL (mlO ps n ks) || (!adr (n : Int) || !adr (31 - (n : Int)))) = false := by
    rw [rightO h, (adr_iff _).2 ⟨by omega, by omega⟩, (adr_iff _).2 ⟨by omega, by omega⟩]; rfl
  have h0 := postE_0 (d := dO ps n) hb (by have := dO_size ps n; omega) (by
    rw [decide_eq_false (by rw [mlO_len]; omega), decide_eq_false (by show ¬ (n : Int) = _; omega)]; rfl)
  obtain ⟨h1, h2⟩ := postM_ok h0
  refine ⟨?_, h2, h0⟩
  rw [h1]
  unfold mlO
  rw [List.map_append]
  exact congrArg (fun z => Ml.mk _ z 0) (by omega : (n : Int) + 1 = ((n + 1 : Nat) : Int))
theorem atO {ps : List ByteArray} {n p : Nat} {ks : List Nat} (h : okO n ks) (hp : p < ks.length) :
    atE (mlO ps n ks) (p : Int) = 0 ∧ atL (mlO ps n ks) (p : Int) = ltO ps (ks.getD p 0) ∧ takeM (mlO ps n ks) (p : Int) = mlO ps n (ks.eraseIdx p) ∧ lastM (mlO ps n ks) (p : Int) = mlO ps n (ks.eraseIdx p ++ [ks.getD p 0]) := by
  have hl : (p : Int) < ((mlO ps n ks).l.length : Int) := by rw [mlO_len]; omega
  have h0 := atE_in (rightO (ps := ps) h) (by omega) hl
  have h1 : atL (mlO ps n ks) (p : Int) = ltO ps (ks.getD p 0) := by
    rw [atL_in (rightO h) (by omega) hl, Int.toNat_natCast]; exact mlO_get hp
  have he : (ks.map (ltO ps)).eraseIdx p = (ks.eraseIdx p).map (ltO ps) := by
    rw [List.eraseIdx_eq_take_drop_succ, List.eraseIdx_eq_take_drop_succ, List.map_append, List.map_take, List.map_drop]
  refine ⟨h0, h1, ?_, ?_⟩
  · rw [take_ok h0, Int.toNat_natCast]
    exact congrArg (fun z => Ml.mk z (n : Int) 0) he
  · rw [lastM_ok h0, Int.toNat_natCast, h1]
    refine congrArg (fun z => Ml.mk z (n : Int) 0) ?_
    show (ks.map (ltO ps)).eraseIdx p ++ [_] = (ks.eraseIdx p ++ [_]).map (ltO ps)
    rw [he, List.map_append]; rfl
theorem twO_full {ps : List ByteArray} {n p : Nat} {ks : List Nat} (h : okO n ks) (hp : p < ks.length) (hf : decide (ks.length = 64) = true) : twE (mlO ps n ks) (p : Int) = 8 ∧ twM (mlO ps n ks) (p : Int) = zMl := by
  have h0 := (atO (ps := ps) h hp).1
  have hf' : decide ((mlO ps n ks).l.length = 64) = true := by rw [mlO_len]; exact hf
  exact ⟨twE_full h0 hf', twM_full h0 hf'⟩
theorem twO_ok {ps : List ByteArray} {n p : Nat} {ks : List Nat} (h : okO n ks) (hp : p < ks.length) (hf : decide (ks.length = 64) = false) : twE (mlO ps n ks) (p : Int) = 0 ∧ twM (mlO ps n ks) (p : Int) = mlO ps n (ks ++ [ks.getD p 0]) := by
  obtain ⟨h0, h1, _, _⟩ := atO (ps := ps) h hp
  have hf' : decide ((mlO ps n ks).l.length = 64) = false := by rw [mlO_len]; exact hf
  refine ⟨twE_ok h0 hf', ?_⟩
  rw [twM_ok h0 hf', h1]
  refine congrArg (fun z => Ml.mk z (n : Int) 0) ?_
  show ks.map (ltO ps) ++ [_] = (ks ++ [_]).map (ltO ps)
  rw [List.map_append]; rfl
theorem ok_erase {n : Nat} {ks : List Nat} (h : okO n ks) (p : Nat) : okO n (ks.eraseIdx p) := ⟨h.1, Nat.le_trans (List.length_eraseIdx_le ks p) h.2.1, fun j hj => h.2.2 j (List.mem_of_mem_eraseIdx hj)⟩
theorem ok_snoc {n q : Nat} {ks : List Nat} (h : okO n ks) (hq : q < n) (hl : ks.length < 64) : okO n (ks ++ [q]) := ⟨h.1, by rw [List.length_append]; show _ + 1 ≤ 64; omega, fun j hj => by
  rcases List.mem_append.1 hj with hj | hj
  · exact h.2.2 j hj
  · rw [List.mem_singleton] at hj; subst hj; exact hq⟩
theorem ok_last {n p : Nat} {ks : List Nat} (h : okO n ks) (hp : p < ks.length) : okO n (ks.eraseIdx p ++ [ks.getD p 0]) := by
  refine ok_snoc (ok_erase h p) (okO_get h hp) ?_
  rw [List.length_eraseIdx_of_lt hp]; have := h.2.1; omega
/-! how often each is there -/
def cV (ks : List Nat) (j : Nat) : Value := .int .i64 ((ks.count j : Nat) : Int)
theorem erase_perm {p : Nat} {ks : List Nat} (hp : p < ks.length) : (ks.getD p 0 :: ks.eraseIdx p).Perm ks := by
  rw [List.getD_eq_getElem?_getD, List.getElem?_eq_getElem hp, Option.getD_some, List.eraseIdx_eq_take_drop_succ]
  have h : ks = ks.take p ++ ks[p] :: ks.drop (p + 1) := by rw [← List.drop_eq_getElem_cons hp, List.take_append_drop]
  exact (List.perm_middle.symm).trans (by rw [← h])
theorem count_erase {p : Nat} {ks : List Nat} (hp : p < ks.length) (j : Nat) : ks.count j = (ks.eraseIdx p).count j + if ks.getD p 0 = j then 1 else 0 := by
  rw [← (erase_perm hp).count_eq, List.count_cons]
  simp
theorem count_one {p : Nat} {ks : List Nat} (hp : p < ks.length) : 1 ≤ ks.count (ks.getD p 0) := by rw [count_erase hp, if_pos rfl]; omega
theorem count_le (ks : List Nat) (j : Nat) : ks.count j ≤ ks.length := List.count_le_length
theorem cV_erase {p : Nat} {ks : List Nat} (hp : p < ks.length) (j : Nat) : updV (cV ks) (ks.getD p 0) (.int .i64 (((ks.count (ks.getD p 0) : Nat) : Int) - 1)) j = cV (ks.eraseIdx p) j := by
  have h := count_erase hp j
  unfold updV cV
  by_cases h1 : j = ks.getD p 0
  · subst h1; rw [if_pos rfl] at h ⊢; rw [h]; congr 1; omega
  · rw [if_neg (Ne.symm h1)] at h; rw [if_neg h1, h]; congr 1
theorem cV_snoc (ks : List Nat) (q j : Nat) : updV (cV ks) q (.int .i64 (((ks.count q : Nat) : Int) + 1)) j = cV (ks ++ [q]) j := by
  unfold updV cV
  rw [List.count_append]
  by_cases h1 : j = q
  · subst h1; rw [if_pos rfl]; simp
  · rw [if_neg h1, List.count_cons_of_ne (Ne.symm h1)]; simp
theorem cV_last {p : Nat} {ks : List Nat} (hp : p < ks.length) (j : Nat) : cV ks j = cV (ks.eraseIdx p ++ [ks.getD p 0]) j := by
  unfold cV
  rw [List.count_append, count_erase hp j, List.count_cons, List.count_nil]
  simp
theorem count_rng (n j : Nat) : (List.range n).count j = if j < n then 1 else 0 := by
  induction n with
  | zero => rfl
  | succ n ih =>
    rw [List.range_succ, List.count_append, ih]
    by_cases h1 : j = n
    · subst h1; rw [if_neg (by omega), if_pos (by omega)]; simp
    · rw [List.count_cons_of_ne (Ne.symm h1), List.count_nil]
      by_cases h2 : j < n
      · rw [if_pos h2, if_pos (by omega)]
      · rw [if_neg h2, if_neg (by omega)]
theorem cV_range {n j : Nat} (h : j < n) : Value.int .i64 1 = cV (List.range n) j := by
  unfold cV
  rw [count_rng, if_pos h]; rfl
theorem flat_one {α : Type} (f : α → Value) : ∀ l : List α, l.flatMap (fun x => [f x]) = l.map f
  | [] => rfl
  | x :: l => by rw [List.flatMap_cons, flat_one f l]; rfl
theorem cV_push (n j : Nat) (h : j < n + 1) : updV (cV (List.range n)) n (.int .i64 1) j = cV (List.range (n + 1)) j := by
  rw [← cV_range h]
  unfold updV
  by_cases h1 : j = n
  · rw [if_pos h1]
  · rw [if_neg h1, ← cV_range (by omega)]
theorem sV_push (ps : List ByteArray) (n j : Nat) (_h : j < n + 1) : updV (fun i => .string (dO ps i)) n (.string (dO ps n)) j = .string (dO ps j) := by
  unfold updV
  by_cases h1 : j = n
  · rw [if_pos h1, h1]
  · rw [if_neg h1]
def rV (ks : List Nat) (i j : Nat) : Value := .int .i64 (((ks.count j : Nat) : Int) - (((ks.take i).count j : Nat) : Int))
theorem rV_zero (ks : List Nat) (j : Nat) : cV ks j = rV ks 0 j := by unfold cV rV; simp
theorem rV_next {i : Nat} {ks : List Nat} (hi : i < ks.length) (j : Nat) : updV (rV ks i) (ks.getD i 0) (.int .i64 (((ks.count (ks.getD i 0) : Nat) : Int) - (((ks.take i).count (ks.getD i 0) : Nat) : Int) - 1)) j = rV ks (i + 1) j := by
  unfold updV rV
  rw [List.take_succ_eq_append_getElem hi, List.count_append, List.getD_eq_getElem?_getD, List.getElem?_eq_getElem hi, Option.getD_some]
  by_cases h1 : j = ks[i]
  · subst h1; rw [if_pos rfl]; simp; omega
  · rw [if_neg h1, List.count_cons_of_ne (Ne.symm h1)]; simp
theorem rV_end (ks : List Nat) (j : Nat) : rV ks ks.length j = .int .i64 0 := by unfold rV; rw [List.take_length, Int.sub_self]
theorem take_count (ks : List Nat) (i j : Nat) : (ks.take i).count j ≤ ks.length := Nat.le_trans List.count_le_length (by rw [List.length_take]; omega)
theorem int_map (qs : List Int) (p : Nat) (h : p < qs.length) : (qs.map (Value.int .i64))[p]? = some (.int .i64 (qs.getD p 0)) := by
  rw [List.getElem?_map, List.getD_eq_getElem?_getD, List.getElem?_eq_getElem h]; rfl
theorem int_bd {qs : List Int} (h : ∀ a ∈ qs, -9223372036854775808 ≤ a ∧ a ≤ 9223372036854775807) (p : Nat) (hp : p < qs.length) : -9223372036854775808 ≤ qs.getD p 0 ∧ qs.getD p 0 ≤ 9223372036854775807 := by
  rw [List.getD_eq_getElem?_getD, List.getElem?_eq_getElem hp]
  exact h _ (List.getElem_mem hp)
/-! rows of numbers that come in -/
theorem open_ints {H : Type} {enc : TypeId × Value → H} {P : Program} {W : World} {r : Reach} {b0 : Nat} {t e : TypeId} {v : Value} {d : DataW H} {ps : List MemPlace} (ht : P.underlying t = some (.slice e)) (he : P.underlying e = some (.int .i64)) (hc : P.cellsOf e = 1)
    (hval : Value.okWide P W r b0 t v) (h : DataW.Trod enc P W 0 (fun _ => true) true t v d ps) : ∃ qs : List Int, RdZ W v 1 qs.length (qs.map (Value.int .i64)) ∧ ∀ a ∈ qs, -9223372036854775808 ≤ a ∧ a ≤ 9223372036854775807 := by
  obtain ⟨a, n, c, rfl⟩ := okWide_slice ht hval
  obtain ⟨fuel, hf⟩ := h
  rcases Go.Deep.open_slice ht hf with ⟨hcs, _⟩ | ⟨a', len, cap, m, k, D, Pl, hcs, _, hl, _, hm, _, hel⟩
  · have : Value.slice a n c = .slice none 0 0 := by simpa [Value.cells] using hcs
    exact ⟨[], ⟨rfl, .inl ⟨this, rfl⟩⟩, fun _ h => by cases h⟩
  · have hv : Value.slice a n c = .slice (some a') len cap := by simpa [Value.cells] using hcs
    have hml : len ≤ m := by rw [hm]; split <;> omega
    have each : ∀ i, ∃ x : Int, (-9223372036854775808 ≤ x ∧ x ≤ 9223372036854775807) ∧ (i < len → Has W (a'.add (i * 1)) #[.int .i64 x]) := fun i => by
      by_cases hi : i < len
      · obtain ⟨cs', hc1, hc2⟩ := hel i (by omega)
        obtain ⟨x, hx, _, hw⟩ := DataW.trod_int he hc2
        subst hx
        refine ⟨x, i64_bd hw, fun _ j u hj => ?_⟩
        rw [hc] at hc1
        obtain ⟨_, hlen, hall⟩ := World.cells?_some hc1
        have hj1 : j < 1 := (Array.getElem?_eq_some_iff.1 hj).1
        have := hall j hj1
        rw [this]; simpa using hj
      · exact ⟨0, by decide, fun h9 => absurd h9 hi⟩
    obtain ⟨L, hL⟩ := Classical.axiomOfChoice each
    refine ⟨(List.range len).map L, ⟨by simp, .inr ⟨a', cap, by rw [hv]; simp, by simpa using hl, ?_⟩⟩, fun x hx => ?_⟩
    · have := has_flat (fun x : Int => [Value.int .i64 x]) 1 (by decide) (fun _ => rfl) (w := W) (p := a') ((List.range len).map L) fun i hi => by
        have hi' : i < len := by simpa using hi
        have := (hL i).2 hi'
        simpa using this
      rwa [show ((List.range len).map L).flatMap (fun x : Int => [Value.int .i64 x]) = ((List.range len).map L).map (Value.int .i64) from flat_one _ _] at this
    · obtain ⟨i, _, rfl⟩ := List.mem_map.1 hx
      exact (hL i).1
end Go.Proofs.Ytbgkoikpdhecfaa
namespace Go.Proofs.Ytbgkoikpdhecfaa
theorem lno_O {ps : List ByteArray} {n p : Nat} {ks : List Nat} (hp : p < ks.length) : (ltCells (mlO ps n ks).l)[p * 4 + 0]? = some (.int .i64 (((ks.getD p 0 : Nat) : Int) + 1)) := by
  have hl : p < (mlO ps n ks).l.length := by rw [mlO_len]; exact hp
  rw [lt_no _ p hl]
  have h := mlO_get (ps := ps) (n := n) hp
  rw [List.getD_eq_getElem?_getD, List.getElem?_eq_getElem hl, Option.getD_some] at h
  rw [h]; rfl
theorem el_O {ps : List ByteArray} {n p : Nat} {ks : List Nat} (hp : p < ks.length) : (((ltCells (mlO ps n ks).l).drop (p * 4)).take 4).toArray = ltArr (ltO ps (ks.getD p 0)) := by
  have hl : p < (mlO ps n ks).l.length := by rw [mlO_len]; exact hp
  exact (lt_el _ p hl).trans ((ltD hl).trans (congrArg ltArr (mlO_get hp)))
theorem tm_4 (m : Int) : -4 < m.tmod 4 ∧ m.tmod 4 < 4 := ⟨Int.lt_tmod_of_pos m (by decide), Int.tmod_lt_of_pos m (by decide)⟩
end Go.Proofs.Ytbgkoikpdhecfaa
