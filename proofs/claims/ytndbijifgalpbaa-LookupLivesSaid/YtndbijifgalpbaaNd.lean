/- Nodes: which may be, what hearing, following, dropping and pointing make of them, and that what may be stays such; nodes that come in; no Go in it. -/
import Derived.Test.YtndbijifgalpbaaRg
set_option linter.unusedVariables false
set_option linter.unusedSimpArgs false
set_option linter.unusedSectionVars false
namespace Go.Proofs.Ytndbijifgalpbaa
open Go.RowKit
/-! ### nodes -/
structure Nd where
  me : Mb
  pr : Mb
  sc : List Mb
  fg : List Mb
def zNd : Nd := ⟨zMb, zMb, [], []⟩
def nilV : Value := .slice none 0 0
def ndL (m p : Mb) (vs vf : Value) : List Value := mbL m ++ (mbL p ++ [vs, vf])
def ndArr (m p : Mb) (vs vf : Value) : Array Value := (ndL m p vs vf).toArray
theorem ndL_len (m p : Mb) (vs vf : Value) : (ndL m p vs vf).length = 68 := by simp [ndL, mbL_len]
theorem ndArr_size (m p : Mb) (vs vf : Value) : (ndArr m p vs vf).size = 68 := by simp [ndArr, ndL_len]
theorem ndArr_ones {m p : Mb} {vs vf : Value} (h1 : vs.oneCell' = true) (h2 : vf.oneCell' = true) : ∀ v ∈ (ndArr m p vs vf).toList, v.oneCell' = true := fun v hv => by
  have hv : v ∈ ndL m p vs vf := hv
  unfold ndL at hv
  rcases List.mem_append.1 hv with hv | hv
  · exact mbL_ones m v hv
  · rcases List.mem_append.1 hv with hv | hv
    · exact mbL_ones p v hv
    · simp only [List.mem_cons, List.not_mem_nil, or_false] at hv
      rcases hv with rfl | rfl
      · exact h1
      · exact h2
theorem nd_get (m p : Mb) (vs vf : Value) (i : Nat) : (ndArr m p vs vf)[i]? = (ndL m p vs vf)[i]? := by simp [ndArr]
theorem ndArr_no (m p : Mb) (vs vf : Value) : (ndArr m p vs vf)[0]? = some (.int .i64 m.1) := rfl
theorem ndL_33 (m p : Mb) (vs vf : Value) (i : Nat) : (ndL m p vs vf)[33 + i]? = (mbL p ++ [vs, vf])[i]? := by
  unfold ndL
  rw [List.getElem?_append_right (by rw [mbL_len]; omega), mbL_len, Nat.add_sub_cancel_left]
theorem ndL_66 (m p : Mb) (vs vf : Value) (i : Nat) : (ndL m p vs vf)[66 + i]? = [vs, vf][i]? := by
  rw [show 66 + i = 33 + (33 + i) by omega, ndL_33, List.getElem?_append_right (by rw [mbL_len]; omega), mbL_len, Nat.add_sub_cancel_left]
theorem ndArr_sc (m p : Mb) (vs vf : Value) : (ndArr m p vs vf)[66]? = some vs := by rw [nd_get]; exact ndL_66 m p vs vf 0
theorem ndArr_fg (m p : Mb) (vs vf : Value) : (ndArr m p vs vf)[67]? = some vf := by rw [nd_get]; exact ndL_66 m p vs vf 1
theorem ext_list (l : List Value) (o n : Nat) (D : List Value) (h : (l.drop o).take n = D) : l.toArray.extract o (o + n) = D.toArray := by
  apply Array.ext'
  rw [Array.toList_extract, List.extract_eq_take_drop, Nat.add_sub_cancel_left]
  exact h
theorem ndArr_me (m p : Mb) (vs vf : Value) : (ndArr m p vs vf).extract 0 (0 + 33) = mbArr m := ext_list _ _ _ _ (by
  rw [List.drop_zero]; unfold ndL; rw [List.take_left' (mbL_len m)])
theorem ndL_drop (m p : Mb) (vs vf : Value) (i : Nat) (h : i ≤ 33) : (ndL m p vs vf).drop (33 + i) = (mbL p).drop i ++ [vs, vf] := by
  unfold ndL
  rw [← List.drop_drop, List.drop_left' (mbL_len m), List.drop_append_of_le_length (by rw [mbL_len]; exact h)]
theorem ndArr_pr (m p : Mb) (vs vf : Value) : (ndArr m p vs vf).extract 33 (33 + 33) = mbArr p := ext_list _ _ _ _ (by
  rw [ndL_drop m p vs vf 0 (by omega), List.drop_zero, List.take_left' (mbL_len p)])
theorem mbL_drop (m : Mb) : (mbL m).drop 1 = (idArr m.2).toList := rfl
theorem ndArr_id (m p : Mb) (vs vf : Value) : (ndArr m p vs vf).extract 1 (1 + 32) = idArr m.2 := ext_list _ _ _ (idArr m.2).toList (by
  unfold ndL
  rw [List.drop_append_of_le_length (by rw [mbL_len]; omega), mbL_drop, List.take_left' (by rw [Array.length_toList, idArr_size])])
theorem ndArr_pid (m p : Mb) (vs vf : Value) : (ndArr m p vs vf).extract 34 (34 + 32) = idArr p.2 := ext_list _ _ _ (idArr p.2).toList (by
  rw [show 34 = 33 + 1 from rfl, ndL_drop m p vs vf 1 (by omega), mbL_drop, List.take_left' (by rw [Array.length_toList, idArr_size])])
theorem nd_set66 (m p : Mb) (vs vf v : Value) : (ndArr m p vs vf).setIfInBounds 66 v = ndArr m p v vf := by
  apply Array.ext'
  rw [Array.toList_setIfInBounds]
  show (ndL m p vs vf).set 66 v = ndL m p v vf
  unfold ndL
  rw [List.set_append_right _ _ (by rw [mbL_len]; omega), List.set_append_right _ _ (by rw [mbL_len, mbL_len]; omega), mbL_len, mbL_len]
  rfl
theorem nd_set67 (m p : Mb) (vs vf v : Value) : (ndArr m p vs vf).setIfInBounds 67 v = ndArr m p vs v := by
  apply Array.ext'
  rw [Array.toList_setIfInBounds]
  show (ndL m p vs vf).set 67 v = ndL m p vs v
  unfold ndL
  rw [List.set_append_right _ _ (by rw [mbL_len]; omega), List.set_append_right _ _ (by rw [mbL_len, mbL_len]; omega), mbL_len, mbL_len]
  rfl
theorem nd_setp (m p q : Mb) (vs vf : Value) : ((ndArr m p vs vf).toList.take 33 ++ (mbArr q).toList ++ (ndArr m p vs vf).toList.drop (33 + (mbArr q).size)).toArray = ndArr m q vs vf := by
  rw [mbArr_size]
  show ((ndL m p vs vf).take 33 ++ mbL q ++ (ndL m p vs vf).drop (33 + 33)).toArray = (ndL m q vs vf).toArray
  rw [ndL_drop m p vs vf 33 (Nat.le_refl _), List.drop_of_length_le (by rw [mbL_len]; exact Nat.le_refl _), List.nil_append]
  unfold ndL
  rw [List.take_left' (mbL_len m), List.append_assoc]
theorem rd_one {w : World} {v : Value} {sz n : Nat} {xs : List Value} (h : RdZ w v sz n xs) : v.oneCell' = true := by
  obtain ⟨a, c, rfl⟩ := h.len
  rfl
/-! builds -/
def ndZ : List (List Value) := [.int .i64 0 :: List.replicate 32 (.int .u8 0), .int .i64 0 :: List.replicate 32 (.int .u8 0), [.slice none 0 0], [.slice none 0 0]]
theorem mbL_zero : mbL zMb = Value.int .i64 0 :: List.replicate 32 (Value.int .u8 0) := by
  have := congrArg Array.toList mb_zero
  exact this
theorem nd_zero : ndArr zMb zMb nilV nilV = ndZ.flatten.toArray := by
  unfold ndArr ndL
  rw [mbL_zero]; rfl
section
variable {P : Program} {ρ : Operand → Value} {d : Option Tmp} {ty : TypeId} {pos : String} {af : Array Edge} {g : Option (Nat × Bool)} {x y z : Operand} {t : TypeId}
theorem ru_build_nd0 (S : Stt P t ndZ) : RunsTo P ⟨d, .build t #[], ty, pos, af, g⟩ ρ (.agg (ndArr zMb zMb nilV nilV)) := by
  have := ru_build_st (P := P) (ρ := ρ) (d := d) (ty := ty) (pos := pos) (af := af) (g := g) (parts := #[]) S [] (by simp) (fun i v hm => by simp at hm) (D := ndL zMb zMb nilV nilV) (by unfold ndL; rw [mbL_zero]; rfl)
  exact this
theorem ru_build_nd3 {m p : Mb} {v : Value} (S : Stt P t ndZ) (hv : v.cells.size = 1) (hc : v.cells.toList = [v]) (hx : ρ x = .agg (mbArr m)) (hy : ρ y = .agg (mbArr p)) (hz : ρ z = v) : RunsTo P ⟨d, .build t #[(0, x), (1, y), (2, z)], ty, pos, af, g⟩ ρ (.agg (ndArr m p v nilV)) := by
  have := ru_build_st (P := P) (ρ := ρ) (d := d) (ty := ty) (pos := pos) (af := af) (g := g) (parts := #[(0, x), (1, y), (2, z)]) S [(0, .agg (mbArr m)), (1, .agg (mbArr p)), (2, v)] (by simp [hx, hy, hz]) (fun i u hm => by
    simp only [List.mem_cons, Prod.mk.injEq, List.not_mem_nil, or_false] at hm
    rcases hm with ⟨rfl, rfl⟩ | ⟨rfl, rfl⟩ | ⟨rfl, rfl⟩
    · exact ⟨_, rfl, by show (mbArr m).size = _; rw [mbArr_size]; rfl⟩
    · exact ⟨_, rfl, by show (mbArr p).size = _; rw [mbArr_size]; rfl⟩
    · exact ⟨_, rfl, hv⟩) (D := ndL m p v nilV) (by
      show (mbArr m).toList ++ ((mbArr p).toList ++ (v.cells.toList ++ ([nilV] ++ []))) = _
      rw [hc]; rfl)
  exact this
end
end Go.Proofs.Ytndbijifgalpbaa

namespace Go.Proofs.Ytndbijifgalpbaa
open Go.RowKit
/-! ### which nodes may be -/
def mayB (m : Mb) : Bool := decide (0 ≤ m.1) && decide (m.1 < 16)
theorem may_iff {m : Mb} : mayB m = true ↔ 0 ≤ m.1 ∧ m.1 < 16 := by unfold mayB; rw [Bool.and_eq_true, decide_eq_true_eq, decide_eq_true_eq]
theorem may_0 {m : Mb} (h : decide (0 ≤ m.1) = false) : mayB m = false := by unfold mayB; rw [h]; rfl
theorem may_1 {m : Mb} (h : decide (0 ≤ m.1) = true) : mayB m = decide (m.1 < 16) := by unfold mayB; rw [h]; rfl
def hasB (l : List Mb) (no : Int) : Bool := l.any fun x => decide (x.1 = no)
theorem has_iff {l : List Mb} {no : Int} : hasB l no = true ↔ ∃ x ∈ l, x.1 = no := by
  unfold hasB; rw [List.any_eq_true]
  exact ⟨fun ⟨x, h, e⟩ => ⟨x, h, of_decide_eq_true e⟩, fun ⟨x, h, e⟩ => ⟨x, h, decide_eq_true e⟩⟩
theorem has_not {l : List Mb} {no : Int} : hasB l no = false ↔ ∀ x ∈ l, x.1 ≠ no := by
  rw [← Bool.not_eq_true, has_iff]
  exact ⟨fun h x hx e => h ⟨x, hx, e⟩, fun h ⟨x, hx, e⟩ => h x hx e⟩
def badO (l : List Mb) (no : Int) (d : Nat) : Bool := !mayB (l.getD d zMb) || (decide ((l.getD d zMb).1 = no) || hasB (l.take d) (l.getD d zMb).1)
def othL (l : List Mb) (no : Int) : Bool := (List.range l.length).all fun d => !badO l no d
structure Oth (l : List Mb) (no : Int) : Prop where
  may : ∀ x ∈ l, 0 ≤ x.1 ∧ x.1 < 16
  ne : ∀ x ∈ l, x.1 ≠ no
  nd : l.Pairwise fun a b => a.1 ≠ b.1
theorem badO_not {l : List Mb} {no : Int} {d : Nat} : badO l no d = false ↔ mayB (l.getD d zMb) = true ∧ (l.getD d zMb).1 ≠ no ∧ ∀ x ∈ l.take d, x.1 ≠ (l.getD d zMb).1 := by
  unfold badO
  rw [Bool.or_eq_false_iff, Bool.or_eq_false_iff, Bool.not_eq_false', decide_eq_false_iff_not, has_not]
theorem badO_0 {l : List Mb} {no : Int} {d : Nat} (h : mayB (l.getD d zMb) = false) : badO l no d = true := by unfold badO; rw [h]; rfl
theorem badO_1 {l : List Mb} {no : Int} {d : Nat} (h : decide ((l.getD d zMb).1 = no) = true) : badO l no d = true := by unfold badO; rw [h]; simp
theorem badO_2 {l : List Mb} {no : Int} {d : Nat} (h : mayB (l.getD d zMb) = true) (h1 : decide ((l.getD d zMb).1 = no) = false) : badO l no d = hasB (l.take d) (l.getD d zMb).1 := by unfold badO; rw [h, h1]; rfl
theorem oth_all {l : List Mb} {no : Int} : othL l no = true ↔ ∀ d, d < l.length → badO l no d = false := by
  unfold othL; rw [List.all_eq_true]
  exact ⟨fun h d hd => by have := h d (List.mem_range.2 hd); simpa using this, fun h d hd => by rw [h d (List.mem_range.1 hd)]; rfl⟩
theorem oth_iff {l : List Mb} {no : Int} : othL l no = true ↔ Oth l no := by
  rw [oth_all]
  constructor
  · intro h
    refine ⟨fun x hx => ?_, fun x hx => ?_, ?_⟩
    · obtain ⟨j, hj, rfl⟩ := mb_at hx
      exact may_iff.1 (badO_not.1 (h j hj)).1
    · obtain ⟨j, hj, rfl⟩ := mb_at hx
      exact (badO_not.1 (h j hj)).2.1
    · rw [List.pairwise_iff_getElem]
      intro i j hi hj hij
      have h9 := (badO_not.1 (h j hj)).2.2 l[i] (List.mem_iff_getElem.2 ⟨i, by rw [List.length_take]; omega, List.getElem_take⟩)
      rwa [← mbD hj] at h9
  · rintro ⟨h1, h2, h3⟩ d hd
    refine badO_not.2 ⟨may_iff.2 (h1 _ (mb_mem hd)), h2 _ (mb_mem hd), fun x hx => ?_⟩
    obtain ⟨i, hi, rfl⟩ := List.mem_iff_getElem.1 hx
    rw [List.length_take] at hi
    rw [List.getElem_take, ← mbD hd]
    exact List.pairwise_iff_getElem.1 h3 i d (by omega) hd (by omega)
theorem oth_left {l : List Mb} {no : Int} {d : Nat} (hd : d < l.length) (h : badO l no d = true) : othL l no = false := by
  rw [← Bool.not_eq_true, oth_all]; intro h9; rw [h9 d hd] at h; cases h
theorem oth_done {l : List Mb} {no : Int} {k : Nat} (hk : l.length ≤ k) (h : ∀ j, j < k → badO l no j = false) : othL l no = true := oth_all.2 fun d hd => h d (by omega)
def preB (p : Mb) (no : Int) : Bool := decide (p = nMb) || (mayB p && decide (p.1 ≠ no))
def sucB (l : List Mb) (m : Mb) : Bool := decide (l = [m]) || (decide (1 ≤ l.length) && (decide (l.length ≤ 4) && othL l m.1))
def finB (l : List Mb) (no : Int) : Bool := decide (l.length ≤ 16) && othL l no
def rightN (n : Nd) : Bool := mayB n.me && (preB n.pr n.me.1 && (sucB n.sc n.me && finB n.fg n.me.1))
theorem pre_0 {p : Mb} {no : Int} (h : decide (p = nMb) = true) : preB p no = true := by unfold preB; rw [h]; rfl
theorem pre_1 {p : Mb} {no : Int} (h : decide (p = nMb) = false) (h1 : mayB p = false) : preB p no = false := by unfold preB; rw [h, h1]; rfl
theorem pre_2 {p : Mb} {no : Int} (h : decide (p = nMb) = false) (h1 : mayB p = true) : preB p no = decide (p.1 ≠ no) := by unfold preB; rw [h, h1]; rfl
theorem one_list {l : List Mb} {m : Mb} : l = [m] ↔ l.length = 1 ∧ l.getD 0 zMb = m := by
  constructor
  · rintro rfl; exact ⟨rfl, rfl⟩
  · rintro ⟨h1, h2⟩
    obtain ⟨x, rfl⟩ := List.length_eq_one_iff.1 h1
    have h2 : x = m := h2
    rw [h2]
theorem suc_y {l : List Mb} {m : Mb} (h : decide (l.length = 1) = true) (h1 : decide (l.getD 0 zMb = m) = true) : sucB l m = true := by
  unfold sucB; rw [decide_eq_true (one_list.2 ⟨of_decide_eq_true h, of_decide_eq_true h1⟩)]; rfl
theorem suc_n {l : List Mb} {m : Mb} (h : ¬ (l.length = 1 ∧ l.getD 0 zMb = m)) : sucB l m = (decide (1 ≤ l.length) && (decide (l.length ≤ 4) && othL l m.1)) := by
  unfold sucB; rw [decide_eq_false fun e => h (one_list.1 e)]; rfl
theorem suc_0 {l : List Mb} {m : Mb} (h : ¬ (l.length = 1 ∧ l.getD 0 zMb = m)) (h0 : decide (1 ≤ l.length) = false) : sucB l m = false := by rw [suc_n h, h0]; rfl
theorem suc_1 {l : List Mb} {m : Mb} (h : ¬ (l.length = 1 ∧ l.getD 0 zMb = m)) (h0 : decide (l.length ≤ 4) = false) : sucB l m = false := by rw [suc_n h, h0, Bool.false_and, Bool.and_false]
theorem suc_2 {l : List Mb} {m : Mb} (h : ¬ (l.length = 1 ∧ l.getD 0 zMb = m)) (h0 : decide (1 ≤ l.length) = true) (h1 : decide (l.length ≤ 4) = true) : sucB l m = othL l m.1 := by rw [suc_n h, h0, h1]; rfl
theorem fin_0 {l : List Mb} {no : Int} (h : decide (l.length ≤ 16) = false) : finB l no = false := by unfold finB; rw [h]; rfl
theorem fin_1 {l : List Mb} {no : Int} (h : decide (l.length ≤ 16) = true) : finB l no = othL l no := by unfold finB; rw [h]; rfl
theorem right_0 {n : Nd} (h : mayB n.me = false) : rightN n = false := by unfold rightN; rw [h]; rfl
theorem right_1 {n : Nd} (h : preB n.pr n.me.1 = false) : rightN n = false := by unfold rightN; rw [h, Bool.false_and, Bool.and_false]
theorem right_2 {n : Nd} (h : sucB n.sc n.me = false) : rightN n = false := by unfold rightN; rw [h, Bool.false_and, Bool.and_false, Bool.and_false]
theorem right_3 {n : Nd} (h : mayB n.me = true) (h1 : preB n.pr n.me.1 = true) (h2 : sucB n.sc n.me = true) : rightN n = finB n.fg n.me.1 := by unfold rightN; rw [h, h1, h2]; rfl
structure RN (n : Nd) : Prop where
  me : 0 ≤ n.me.1 ∧ n.me.1 < 16
  pr : n.pr = nMb ∨ ((0 ≤ n.pr.1 ∧ n.pr.1 < 16) ∧ n.pr.1 ≠ n.me.1)
  sc : n.sc = [n.me] ∨ (1 ≤ n.sc.length ∧ n.sc.length ≤ 4 ∧ Oth n.sc n.me.1)
  fg : n.fg.length ≤ 16 ∧ Oth n.fg n.me.1
theorem rn_iff {n : Nd} : rightN n = true ↔ RN n := by
  unfold rightN preB sucB finB
  simp only [Bool.and_eq_true, Bool.or_eq_true, decide_eq_true_eq, may_iff, oth_iff]
  exact ⟨fun ⟨h1, h2, h3, h4⟩ => ⟨h1, h2, h3, h4⟩, fun ⟨h1, h2, h3, h4⟩ => ⟨h1, h2, h3, h4⟩⟩
theorem RN.len {n : Nd} (h : RN n) : 1 ≤ n.sc.length ∧ n.sc.length ≤ 4 := by
  rcases h.sc with h | h
  · rw [h]; exact ⟨Nat.le_refl _, by show 1 ≤ 4; omega⟩
  · exact ⟨h.1, h.2.1⟩
/-! ### what the calls come to -/
def ownsN (n : Nd) (x : Id) : Bool := rightN n && (!decide (n.pr = nMb) && inB x n.pr.2 n.me.2)
theorem owns_0 {n : Nd} {x : Id} (h : rightN n = false) : ownsN n x = false := by unfold ownsN; rw [h]; rfl
theorem owns_1 {n : Nd} {x : Id} (h : decide (n.pr = nMb) = true) : ownsN n x = false := by unfold ownsN; rw [h, Bool.not_true, Bool.false_and, Bool.and_false]
theorem owns_2 {n : Nd} {x : Id} (h : rightN n = true) (h1 : decide (n.pr = nMb) = false) : ownsN n x = inB x n.pr.2 n.me.2 := by unfold ownsN; rw [h, h1]; rfl
def nxI (n : Nd) (x : Id) : Bool := inB x n.me.2 (n.sc.getD 0 zMb).2
def nxC (n : Nd) (x : Id) : Mb := bif decide (csE n.me.2 x (n.fg ++ n.sc) = 0) then csM n.me.2 x (n.fg ++ n.sc) else n.sc.getD 0 zMb
def nxM (n : Nd) (x : Id) : Mb := bif rightN n then (bif nxI n x then n.sc.getD 0 zMb else nxC n x) else zMb
def nxB (n : Nd) (x : Id) : Bool := rightN n && nxI n x
def nxE (n : Nd) : Int := bif rightN n then 0 else 1
theorem nx_no {n : Nd} (x : Id) (h : rightN n = false) : nxM n x = zMb ∧ nxB n x = false ∧ nxE n = 1 := by unfold nxM nxB nxE; rw [h]; exact ⟨rfl, rfl, rfl⟩
theorem nx_first {n : Nd} {x : Id} (h : rightN n = true) (h1 : inB x n.me.2 (n.sc.getD 0 zMb).2 = true) : nxM n x = n.sc.getD 0 zMb ∧ nxB n x = true ∧ nxE n = 0 := by
  have h2 : nxI n x = true := h1
  unfold nxM nxB nxE; rw [h, h2]; exact ⟨rfl, rfl, rfl⟩
theorem nx_cls {n : Nd} {x : Id} (h : rightN n = true) (h1 : inB x n.me.2 (n.sc.getD 0 zMb).2 = false) : nxM n x = nxC n x ∧ nxB n x = false ∧ nxE n = 0 := by
  have h2 : nxI n x = false := h1
  unfold nxM nxB nxE; rw [h, h2]; exact ⟨rfl, rfl, rfl⟩
theorem nxC_y {n : Nd} {x : Id} (h : csE n.me.2 x (n.fg ++ n.sc) = 0) : nxC n x = csM n.me.2 x (n.fg ++ n.sc) := by unfold nxC; rw [decide_eq_true h]; rfl
theorem nxC_n {n : Nd} {x : Id} (h : ¬ csE n.me.2 x (n.fg ++ n.sc) = 0) : nxC n x = n.sc.getD 0 zMb := by unfold nxC; rw [decide_eq_false h]; rfl
/-! following -/
def orA (l : List Mb) (me : Mb) : List Mb := bif decide (l.length = 0) then [me] else l
theorem orA_n {l : List Mb} {me : Mb} (h : l.length = 0) : orA l me = [me] := by unfold orA; rw [decide_eq_true h]; rfl
theorem orA_l {l : List Mb} {me : Mb} (h : ¬ l.length = 0) : orA l me = l := by unfold orA; rw [decide_eq_false h]; rfl
/-! the iterator that stops -/
/-! following, as the reference does -/
/-! dropping, pointing -/
def goneB (nos : List Int) (x : Mb) : Bool := nos.any fun no => decide (no = x.1)
theorem gone_iff {nos : List Int} {x : Mb} : goneB nos x = true ↔ x.1 ∈ nos := by
  unfold goneB; rw [List.any_eq_true]
  exact ⟨fun ⟨k, h, e⟩ => by rw [← of_decide_eq_true e]; exact h, fun h => ⟨x.1, h, decide_eq_true rfl⟩⟩
def dropL (l : List Mb) (nos : List Int) : List Mb := l.filter fun x => !goneB nos x
def drP (n : Nd) (nos : List Int) : Mb := bif goneB nos n.pr then nMb else n.pr
def drE (n : Nd) : Int := bif rightN n then 0 else 1
def drN (n : Nd) (nos : List Int) : Nd := bif rightN n then ⟨n.me, drP n nos, orA (dropL n.sc nos) n.me, dropL n.fg nos⟩ else zNd
theorem dr_no {n : Nd} (nos : List Int) (h : rightN n = false) : drN n nos = zNd ∧ drE n = 1 := by unfold drN drE; rw [h]; exact ⟨rfl, rfl⟩
theorem dr_ok {n : Nd} (nos : List Int) (h : rightN n = true) : drN n nos = ⟨n.me, drP n nos, orA (dropL n.sc nos) n.me, dropL n.fg nos⟩ ∧ drE n = 0 := by unfold drN drE; rw [h]; exact ⟨rfl, rfl⟩
theorem drP_y {n : Nd} {nos : List Int} (h : goneB nos n.pr = true) : drP n nos = nMb := by unfold drP; rw [h]; rfl
theorem drP_n {n : Nd} {nos : List Int} (h : goneB nos n.pr = false) : drP n nos = n.pr := by unfold drP; rw [h]; rfl
/-- the reference's: the own number drops nothing -/
def goneR (nos : List Int) (no : Int) (x : Mb) : Bool := nos.any fun k => decide (k = x.1) && decide (k ≠ no)
def withL (l : List Mb) (nos : List Int) (no : Int) : List Mb := l.filter fun x => !goneR nos no x
theorem goneR_iff {nos : List Int} {no : Int} {x : Mb} : goneR nos no x = true ↔ x.1 ∈ nos ∧ x.1 ≠ no := by
  unfold goneR; rw [List.any_eq_true]
  constructor
  · rintro ⟨k, h, e⟩
    rw [Bool.and_eq_true, decide_eq_true_eq, decide_eq_true_eq] at e
    obtain ⟨rfl, e2⟩ := e
    exact ⟨h, e2⟩
  · rintro ⟨h, e⟩
    exact ⟨x.1, h, by rw [decide_eq_true rfl, decide_eq_true e]; rfl⟩
theorem goneR_ne {nos : List Int} {no : Int} {x : Mb} (h : x.1 ≠ no) : goneR nos no x = goneB nos x := by
  rw [Bool.eq_iff_iff, goneR_iff, gone_iff]; exact and_iff_left h
theorem goneR_own {nos : List Int} {x : Mb} : goneR nos x.1 x = false := by
  rw [← Bool.not_eq_true, goneR_iff]; exact fun h => h.2 rfl
theorem withL_ne {l : List Mb} {nos : List Int} {no : Int} (h : ∀ x ∈ l, x.1 ≠ no) : withL l nos no = dropL l nos := List.filter_congr fun x hx => by rw [goneR_ne (h x hx)]
/-- Succs after the reference's dropping -/
theorem with_sc {n : Nd} (h : RN n) (nos : List Int) : orA (withL n.sc nos n.me.1) n.me = orA (dropL n.sc nos) n.me := by
  rcases h.sc with h9 | h9
  · rw [h9]
    have h1 : withL [n.me] nos n.me.1 = [n.me] := by
      unfold withL; rw [List.filter_cons, goneR_own]; rfl
    rw [h1, orA_l (by show ¬ (1 = 0); omega)]
    cases hb : goneB nos n.me with
    | true => rw [show dropL [n.me] nos = [] by unfold dropL; rw [List.filter_cons, hb]; rfl]; rfl
    | false => rw [show dropL [n.me] nos = [n.me] by unfold dropL; rw [List.filter_cons, hb]; rfl]; rfl
  · rw [withL_ne h9.2.2.ne]
theorem with_fg {n : Nd} (h : RN n) (nos : List Int) : withL n.fg nos n.me.1 = dropL n.fg nos := withL_ne h.fg.2.ne
def rdP (n : Nd) (nos : List Int) : Mb := bif !decide (n.pr = nMb) && decide ((withL [n.pr] nos n.me.1).length = 0) then nMb else n.pr
theorem with_pr {n : Nd} (h : RN n) (nos : List Int) : rdP n nos = drP n nos := by
  unfold rdP drP
  rcases h.pr with h9 | h9
  · rw [h9, decide_eq_true rfl]
    cases goneB nos nMb <;> rfl
  · have hne : decide (n.pr = nMb) = false := decide_eq_false fun e => by rw [e] at h9; exact absurd h9.1.1 (by decide)
    rw [hne]
    have h1 : withL [n.pr] nos n.me.1 = dropL [n.pr] nos := withL_ne fun x hx => by rw [List.mem_singleton.1 hx]; exact h9.2
    rw [h1]
    unfold dropL
    rw [List.filter_cons]
    cases goneB nos n.pr <;> rfl
/-! ### P9.6: what may be stays such -/
theorem Oth.filter {l : List Mb} {no : Int} (h : Oth l no) (p : Mb → Bool) : Oth (l.filter p) no :=
  ⟨fun x hx => h.may x ((List.mem_filter.1 hx).1), fun x hx => h.ne x ((List.mem_filter.1 hx).1), h.nd.filter p⟩
theorem stay_or {n : Nd} {l : List Mb} (h : Oth l n.me.1) (h4 : l.length ≤ 4) : orA l n.me = [n.me] ∨ (1 ≤ (orA l n.me).length ∧ (orA l n.me).length ≤ 4 ∧ Oth (orA l n.me) n.me.1) := by
  by_cases h0 : l.length = 0
  · exact .inl (orA_n h0)
  · rw [orA_l h0]; exact .inr ⟨by omega, h4, h⟩
theorem drop_le (l : List Mb) (nos : List Int) : (dropL l nos).length ≤ l.length := List.length_filter_le _ _
theorem stay_dr {n : Nd} (h : RN n) (nos : List Int) : RN ⟨n.me, drP n nos, orA (dropL n.sc nos) n.me, dropL n.fg nos⟩ := by
  refine ⟨h.me, ?_, ?_, Nat.le_trans (drop_le _ _) h.fg.1, h.fg.2.filter _⟩
  · show drP n nos = nMb ∨ ((0 ≤ (drP n nos).1 ∧ (drP n nos).1 < 16) ∧ (drP n nos).1 ≠ n.me.1)
    cases hb : goneB nos n.pr with
    | true => exact .inl (drP_y hb)
    | false => rw [drP_n hb]; exact h.pr
  · show orA (dropL n.sc nos) n.me = [n.me] ∨ _
    rcases h.sc with h9 | h9
    · rw [h9]
      cases hb : goneB nos n.me with
      | true => rw [show dropL [n.me] nos = [] by unfold dropL; rw [List.filter_cons, hb]; rfl]; exact .inl rfl
      | false => rw [show dropL [n.me] nos = [n.me] by unfold dropL; rw [List.filter_cons, hb]; rfl]; exact .inl rfl
    · exact stay_or (h9.2.2.filter _) (Nat.le_trans (drop_le _ _) h9.2.1)
/-! the four, as they come back -/
end Go.Proofs.Ytndbijifgalpbaa

namespace Go.Proofs.Ytndbijifgalpbaa
open Go.RowKit
/-! ### twice is once -/
/-! ### whom it takes -/
end Go.Proofs.Ytndbijifgalpbaa

namespace Go.Proofs.Ytndbijifgalpbaa
open Go.RowKit
/-! ### what the walks of package node want -/
theorem St.add {w0 w w' : World} {B C : List Own} (s : St w0 B w) (t : St w C w') : St w0 (C ++ B) w' := by
  refine s.join t.ext C (fun p hp => ?_) (fun p hp k hk => t.own p hp k hk) t.nd
  have h := t.has p hp
  cases p with
  | blk b o => exact h
  | sl v e sz n xs => exact Owns.low h s.ext.le
  | grp ks S => exact h
theorem Tab.of_mem {w0 w : World} {B : List Own} (s : St w0 B w) {b : Nat} {C : Array Value} {u : TypeId} (h : Own.blk b (.cells C u) ∈ B) : Tab w b C := ⟨u, (0, 0), s.has _ h⟩
/-- a node, its rows new -/
def OneN (w : World) (M : TypeId) (n : Nd) : Asrt := fun v w' => ∃ vs vf, v = .agg (ndArr n.me n.pr vs vf) ∧ St w [.sl vs M 33 n.sc.length (mbCells n.sc), .sl vf M 33 n.fg.length (mbCells n.fg)] w'
/-- and an error -/
def NodP (w : World) (M : TypeId) (n : Nd) (k : Int) : Asrt := fun v w' => ∃ vs vf, v = .tuple #[.agg (ndArr n.me n.pr vs vf), .int .i64 k] ∧ St w [.sl vs M 33 n.sc.length (mbCells n.sc), .sl vf M 33 n.fg.length (mbCells n.fg)] w'
theorem nod_no {w w' : World} {M : TypeId} {B : List Own} {n : Nd} {k q : Int} (s : St w B w') (hn : n = zNd) (hk : k = q) : NodP w M n k (.tuple #[.agg (ndArr zMb zMb nilV nilV), .int .i64 q]) w' := by
  subst hn; subst hk
  exact ⟨nilV, nilV, rfl, ((s.pick [] (List.nil_sublist _)).nilSl M 33).nilSl M 33⟩
theorem nod_ok {w w' : World} {M : TypeId} {n : Nd} {a p : Mb} {l f : List Mb} {vs vf : Value} {k q : Int} (hn : n = ⟨a, p, l, f⟩) (hk : k = q) (h : St w [.sl vs M 33 l.length (mbCells l), .sl vf M 33 f.length (mbCells f)] w') : NodP w M n k (.tuple #[.agg (ndArr a p vs vf), .int .i64 q]) w' := by
  subst hn; subst hk
  exact ⟨vs, vf, rfl, h⟩
theorem one_ok {w w' : World} {M : TypeId} {n : Nd} {a p : Mb} {l f : List Mb} {vs vf : Value} (hn : n = ⟨a, p, l, f⟩) (h : St w [.sl vs M 33 l.length (mbCells l), .sl vf M 33 f.length (mbCells f)] w') : OneN w M n (.agg (ndArr a p vs vf)) w' := by
  subst hn
  exact ⟨vs, vf, rfl, h⟩
theorem sl_same {w : World} {B : List Own} {w' : World} {v : Value} {M : TypeId} {l r : List Mb} (h : l = r) (s : St w (.sl v M 33 l.length (mbCells l) :: B) w') : St w (.sl v M 33 r.length (mbCells r) :: B) w' := by subst h; exact s
/-! lists put together -/
theorem catM_succ (ls : List (List Mb)) (k : Nat) (h : k < ls.length) : (ls.take (k + 1)).flatten = (ls.take k).flatten ++ ls.getD k [] := by
  rw [List.take_succ_eq_append_getElem h, List.flatten_append, List.getD_eq_getElem?_getD, List.getElem?_eq_getElem h]; simp
theorem catM_len (ls : List (List Mb)) (k : Nat) (h : k < ls.length) : (ls.take k).flatten.length + (ls.getD k []).length = (ls.take (k + 1)).flatten.length := by
  rw [catM_succ ls k h, List.length_append]
theorem catM_cells (ls : List (List Mb)) (k : Nat) (h : k < ls.length) : mbCells (ls.take k).flatten ++ mbCells (ls.getD k []) = mbCells (ls.take (k + 1)).flatten := by
  rw [catM_succ ls k h, mbCells_app]
theorem catM_le (ls : List (List Mb)) (k : Nat) : (ls.take k).flatten.length ≤ ls.flatten.length := by
  have := congrArg (fun x => x.flatten.length) (List.take_append_drop k ls)
  simp only [List.flatten_append, List.length_append] at this
  omega
theorem concatM_fin {w : World} {base : Nat} {e : TypeId} {v : Value} {ls : List (List Mb)} {i : Nat} (hi : ls.length ≤ i) (h : Owns w base e 33 v (ls.take i).flatten.length (mbCells (ls.take i).flatten)) : Owns w base e 33 v ls.flatten.length (mbCells ls.flatten) := by
  rwa [List.take_of_length_le hi] at h
theorem twoM_rd {w : World} {l r : List Mb} {vl vr : Value} (h1 : RdZ w vl 33 l.length (mbCells l)) (h2 : RdZ w vr 33 r.length (mbCells r)) : ∀ k, k < 2 → RdZ w ([vl, vr].getD k undef) 33 (([l, r].getD k []).length) (mbCells ([l, r].getD k []))
  | 0, _ => h1
  | 1, _ => h2
  | k + 2, h => by omega
theorem two_flat (l r : List Mb) : [l, r].flatten = l ++ r := by simp
theorem clone_nilM {w : World} {a : Option Addr} {n c : Nat} {l : List Mb} (ha : a.isNone = true) (h : RdZ w (.slice a n c) 33 l.length (mbCells l)) : l = [] := by
  cases a with
  | some p => cases ha
  | none =>
    rcases h.2 with ⟨h1, h2⟩ | ⟨p, cap, h1, _⟩
    · exact List.eq_nil_of_length_eq_zero h2
    · cases h1
theorem rd_nilM (w : World) : RdZ w nilV 33 ([] : List Mb).length (mbCells []) := ⟨rfl, .inl ⟨rfl, rfl⟩⟩
/-! those that go, in place -/
def stS (q : Mb → Bool) (l : List Mb) (j : Nat) : List Mb := (l.take j).filter q ++ l.drop ((l.take j).filter q).length
def ixS (q : Mb → Bool) (l : List Mb) (j : Nat) : Nat := ((l.take j).filter q).length
theorem ixS_le (q : Mb → Bool) (l : List Mb) (j : Nat) : ixS q l j ≤ j := by
  unfold ixS
  have := List.length_filter_le q (l.take j)
  rw [List.length_take] at this; omega
theorem ixS_len (q : Mb → Bool) (l : List Mb) (j : Nat) : ixS q l j ≤ l.length := by
  unfold ixS
  have := List.length_filter_le q (l.take j)
  rw [List.length_take] at this; omega
theorem stS_len (q : Mb → Bool) (l : List Mb) (j : Nat) : (stS q l j).length = l.length := by
  have := ixS_len q l j
  unfold ixS at this
  unfold stS; rw [List.length_append, List.length_drop]; omega
theorem stS_get {q : Mb → Bool} {l : List Mb} {j : Nat} (hj : j < l.length) : (stS q l j).getD j zMb = l.getD j zMb := by
  have h1 := ixS_le q l j
  unfold ixS at h1
  unfold stS
  rw [List.getD_eq_getElem?_getD, List.getElem?_append_right h1, List.getElem?_drop, List.getD_eq_getElem?_getD]
  congr 2
  omega
theorem stS_no {q : Mb → Bool} {l : List Mb} {j : Nat} (hj : j < l.length) (h : q (l.getD j zMb) = false) : stS q l (j + 1) = stS q l j ∧ ixS q l (j + 1) = ixS q l j := by
  have e : (l.take (j + 1)).filter q = (l.take j).filter q := by rw [takeD hj, List.filter_append, List.filter_cons, h]; simp
  unfold stS ixS; rw [e]; exact ⟨rfl, rfl⟩
theorem stS_yes {q : Mb → Bool} {l : List Mb} {j : Nat} (hj : j < l.length) (h : q (l.getD j zMb) = true) : stS q l (j + 1) = (stS q l j).set (ixS q l j) (l.getD j zMb) ∧ ixS q l (j + 1) = ixS q l j + 1 := by
  have e : (l.take (j + 1)).filter q = (l.take j).filter q ++ [l.getD j zMb] := by rw [takeD hj, List.filter_append, List.filter_cons, h]; simp
  have h1 := ixS_le q l j
  refine ⟨?_, by unfold ixS; rw [e, List.length_append]; rfl⟩
  unfold ixS at h1
  unfold stS ixS
  rw [e, List.length_append]
  show (_ ++ [_]) ++ l.drop (_ + 1) = _
  rw [List.set_append_right _ _ (Nat.le_refl _), Nat.sub_self, List.append_assoc]
  congr 1
  rw [List.drop_eq_getElem_cons (show ((l.take j).filter q).length < l.length by omega), List.set_cons_zero]; rfl
theorem stS_start {q : Mb → Bool} {l : List Mb} {k : Nat} (hk : k < l.length) (h : ∀ i, i < k → q (l.getD i zMb) = true) (hq : q (l.getD k zMb) = false) : stS q l (k + 1) = l ∧ ixS q l (k + 1) = k := by
  have e : (l.take k).filter q = l.take k := by
    rw [List.filter_eq_self]
    intro x hx
    obtain ⟨i, hi, rfl⟩ := List.mem_iff_getElem.1 hx
    rw [List.length_take] at hi
    rw [List.getElem_take, mbD (by omega)]
    exact h i (by omega)
  obtain ⟨e1, e2⟩ := stS_no hk hq
  rw [e1, e2]
  unfold stS ixS
  rw [e, List.length_take, Nat.min_eq_left (by omega), List.take_append_drop]
  exact ⟨rfl, rfl⟩
theorem ixS_end (q : Mb → Bool) (l : List Mb) : ixS q l l.length = (l.filter q).length := by unfold ixS; rw [List.take_length]
theorem stS_end (q : Mb → Bool) (l : List Mb) : stS q l l.length = l.filter q ++ l.drop (l.filter q).length := by unfold stS; rw [List.take_length]
theorem ixS_lt {q : Mb → Bool} {l : List Mb} {k : Nat} (hk : k < l.length) (hq : q (l.getD k zMb) = false) : (l.filter q).length < l.length := by
  rcases Nat.lt_or_ge (l.filter q).length l.length with h | h
  · exact h
  · have h1 := List.length_filter_le q l
    have h2 : l.filter q = l := List.filter_eq_self.2 (by
      have := List.length_filter_eq_length_iff.1 (show (l.filter q).length = l.length by omega)
      exact this)
    have h3 := List.filter_eq_self.1 h2 _ (mb_mem hk)
    rw [hq] at h3; cases h3
theorem stS_cells (q : Mb → Bool) (l : List Mb) : (mbCells (stS q l l.length)).take ((l.filter q).length * 33) = mbCells (l.filter q) := by
  rw [stS_end, mbCells_app, List.take_left' (mbCells_len _)]
theorem drop_none {l : List Mb} {p : Mb → Bool} (h : ∀ x ∈ l, p x = false) : (l.filter fun x => !p x) = l := List.filter_eq_self.2 fun x hx => by rw [h x hx]; rfl
theorem ns_el (nos : List Int) (k : Nat) (h : k < nos.length) : (nos.map (Value.int .i64))[k]? = some (.int .i64 (nos.getD k 0)) := by
  rw [List.getElem?_map, List.getD_eq_getElem?_getD, List.getElem?_eq_getElem h]; rfl
theorem nsD {nos : List Int} {k : Nat} (h : k < nos.length) : nos[k] = nos.getD k 0 := by rw [List.getD_eq_getElem?_getD, List.getElem?_eq_getElem h]; rfl
/-! numbers -/
theorem ix_find {nos : List Int} {no : Int} {r : Int} (h : (r = -1 ∧ ∀ k, k < nos.length → nos.getD k 0 ≠ no) ∨ ∃ k : Nat, k < nos.length ∧ r = (k : Int) ∧ nos.getD k 0 = no) : decide (0 ≤ r) = nos.any fun k => decide (k = no) := by
  rcases h with ⟨rfl, h⟩ | ⟨k, hk, rfl, h⟩
  · rw [decide_eq_false (by decide)]
    symm
    rw [List.any_eq_false]
    intro x hx
    obtain ⟨i, hi, rfl⟩ := List.mem_iff_getElem.1 hx
    have := h i hi
    rw [← nsD hi] at this
    simpa using this
  · rw [decide_eq_true (by omega)]
    symm
    rw [List.any_eq_true]
    exact ⟨nos[k], List.getElem_mem hk, by rw [nsD hk]; simpa using h⟩
/-- the reference's answer for whom it asks -/
def nnArr (m : Mb) (b : Bool) : Array Value := (mbL m ++ [Value.bool b]).toArray
theorem nnArr_size (m : Mb) (b : Bool) : (nnArr m b).size = 34 := by simp [nnArr, mbL_len]
theorem nnArr_ones (m : Mb) (b : Bool) : ∀ v ∈ (nnArr m b).toList, v.oneCell' = true := fun v hv => by
  have hv : v ∈ mbL m ++ [Value.bool b] := hv
  rcases List.mem_append.1 hv with hv | hv
  · exact mbL_ones m v hv
  · rw [List.mem_singleton.1 hv]; rfl
theorem nnArr_m (m : Mb) (b : Bool) : (nnArr m b).extract 0 (0 + 33) = mbArr m := ext_list _ _ _ _ (by rw [List.drop_zero, List.take_left' (mbL_len m)])
theorem nnArr_b (m : Mb) (b : Bool) : (nnArr m b)[33]? = some (.bool b) := by
  unfold nnArr
  rw [List.getElem?_toArray, List.getElem?_append_right (by rw [mbL_len]; omega), mbL_len]; rfl
def nnZ : List (List Value) := [.int .i64 0 :: List.replicate 32 (.int .u8 0), [.bool false]]
theorem nn_zero : nnArr zMb false = nnZ.flatten.toArray := by unfold nnArr; rw [mbL_zero]; rfl
section
variable {P : Program} {ρ : Operand → Value} {d : Option Tmp} {ty : TypeId} {pos : String} {af : Array Edge} {g : Option (Nat × Bool)} {x y z : Operand} {t : TypeId}
theorem ru_build_nn2 {m : Mb} {b : Bool} (S : Stt P t nnZ) (hx : ρ x = .agg (mbArr m)) (hy : ρ y = .bool b) : RunsTo P ⟨d, .build t #[(0, x), (1, y)], ty, pos, af, g⟩ ρ (.agg (nnArr m b)) := by
  have := ru_build_st (P := P) (ρ := ρ) (d := d) (ty := ty) (pos := pos) (af := af) (g := g) (parts := #[(0, x), (1, y)]) S [(0, .agg (mbArr m)), (1, .bool b)] (by simp [hx, hy]) (fun i u hm => by
    simp only [List.mem_cons, Prod.mk.injEq, List.not_mem_nil, or_false] at hm
    rcases hm with ⟨rfl, rfl⟩ | ⟨rfl, rfl⟩
    · exact ⟨_, rfl, by show (mbArr m).size = _; rw [mbArr_size]; rfl⟩
    · exact ⟨_, rfl, rfl⟩) (D := mbL m ++ [Value.bool b]) (by
      show (mbArr m).toList ++ ([Value.bool b] ++ []) = _
      rfl)
  exact this
theorem ru_build_nn1 {m : Mb} (S : Stt P t nnZ) (hx : ρ x = .agg (mbArr m)) : RunsTo P ⟨d, .build t #[(0, x)], ty, pos, af, g⟩ ρ (.agg (nnArr m false)) := by
  have := ru_build_st (P := P) (ρ := ρ) (d := d) (ty := ty) (pos := pos) (af := af) (g := g) (parts := #[(0, x)]) S [(0, .agg (mbArr m))] (by simp [hx]) (fun i u hm => by
    simp only [List.mem_cons, Prod.mk.injEq, List.not_mem_nil, or_false] at hm
    obtain ⟨rfl, rfl⟩ := hm
    exact ⟨_, rfl, by show (mbArr m).size = _; rw [mbArr_size]; rfl⟩) (D := mbL m ++ [Value.bool false]) (by
      show (mbArr m).toList ++ ([Value.bool false] ++ []) = _
      rfl)
  exact this
end
end Go.Proofs.Ytndbijifgalpbaa
namespace Go.Proofs.Ytndbijifgalpbaa
theorem none_0 {m : Mb} (h : decide (m.1 = -1) = false) : decide (m = nMb) = false := decide_eq_false fun e => of_decide_eq_false h (by rw [e]; rfl)
theorem none_1 {m : Mb} (h : decide (m.1 = -1) = true) : decide (m = nMb) = decide (m.2 = 0#256) := by
  have h := of_decide_eq_true h
  rw [decide_eq_decide]
  exact ⟨fun e => by rw [e]; rfl, fun e => Prod.ext h e⟩
end Go.Proofs.Ytndbijifgalpbaa
namespace Go.Proofs.Ytndbijifgalpbaa
open Go.RowKit
theorem owns_3 {n : Nd} {x : Id} (h : (!decide (n.pr = nMb)) = false) : ownsN n x = false := owns_1 (by simpa using h)
theorem owns_4 {n : Nd} {x : Id} (h : rightN n = true) (h1 : (!decide (n.pr = nMb)) = true) : ownsN n x = inB x n.pr.2 n.me.2 := owns_2 h (by simpa using h1)
theorem rd_size {w : World} {v : Value} {sz n : Nat} {xs : List Value} (h : RdZ w v sz n xs) : v.cells.size = 1 := by obtain ⟨a, c, rfl⟩ := h.len; rfl
theorem rd_cells {w : World} {v : Value} {sz n : Nat} {xs : List Value} (h : RdZ w v sz n xs) : v.cells.toList = [v] := by obtain ⟨a, c, rfl⟩ := h.len; rfl
end Go.Proofs.Ytndbijifgalpbaa
namespace Go.Proofs.Ytndbijifgalpbaa
open Go.RowKit
section
variable {P : Program} {a : Act} {w w0 : World} {N : Nat} {L : List (Nat × Value)} {B : List Own} {fn : Func} {T : Asrt}
end
theorem drop_fin (cur : List Value) (z : List Value) (q : Mb → Bool) (l : List Mb) (h1 : cur.take (l.length * 33) = mbCells (stS q l l.length)) (hl : l.length * 33 ≤ cur.length) (hz : z.length = (l.length - (l.filter q).length) * 33) (o : Nat) (ho : o = (l.filter q).length * 33) (m : Nat) (hm : m = (l.length - (l.filter q).length) * 33) :
    (cur.take o ++ z ++ cur.drop (o + m)).length = cur.length ∧ (cur.take o ++ z ++ cur.drop (o + m)).take o = mbCells (l.filter q) := by
  subst ho; subst hm
  have hle := List.length_filter_le q l
  obtain ⟨e1, e2⟩ := clr_fin cur z ((l.filter q).length * 33) ((l.length - (l.filter q).length) * 33) (by rw [← Nat.add_mul]; rw [show (l.filter q).length + (l.length - (l.filter q).length) = l.length by omega]; exact hl) hz
  refine ⟨e1, e2.trans ?_⟩
  have h9 := congrArg (List.take ((l.filter q).length * 33)) h1
  rw [List.take_take, Nat.min_eq_left (Nat.mul_le_mul_right 33 hle), stS_cells] at h9
  exact h9
end Go.Proofs.Ytndbijifgalpbaa
namespace Go.Proofs.Ytndbijifgalpbaa
theorem rd_arr {w : World} {v : Value} {sz n : Nat} {xs : List Value} (h : RdZ w v sz n xs) : v.cells = #[v] := by obtain ⟨a, c, rfl⟩ := h.len; rfl
end Go.Proofs.Ytndbijifgalpbaa
namespace Go.Proofs.Ytndbijifgalpbaa
open Go.RowKit
/-- a field of a value, of one cell -/
structure FldT (P : Program) (t : TypeId) (f off : Nat) (tf : TypeId) : Prop where
  has : ∃ fields fd, P.underlying t = some (.struct fields) ∧ fields[f]? = some fd ∧ fd.type = tf ∧ fd.offset = off
/-! the reference's rights -/
/-! alike -/
/-! the reference's hearing -/
/-! the reference's following -/
/-- the reference's node: the fingers stay -/
def FolR (w : World) (M : TypeId) (a p : Mb) (l : List Mb) (vf : Value) : Asrt := fun v w' => ∃ vo, v = .agg (ndArr a p vo vf) ∧ Owns w' w.heap.size M 33 vo l.length (mbCells l)
/-! the reference's dropping -/
def DrR (w : World) (M : TypeId) (a p : Mb) (s f : List Mb) : Asrt := fun v w' => ∃ vs vf, v = .agg (ndArr a p vs vf) ∧ St w [.sl vs M 33 s.length (mbCells s), .sl vf M 33 f.length (mbCells f)] w'
end Go.Proofs.Ytndbijifgalpbaa
namespace Go.Proofs.Ytndbijifgalpbaa
end Go.Proofs.Ytndbijifgalpbaa
namespace Go.Proofs.Ytndbijifgalpbaa
open Go.RowKit
/-- to be read -/
def FolD (a p : Mb) (l : List Mb) (vf : Value) : Asrt := fun v w => ∃ vo, v = .agg (ndArr a p vo vf) ∧ RdZ w vo 33 l.length (mbCells l)
theorem FolD.mono (a p : Mb) (l : List Mb) (vf : Value) : Mono (FolD a p l vf) := fun _ _ _ ⟨vo, h1, h2⟩ hE => ⟨vo, h1, h2.keep hE⟩
theorem FolR.d {w w' : World} {M : TypeId} {a p : Mb} {l : List Mb} {vf v : Value} (h : FolR w M a p l vf v w') : FolD a p l vf v w' := by obtain ⟨vo, h1, h2⟩ := h; exact ⟨vo, h1, RdZ.of_own h2⟩
def DrD (a p : Mb) (s f : List Mb) : Asrt := fun v w => ∃ vs vf, v = .agg (ndArr a p vs vf) ∧ RdZ w vs 33 s.length (mbCells s) ∧ RdZ w vf 33 f.length (mbCells f)
theorem DrD.mono (a p : Mb) (s f : List Mb) : Mono (DrD a p s f) := fun _ _ _ ⟨vs, vf, h1, h2, h3⟩ hE => ⟨vs, vf, h1, h2.keep hE, h3.keep hE⟩
theorem DrR.d {w w' : World} {M : TypeId} {a p : Mb} {s f : List Mb} {v : Value} (h : DrR w M a p s f v w') : DrD a p s f v w' := by
  obtain ⟨vs, vf, h1, h2⟩ := h
  exact ⟨vs, vf, h1, RdZ.of_own (h2.getSl 0 rfl), RdZ.of_own (h2.getSl 1 rfl)⟩
end Go.Proofs.Ytndbijifgalpbaa
namespace Go.Proofs.Ytndbijifgalpbaa
open Go.RowKit
/-! a node with rows, in a tuple: its rows by themselves -/
def slc : Option Value → Value
  | some (.slice p n k) => .slice p n k
  | _ => nilV
theorem slc_one (o : Option Value) : (slc o).oneCell' = true := by
  unfold slc
  split <;> rfl
def ndO (i : Nat) : Option Value → Value
  | some (Value.agg c) => slc (c[i]?)
  | _ => nilV
def ndS (i : Nat) : Value → Value
  | Value.tuple a => ndO i (a[0]?)
  | _ => nilV
theorem ndO_one (i : Nat) (o : Option Value) : (ndO i o).oneCell' = true := by
  unfold ndO
  split
  · exact slc_one _
  · rfl
theorem ndS_one (i : Nat) (v : Value) : (ndS i v).oneCell' = true := by
  unfold ndS
  split
  · exact ndO_one _ _
  · rfl
theorem ndS_66 {a p : Mb} {vs vf : Value} {k : Int} {w : World} {sz n : Nat} {xs : List Value} (h : RdZ w vs sz n xs) : ndS 66 (.tuple #[.agg (ndArr a p vs vf), .int .i64 k]) = vs := by
  obtain ⟨q, c, rfl⟩ := h.len
  have h1 : (#[Value.agg (ndArr a p (.slice q n c) vf), Value.int .i64 k] : Array Value)[0]? = some (Value.agg (ndArr a p (.slice q n c) vf)) := rfl
  unfold ndS
  simp only [h1, ndO]
  rw [ndArr_sc]; rfl
theorem ndS_67 {a p : Mb} {vs vf : Value} {k : Int} {w : World} {sz n : Nat} {xs : List Value} (h : RdZ w vf sz n xs) : ndS 67 (.tuple #[.agg (ndArr a p vs vf), .int .i64 k]) = vf := by
  obtain ⟨q, c, rfl⟩ := h.len
  have h1 : (#[Value.agg (ndArr a p vs (.slice q n c)), Value.int .i64 k] : Array Value)[0]? = some (Value.agg (ndArr a p vs (.slice q n c))) := rfl
  unfold ndS
  simp only [h1, ndO]
  rw [ndArr_fg]; rfl
/-! several nodes, with their rows -/
abbrev N3 := Nd × Value × Value
def z3 : N3 := (zNd, nilV, nilV)
def n3L (x : N3) : List Value := ndL x.1.me x.1.pr x.2.1 x.2.2
def n3Cells (l : List N3) : List Value := l.flatMap n3L
theorem n3L_len (x : N3) : (n3L x).length = 68 := ndL_len _ _ _ _
theorem n3_el (l : List N3) (j : Nat) (hj : j < l.length) : (((n3Cells l).drop (j * 68)).take 68).toArray = ndArr (l.getD j z3).1.me (l.getD j z3).1.pr (l.getD j z3).2.1 (l.getD j z3).2.2 := by
  unfold n3Cells
  rw [cells_el _ 68 n3L_len l j hj, List.getD_eq_getElem?_getD, List.getElem?_eq_getElem hj]; rfl
def RdN (w : World) (x : N3) : Prop := RdZ w x.2.1 33 x.1.sc.length (mbCells x.1.sc) ∧ RdZ w x.2.2 33 x.1.fg.length (mbCells x.1.fg)
end Go.Proofs.Ytndbijifgalpbaa

namespace Go.Proofs.Ytndbijifgalpbaa
open Go.RowKit Go.ChangeShapes Go.WideShapes Go.ChangeAt
/-! ### nodes and numbers that come in -/
theorem open_mbsL {H : Type} {enc : TypeId × Value → H} {P : Program} {W : World} {ts t tn ti e : TypeId} {f0 f1 : Field} {fuel : Nat} {cs : List Value} {x : DataW H × List MemPlace} (T : IdTy P ti e) (hc : P.cellsOf ti = 32) (hce : P.cellsOf e = 1) (hn : P.underlying tn = some (.int .i64)) (hcn : P.cellsOf tn = 1)
    (hts : P.underlying ts = some (.slice t)) (ht : P.underlying t = some (.struct #[f0, f1])) (h0 : f0.type = tn) (h1 : f1.type = ti) (o0 : f0.offset = 0) (o1 : f1.offset = 1) (hct : P.cellsOf t = 33)
    (hf : DataW.trod enc P W 0 (fun _ => true) true fuel ts cs = some x) : ∃ (v : Value) (ls : List Mb), cs = [v] ∧ RdZ W v 33 ls.length (mbCells ls) := by
  rcases Go.Deep.open_slice hts hf with ⟨hcs, _⟩ | ⟨a', len, cap, m, k, D, Pl, hcs, _, hl, _, hm, _, hel⟩
  · exact ⟨_, [], hcs, rfl, .inl ⟨rfl, rfl⟩⟩
  · have hml : len ≤ m := by rw [hm]; split <;> omega
    have each : ∀ i, ∃ l : Mb, i < len → Has W (a'.add (i * 33)) (mbArr l) := fun i => by
      by_cases hi : i < len
      · obtain ⟨cs', hc1, hc2⟩ := hel i (by omega)
        obtain ⟨l, rfl⟩ := open_mbL T hc hce hn hcn ht h0 h1 o0 o1 hct hc2
        refine ⟨l, fun _ j u hj => ?_⟩
        rw [hct] at hc1
        obtain ⟨_, hlen, hall⟩ := World.cells?_some hc1
        have hj33 : j < 33 := by have := (Array.getElem?_eq_some_iff.1 hj).1; rw [mbArr_size] at this; exact this
        have := hall j hj33
        rw [this, Array.getElem?_toList]; exact hj
      · exact ⟨zMb, fun h9 => absurd h9 hi⟩
    obtain ⟨L, hL⟩ := Classical.axiomOfChoice each
    refine ⟨_, (List.range len).map L, hcs, ?_, .inr ⟨a', cap, by simp, by simpa using hl, ?_⟩⟩
    · rw [mbCells_len]
    · refine has_flat _ 33 (by decide) mbL_len _ fun i hi => ?_
      have hi' : i < len := by simpa using hi
      have h9 : ((List.range len).map L)[i] = L i := by simp
      rw [h9]
      exact hL i hi'
theorem take_nd {cs a b c d : List Value} (hl : cs.length = 68) (h0 : (cs.drop 0).take 33 = a) (h1 : (cs.drop 33).take 33 = b) (h2 : (cs.drop 66).take 1 = c) (h3 : (cs.drop 67).take 1 = d) : cs = a ++ (b ++ (c ++ d)) := by
  subst h0; subst h1; subst h2; subst h3
  have e3 : (cs.drop 67).take 1 = cs.drop 67 := List.take_of_length_le (by rw [List.length_drop]; omega)
  have e2 : (cs.drop 66).take 1 ++ cs.drop 67 = cs.drop 66 := by
    have := List.take_append_drop 1 (cs.drop 66)
    rwa [List.drop_drop] at this
  have e1 : (cs.drop 33).take 33 ++ cs.drop 66 = cs.drop 33 := by
    have := List.take_append_drop 33 (cs.drop 33)
    rwa [List.drop_drop] at this
  rw [e3, e2, e1, List.drop_zero, List.take_append_drop]
theorem open_node {H : Type} {enc : TypeId × Value → H} {P : Program} {W : World} {r : Reach} {b0 : Nat} {tm ts t tn ti e : TypeId} {g0 g1 g2 g3 f0 f1 : Field} {v : Value} {d : DataW H} {ps : List MemPlace} (T : IdTy P ti e) (hc : P.cellsOf ti = 32) (hce : P.cellsOf e = 1) (hn : P.underlying tn = some (.int .i64)) (hcn : P.cellsOf tn = 1)
    (hcs : P.cellsOf ts = 1) (hts : P.underlying ts = some (.slice t)) (ht : P.underlying t = some (.struct #[f0, f1])) (h0 : f0.type = tn) (h1 : f1.type = ti) (o0 : f0.offset = 0) (o1 : f1.offset = 1) (hct : P.cellsOf t = 33)
    (htm : P.underlying tm = some (.struct #[g0, g1, g2, g3])) (ht0 : g0.type = t) (ht1 : g1.type = t) (ht2 : g2.type = ts) (ht3 : g3.type = ts) (ho0 : g0.offset = 0) (ho1 : g1.offset = 33) (ho2 : g2.offset = 66) (ho3 : g3.offset = 67) (hctm : P.cellsOf tm = 68)
    (hval : Value.okWide P W r b0 tm v) (h : DataW.Trod enc P W 0 (fun _ => true) true tm v d ps) : ∃ (n : Nd) (vs vf : Value), v = .agg (ndArr n.me n.pr vs vf) ∧ RdZ W vs 33 n.sc.length (mbCells n.sc) ∧ RdZ W vf 33 n.fg.length (mbCells n.fg) := by
  have hv : ∃ cs, v = .agg cs := by
    unfold Value.okWide at hval
    simp only [htm] at hval
    obtain ⟨cs, h9, _⟩ := hval
    exact ⟨cs, h9⟩
  obtain ⟨cs, rfl⟩ := hv
  obtain ⟨fuel, hf⟩ := h
  obtain ⟨xs, n, hcells, _, hl, hxl, hel⟩ := DataW.trod_struct htm hf
  have hcl : cs.toList.length = 68 := by rw [← hctm]; simpa [Value.cells] using hl
  have hx4 : xs.length = 4 := by simpa using hxl
  have e0 := hel 0 g0 rfl
  have e1 := hel 1 g1 rfl
  have e2 := hel 2 g2 rfl
  have e3 := hel 3 g3 rfl
  rw [ht0, ho0, hct, List.getElem?_eq_getElem (by omega)] at e0
  rw [ht1, ho1, hct, List.getElem?_eq_getElem (by omega)] at e1
  rw [ht2, ho2, hcs, List.getElem?_eq_getElem (by omega)] at e2
  rw [ht3, ho3, hcs, List.getElem?_eq_getElem (by omega)] at e3
  obtain ⟨a, ha⟩ := open_mbL T hc hce hn hcn ht h0 h1 o0 o1 hct e0
  obtain ⟨b, hb⟩ := open_mbL T hc hce hn hcn ht h0 h1 o0 o1 hct e1
  obtain ⟨u, ls, hu, hls⟩ := open_mbsL T hc hce hn hcn hts ht h0 h1 o0 o1 hct e2
  obtain ⟨u2, ls2, hu2, hls2⟩ := open_mbsL T hc hce hn hcn hts ht h0 h1 o0 o1 hct e3
  refine ⟨⟨a, b, ls, ls2⟩, u, u2, ?_, hls, hls2⟩
  simp only [Value.cells] at ha hb hu hu2
  have key : cs.toList = (ndArr a b u u2).toList := take_nd hcl ha hb hu hu2
  rw [Array.toList_inj.1 key]
theorem flat_int {α : Type} (f : α → Value) : ∀ l : List α, l.flatMap (fun x => [f x]) = l.map f
  | [] => rfl
  | x :: l => by rw [List.flatMap_cons, flat_int f l]; rfl
theorem open_nos {H : Type} {enc : TypeId × Value → H} {P : Program} {W : World} {r : Reach} {b0 : Nat} {t e : TypeId} {v : Value} {d : DataW H} {ps : List MemPlace} (ht : P.underlying t = some (.slice e)) (he : P.underlying e = some (.int .i64)) (hc : P.cellsOf e = 1)
    (hval : Value.okWide P W r b0 t v) (h : DataW.Trod enc P W 0 (fun _ => true) true t v d ps) : ∃ qs : List Int, RdZ W v 1 qs.length (qs.map (Value.int .i64)) := by
  obtain ⟨a, n, c, rfl⟩ := okWide_slice ht hval
  obtain ⟨fuel, hf⟩ := h
  rcases Go.Deep.open_slice ht hf with ⟨hcs, _⟩ | ⟨a', len, cap, m, k, D, Pl, hcs, _, hl, _, hm, _, hel⟩
  · have : Value.slice a n c = .slice none 0 0 := by simpa [Value.cells] using hcs
    exact ⟨[], rfl, .inl ⟨this, rfl⟩⟩
  · have hv : Value.slice a n c = .slice (some a') len cap := by simpa [Value.cells] using hcs
    have hml : len ≤ m := by rw [hm]; split <;> omega
    have each : ∀ i, ∃ x : Int, i < len → Has W (a'.add (i * 1)) #[.int .i64 x] := fun i => by
      by_cases hi : i < len
      · obtain ⟨cs', hc1, hc2⟩ := hel i (by omega)
        obtain ⟨x, hx, _⟩ := DataW.trod_int he hc2
        subst hx
        refine ⟨x, fun _ j u hj => ?_⟩
        rw [hc] at hc1
        obtain ⟨_, hlen, hall⟩ := World.cells?_some hc1
        have hj1 : j < 1 := (Array.getElem?_eq_some_iff.1 hj).1
        have := hall j hj1
        rw [this]; simpa using hj
      · exact ⟨0, fun h9 => absurd h9 hi⟩
    obtain ⟨L, hL⟩ := Classical.axiomOfChoice each
    refine ⟨(List.range len).map L, by simp, .inr ⟨a', cap, by rw [hv]; simp, by simpa using hl, ?_⟩⟩
    have := has_flat (fun x : Int => [Value.int .i64 x]) 1 (by decide) (fun _ => rfl) (w := W) (p := a') ((List.range len).map L) fun i hi => by
      have hi' : i < len := by simpa using hi
      have := hL i hi'
      simpa using this
    rwa [flat_int] at this
end Go.Proofs.Ytndbijifgalpbaa
