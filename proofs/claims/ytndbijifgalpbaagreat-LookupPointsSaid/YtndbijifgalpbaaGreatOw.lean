/- Own overlays, changed in place: own rows that are sorted; ranges over functions within a round; regions that draw their order, in which what was there ahead may be read; sets; what the package asks of overlays and the reference asks too; no Go in it. -/
import Derived.Shelf.SlSortCmp.WholeK
import Derived.Test.YtndbijifgalpbaaGreatOv
set_option linter.unusedVariables false
set_option linter.unusedSimpArgs false
set_option linter.unusedSectionVars false
namespace Go.Proofs.YtndbijifgalpbaaGreat
open Go.RowKit Go.Sort
/-! ### an own slice of members, sorted in place: the library's contract in the walks' words -/
theorem flat_cells (d : Array Mb) : (flatK mbL 33 d).toList = mbCells d.toList := by
  apply List.ext_getElem?
  intro t
  by_cases ht : t < d.size * 33
  · have hj : t / 33 < d.size := by omega
    have hr : t % 33 < 33 := Nat.mod_lt _ (by decide)
    have h1 : (mbCells d.toList)[t]? = (mbL d[t / 33])[t % 33]? := by
      have h2 : t = t / 33 * 33 + t % 33 := by omega
      conv => lhs; rw [h2]
      rw [← List.getElem?_drop, ← List.getElem?_take_of_lt hr]
      unfold mbCells
      rw [cells_el _ 33 mbL_len d.toList (t / 33) (by simpa using hj)]
      simp
    rw [h1]
    have h3 := get_flatK mbL 33 d t ht
    have h4 : t < (flatK mbL 33 d).size := by rw [size_flatK]; exact ht
    rw [getElem!_pos _ t h4, getElem!_pos d _ hj] at h3
    rw [Array.getElem?_toList, Array.getElem?_eq_getElem h4, h3]
    have h5 : t % 33 < (mbL d[t / 33]).length := by rw [mbL_len]; exact hr
    rw [getElem!_pos (mbL d[t / 33]) (t % 33) h5, List.getElem?_eq_getElem h5]
  · rw [List.getElem?_eq_none (by rw [Array.length_toList, size_flatK]; omega), List.getElem?_eq_none (by rw [mbCells_len, Array.length_toList]; omega)]
theorem put_size (F c : Array Value) : (putCells id 0 F c).size = c.size := by simp [putCells]
theorem put_take (F c : Array Value) (h : F.size ≤ c.size) : (putCells id 0 F c).toList.take F.size = F.toList := by
  apply List.ext_getElem?
  intro t
  by_cases ht : t < F.size
  · rw [List.getElem?_take_of_lt ht, Array.getElem?_toList, Array.getElem?_toList]
    unfold putCells
    rw [Array.getElem?_mapIdx, Array.getElem?_eq_getElem (by omega), Option.map_some, if_pos ⟨Nat.zero_le _, by omega⟩, Array.getElem?_eq_getElem ht, Nat.sub_zero, getElem!_pos F t ht]
    rfl
  · rw [List.getElem?_eq_none (by rw [List.length_take]; omega), List.getElem?_eq_none (by rw [Array.length_toList]; omega)]
theorem sortW_heap (w : World) (g m : Nat) (d : Array Mb) (os : Array Obj) : (sortWorldK mbL 33 w g 0 m d os).heap = w.heap.modify g (onCells (putCells id 0 (flatK mbL 33 d))) ++ os := rfl
theorem sortW_other (w : World) (g m : Nat) (d : Array Mb) (os : Array Obj) {k : Nat} (hk : k < w.heap.size) (hne : k ≠ g) : (sortWorldK mbL 33 w g 0 m d os).heap[k]? = w.heap[k]? := by
  rw [sortW_heap, Array.getElem?_append_left (by rw [Array.size_modify]; exact hk), Array.getElem?_modify, if_neg (fun e => hne e.symm)]
theorem sortW_own (w : World) (g m : Nat) (d : Array Mb) (os : Array Obj) {cur : Array Value} {e : TypeId} {fz : Nat × Nat} (hg : w.heap[g]? = some (.cells cur e fz)) : (sortWorldK mbL 33 w g 0 m d os).heap[g]? = some (.cells (putCells id 0 (flatK mbL 33 d) cur) e fz) := by
  have hk : g < w.heap.size := (Array.getElem?_eq_some_iff.1 hg).1
  rw [sortW_heap, Array.getElem?_append_left (by rw [Array.size_modify]; exact hk), Array.getElem?_modify, if_pos rfl, hg]
  rfl
theorem sort_st {w0 w : World} {B : List Own} {v : Value} {e : TypeId} {n : Nat} {l : List Mb} (s : St w0 (.sl v e 33 n (mbCells l) :: B) w) (hl : l.length = n) (hn : 1 ≤ n) :
    ∃ g cap, v = .slice (some ⟨g, 0, none⟩) n cap ∧ g < w.heap.size ∧ w0.heap.size ≤ g ∧ HoldsK mbL 33 w g 0 l.toArray ∧
      ∀ (m : Nat) (os : Array Obj) (d : Array Mb), d.size = n → St w0 (.sl v e 33 n (mbCells d.toList) :: B) (sortWorldK mbL 33 w g 0 m d os) := by
  obtain ⟨g, cap, cur, fz, rfl, hfz, hnc, hcm, hcs, htk, s⟩ := s.open_sl hn
  have hg := s.get 0 rfl
  have hlt : g < w.heap.size := (Array.getElem?_eq_some_iff.1 hg).1
  have hroom : n * 33 ≤ cur.size := by rw [hcs]; exact Nat.mul_le_mul_right _ hnc
  refine ⟨g, cap, rfl, hlt, s.own _ List.mem_cons_self g (Own.at_blk.2 rfl), fun j hj => ?_, fun m os d hd => ?_⟩
  · have hjs : j < n * 33 := by rw [size_flatK] at hj; simpa [hl] using hj
    constructor
    · rw [Nat.zero_add, cell_of_row w g j cur e fz hg]
      have h1 : (flatK mbL 33 l.toArray).toList = cur.toList.take (n * 33) := by rw [flat_cells, htk]
      have h2 : (flatK mbL 33 l.toArray).toList[j]? = cur.toList[j]? := by rw [h1, List.getElem?_take_of_lt hjs]
      rw [Array.getElem?_toList, Array.getElem?_toList, Array.getElem?_eq_getElem hj] at h2
      rw [getElem!_pos _ j hj]
      exact h2.symm
    · simp only [World.frozen?, hg, Nat.zero_add]
      obtain ⟨lo, hi⟩ := fz
      rcases hfz with h9 | h9
      · change hi = 0 at h9; subst h9; simp
      · change cur.size ≤ lo at h9
        have : ¬ lo ≤ j := by omega
        simp [this]
  · have hF : (flatK mbL 33 d).size = n * 33 := by rw [size_flatK, hd]
    have s2 := s.upd 0 (w' := sortWorldK mbL 33 w g 0 m d os) (p' := .blk g (.cells (putCells id 0 (flatK mbL 33 d) cur) e fz)) rfl rfl rfl rfl (by rw [sortW_heap]; simp) (sortW_own w g m d os hg) (fun k hk => .inl hk) (fun k hk hne => sortW_other w g m d os hk (fun e9 => hne (Own.at_blk.2 e9))) (Nat.le_add_right _ _)
    refine s2.close_sl (by rw [put_size]; exact hfz) hnc hcm (by rw [put_size]; exact hcs) ?_ ?_
    · rw [← hF, put_take _ _ (by omega), flat_cells]
    · rw [mbCells_len, Array.length_toList, hd]
/-- what is as it was but for what is new, is the world grown -/
theorem grow_of {W w' : World} (h : Ext W w') : ∃ q os', w' = grow (W.drewN q) os' := by
  refine ⟨w'.drawn - W.drawn, w'.heap.extract W.heap.size w'.heap.size, ?_⟩
  have hh : w'.heap = W.heap ++ w'.heap.extract W.heap.size w'.heap.size := by
    apply Array.ext_getElem?
    intro k
    rw [Array.getElem?_append]
    by_cases hk : k < W.heap.size
    · rw [if_pos hk]; exact h.block k hk
    · rw [if_neg hk, Array.getElem?_extract]
      by_cases h2 : k < w'.heap.size
      · rw [if_pos (by omega)]; congr 1; omega
      · rw [if_neg (by omega), Array.getElem?_eq_none (by omega)]
  have h1 := h.os
  have h2 := h.tape
  have h3 := h.output
  have h4 := h.drawn
  obtain ⟨hp, tp, dr, o, ou⟩ := w'
  obtain ⟨hp2, tp2, dr2, o2, ou2⟩ := W
  simp only at h1 h2 h3 h4 hh
  subst h1; subst h2; subst h3
  have h5 : dr2 + (dr - dr2) = dr := by omega
  simp only [grow, World.drewN, h5]
  rw [← hh]
theorem ord_lt (x9 : Id) (a b : Mb) : ltOf (fun x y : Mb => cmpI (x.2 - x9) (y.2 - x9)) a b = decide (fd x9 a.2 < fd x9 b.2) := cmp_neg _ _ _
theorem ord_swo (x9 : Id) : SWO (ltOf fun x y : Mb => cmpI (x.2 - x9) (y.2 - x9)) where
  irrefl x := by rw [ord_lt]; simp
  trans x y z h1 h2 := by rw [ord_lt] at *; simp at *; omega
  ntrans x y z h1 h2 := by rw [ord_lt] at *; simp at *; omega
theorem sorted_rnd {l : List Mb} (h : Rg l) (x9 : Id) {d : Array Mb} (hp : PermIn 0 l.toArray.size l.toArray d) (hs : SortedIn (ltOf fun x y : Mb => cmpI (x.2 - x9) (y.2 - x9)) 0 l.toArray.size d) : d.toList = rndL x9 l := by
  obtain ⟨hsz, _, hpm⟩ := hp
  have e1 : d.extract 0 l.toArray.size = d := by rw [← hsz]; exact Array.extract_size
  rw [e1, Array.extract_size] at hpm
  refine rnd_is h x9 hpm ?_
  rw [List.pairwise_iff_getElem]
  intro i j hi hj hij
  have hi' : i < d.size := by simpa using hi
  have hj' : j < d.size := by simpa using hj
  have := hs i j (Nat.zero_le _) hij (by omega)
  rw [getElem!_pos d j hj', getElem!_pos d i hi', ord_lt] at this
  simpa using this
end Go.Proofs.YtndbijifgalpbaaGreat

namespace Go.Proofs.YtndbijifgalpbaaGreat
open Go.RowKit
/-! ### regions that draw their order, by resources: what was there ahead may be read till it is used up -/
def okRdF (ops : List Oper) (cls cons rd : List (List Nat)) (q : Nat) : Bool := (List.range ops.length).all fun i => (rd.getD i []).all fun j =>
  decide (j < q) && (!(cons.getD i []).contains (ops.length + j) && (List.range ops.length).all fun k => !(cons.getD k []).contains (ops.length + j) || (cls.getD k []).contains i)
theorem okRd_at {ops : List Oper} {cls cons rd : List (List Nat)} {q : Nat} (h : okRdF ops cls cons rd q = true) {i : Nat} (hi : i < ops.length) {j : Nat} (hj : j ∈ rd.getD i []) : j < q ∧ ops.length + j ∉ cons.getD i [] ∧ ∀ k, k < ops.length → ops.length + j ∈ cons.getD k [] → i ∈ cls.getD k [] := by
  have h1 := List.all_eq_true.1 (List.all_eq_true.1 h i (List.mem_range.2 hi)) j hj
  rw [Bool.and_eq_true, Bool.and_eq_true] at h1
  refine ⟨of_decide_eq_true h1.1, not_has.1 h1.2.1, fun k hk hm => ?_⟩
  have h2 := List.all_eq_true.1 h1.2.2 k (List.mem_range.2 hk)
  rw [Bool.or_eq_true] at h2
  rcases h2 with h2 | h2
  · exact absurd hm (not_has.1 h2)
  · exact List.contains_iff_mem.1 h2
section
variable {P : Program} {ro : Option Nat} {ops : List Oper} {cls cons : List (List Nat)} {a0 : Act} {Q : Exit → Act → World → Prop} {w0 w1 : World}
/-- one operation's duty -/
def ObQ (P : Program) (ops : List Oper) (cls cons rd : List (List Nat)) (Rs : List Res) (I0 : List (List Own)) (Fs : List Fct) (Bs : List Own) (w0 : World) (a0 : Act) (i : Nat) (o : Oper) : Prop :=
  ∀ (a : Act) (w : World) (val : Nat → Value) (E : List Own), a.tmps.size = a0.tmps.size → a.defers = a0.defers →
    (∀ t ∈ o.looksAt ops.toArray, slotC ops (cls.getD i []) a0 a val t) →
    (∀ j ∈ cls.getD i [], fctC cls Fs val j) → (∀ j ∈ rd.getD i [], ∀ p ∈ I0.getD j [], p ∈ E) → St w0 ((cons.getD i []).flatMap (resC ops cls Rs I0 val) ++ (Bs ++ E)) w →
    Lst P ops.toArray (fun a' w' => ∃ v, (∀ d, o.dst = some d → a'.tmps.getD d undef = v) ∧ fctC cls Fs (upv val i v) i ∧ St w0 (resC ops cls Rs I0 (upv val i v) i ++ (Bs ++ E)) w') [o] a w
theorem wp_regionF {q rid m : Nat} {rd : List (List Nat)} (hrd : okRdF ops cls cons rd q = true) {Rs : List Res} {I0 : List (List Own)} {Fs : List Fct} {Bs : List Own} (hm : P.follows .mixedOrders = true) (hok : okRegC ops cls cons q a0.tmps.size = true) (hsel : Region.noSelect ops.toArray = true)
    (hml : m ≤ ops.length) (hT : ∀ i, m ≤ i → i < ops.length → ∀ j, j < i → j ∈ cls.getD i [])
    (hob : ∀ i o, i < m → ops[i]? = some o → ObQ P ops cls cons rd Rs I0 Fs Bs w0 a0 i o)
    (s : St w0 (((List.range (ops.length + q)).filter (liveC ops cons fun _ => false)).flatMap (resC ops cls Rs I0 fun _ => undef) ++ Bs) w1)
    (hfin : ∀ (b : Act) (w : World) (val : Nat → Value), b.tmps.size = a0.tmps.size → b.defers = a0.defers → (∀ i d, i < m → dstOf ops i = some d → b.tmps.getD d undef = val i) → (∀ t, (∀ i, i < m → dstOf ops i ≠ some t) → b.tmps.getD t undef = a0.tmps.getD t undef) →
      (∀ i, i < m → fctC cls Fs val i) → St w0 (((List.range (ops.length + q)).filter (liveC ops cons fun j => Nat.blt j m)).flatMap (resC ops cls Rs I0 val) ++ Bs) w → Lst P ops.toArray (Q .normal) (ops.drop m) b w) :
    (Code.region rid ops.toArray true).wpIn (FR ro) 0 P Q a0 w1 := by
  refine wpIn_region_any hm ?_
  have hend : ∀ (listed : Array Bool) (a : Act) (w : World) (val : Nat → Value), JC ops cls cons q Rs I0 Fs Bs w0 a0 m listed a w val → (∀ i, i < m → listed.getD i false = true) → ∀ fuel, ops.length = m + fuel → wpAnyIn (FR ro) 0 P .any ops.toArray Q fuel listed a w := by
    intro listed a w val I hall fuel hfu
    refine wpAny_tailC hok hT fuel m listed a w hfu (Nat.le_refl _) I.lsize hall I.tail ?_
    have hfd : fuel = (ops.drop m).length := by rw [List.length_drop]; omega
    rw [hfd, wpOpsIn_eq_wpListIn (ops.drop m) m (fun j => by rw [List.getElem?_toArray, List.getElem?_drop])]
    refine Lst.wp ?_
    refine hfin a w val I.size I.defers (fun i d hi hd => I.done i d hd (hall i hi)) (fun t ht => I.rest t fun j hj => ?_) (fun i hi => I.facts i (hall i hi)) ?_
    · rcases Nat.lt_or_ge j m with h | h
      · exact absurd hj (ht j h)
      · exact I.tail j h
    have hfun : (fun j => listed.getD j false) = fun j => Nat.blt j m := by
      funext j
      rcases Nat.lt_or_ge j m with h | h
      · rw [hall j h]; exact (blt_t h).symm
      · rw [blt_f h]; exact I.tail j h
    have h9 := I.st
    rw [hfun] at h9
    exact h9
  have hcount : ∀ (fuel : Nat) (listed : Array Bool) (a : Act) (w : World) (val : Nat → Value), listed.toList.count false = fuel → JC ops cls cons q Rs I0 Fs Bs w0 a0 m listed a w val → wpAnyIn (FR ro) 0 P .any ops.toArray Q fuel listed a w := by
    intro fuel
    induction fuel with
    | zero =>
      intro listed a w val hc I
      have hall : ∀ i, i < ops.length → listed.getD i false = true := fun i hi => count_zero hc i (by rw [I.lsize]; exact hi)
      refine hend listed a w val I (fun i hi => hall i (by omega)) 0 ?_
      rcases Nat.lt_or_ge m ops.length with h | h
      · have := I.tail m (Nat.le_refl _)
        rw [hall m h] at this; cases this
      · omega
    | succ fuel ih =>
      intro listed a w val hc I
      by_cases hall : ∀ i, i < m → listed.getD i false = true
      · refine hend listed a w val I hall (fuel + 1) ?_
        have key : ∀ (b : List Bool) (m : Nat), m ≤ b.length → (∀ i, i < m → b[i]? = some true) → (∀ i, m ≤ i → i < b.length → b[i]? = some false) → b.count false = b.length - m := by
          intro b
          induction b with
          | nil => intro m _ _ _; simp
          | cons x b ihb =>
            intro m hm h1 h2
            cases m with
            | zero =>
              have hx : x = false := by simpa using h2 0 (Nat.le_refl _) (by simp)
              have := ihb 0 (Nat.zero_le _) (fun i hi => by omega) (fun i _ hi => by simpa using h2 (i + 1) (Nat.zero_le _) (by simp; omega))
              subst hx; simp [this]
            | succ m =>
              have hx : x = true := by simpa using h1 0 (by omega)
              have := ihb m (by simpa using hm) (fun i hi => by simpa using h1 (i + 1) (by omega)) (fun i hi hi2 => by simpa using h2 (i + 1) (by omega) (by simp; omega))
              subst hx; simp [this]
        have hk := key listed.toList m (by simp [I.lsize]; omega)
          (fun i hi => by have := hall i hi; have hil : i < listed.size := by rw [I.lsize]; omega
                          simp [hil] at this ⊢; exact this)
          (fun i hi hi2 => by have := I.tail i hi; have hil : i < listed.size := by simpa using hi2
                              simp [hil] at this ⊢; exact this)
        rw [hc] at hk
        simp [I.lsize] at hk
        omega
      refine ⟨fun hr => absurd (fun i hi => readyC_nil hok I.lsize hr i (by omega)) hall, fun k hk => ?_⟩
      obtain ⟨o, ho, hf, hdir⟩ := ready_direct hk
      have hkl := (List.getElem?_eq_some_iff.1 ho).1
      have hks : k < listed.size := by rw [I.lsize]; exact hkl
      have hkm : k < m := by
        rcases Nat.lt_or_ge k m with h3 | h3
        · exact h3
        · exfalso
          apply hall
          intro j hj
          rcases (okC_direct hok ho).2 j (hT k h3 hkl j (by omega)) with h4 | ⟨p, hp, h4⟩
          · exact hdir j h4
          · exact I.closed p (hdir p hp) j h4
      have hu := hf I.lsize
      have hcl : ∀ j ∈ cls.getD k [], listed.getD j false = true := fun j hj => by
        rcases (okC_direct hok ho).2 j hj with h1 | ⟨q, hq, h1⟩
        · exact hdir j h1
        · exact I.closed q (hdir q hq) j h1
      have hcnt : (listed.setIfInBounds k true).toList.count false = fuel := by have := count_set hks hu; omega
      have hnk : ∀ i, listed.getD i false = true → k ∉ cls.getD i [] := fun i hi hm => by have := I.closed i hi k hm; rw [hu] at this; cases this
      have hkk : k ∉ cls.getD k [] := fun hm => by have := clsC_lt hok k hkl k hm; omega
      obtain ⟨hcn, hcc⟩ := okC_cons hok ho
      -- what it uses up stands
      have hclive : ∀ j ∈ cons.getD k [], liveC ops cons (fun j => listed.getD j false) j = true := fun j hj => by
        obtain ⟨_, h2, h3⟩ := hcc j hj
        refine live_iff.2 ⟨h2.imp id (hcl j), fun i hi hl hm => ?_⟩
        rw [h3 i hi hm] at hl
        rw [hu] at hl; cases hl
      have hperm : ((List.range (ops.length + q)).filter (liveC ops cons fun j => listed.getD j false)).Perm (cons.getD k [] ++ (List.range (ops.length + q)).filter (fun j => liveC ops cons (fun j => listed.getD j false) j && !(cons.getD k []).contains j)) := by
        refine (List.perm_ext_iff_of_nodup (List.nodup_range.filter _) ?_).2 fun j => ?_
        · rw [List.nodup_append]
          refine ⟨hcn, List.nodup_range.filter _, fun x hx y hy e => ?_⟩
          subst e
          have := (Bool.and_eq_true _ _ ▸ (List.mem_filter.1 hy).2 : _ ∧ _).2
          exact not_has.1 this hx
        · rw [List.mem_append, List.mem_filter, List.mem_filter, List.mem_range, Bool.and_eq_true]
          constructor
          · rintro ⟨h1, h2⟩
            by_cases hj : j ∈ cons.getD k []
            · exact .inl hj
            · exact .inr ⟨h1, h2, not_has.2 hj⟩
          · rintro (h1 | ⟨h1, h2, _⟩)
            · exact ⟨(hcc j h1).1, hclive j h1⟩
            · exact ⟨h1, h2⟩
      obtain ⟨E, hE⟩ : ∃ E, E = ((List.range (ops.length + q)).filter (fun j => liveC ops cons (fun j => listed.getD j false) j && !(cons.getD k []).contains j)).flatMap (resC ops cls Rs I0 val) := ⟨_, rfl⟩
      have hst : St w0 ((cons.getD k []).flatMap (resC ops cls Rs I0 val) ++ (Bs ++ E)) w := by
        refine I.st.perm ?_
        refine ((hperm.flatMap_right _).append_right Bs).trans ?_
        rw [List.flatMap_append, ← hE, List.append_assoc]
        exact (List.perm_append_comm).append_left _
      have hslots : ∀ t ∈ o.looksAt ops.toArray, slotC ops (cls.getD k []) a0 a val t := fun t ht => by
        unfold slotC
        cases hw : writer ops (cls.getD k []) t with
        | some j =>
          obtain ⟨hmj, oj, hj, hdj⟩ := find_spec hw
          exact I.done j t (by rw [dst_of hj, hdj]) (hcl j hmj)
        | none =>
          refine I.rest t fun j hdj => ?_
          cases hb : listed.getD j false with
          | false => rfl
          | true =>
            rcases okC_look hok ho t ht j hdj with h | h
            · obtain ⟨oj, h1, h2⟩ := getD_lt hdj
              exact absurd h (find_none hw j oj h1 h2)
            · exact absurd h (hnk j hb)
      have hrdE : ∀ j ∈ rd.getD k [], ∀ p ∈ I0.getD j [], p ∈ E := fun j hj p hp => by
        obtain ⟨h1, h2, h3⟩ := okRd_at hrd hkl hj
        rw [hE]
        refine List.mem_flatMap.2 ⟨ops.length + j, List.mem_filter.2 ⟨List.mem_range.2 (by omega), ?_⟩, ?_⟩
        · rw [Bool.and_eq_true]
          refine ⟨live_iff.2 ⟨.inl (Nat.le_add_right _ _), fun i hi hl hm => hnk i hl (h3 i hi hm)⟩, not_has.2 h2⟩
        · unfold resC
          rw [blt_f (Nat.le_add_right _ _), cond_false, Nat.add_sub_cancel_left]; exact hp
      have hO := hob k o hkm ho a w val E I.size I.defers hslots (fun j hj => I.facts j (hcl j hj)) hrdE hst
      have hset := set_iff hks
      have step : ∀ v v' w', (∀ d, o.dst = some d → v' = v) → fctC cls Fs (upv val k v) k → St w0 (resC ops cls Rs I0 (upv val k v) k ++ (Bs ++ E)) w' → wpAnyIn (FR ro) 0 P .any ops.toArray Q fuel (listed.setIfInBounds k true) (a.put o.dst v') w' := fun v v' w' hv hF hS => by
        have hmk : ∀ i, listed.getD i false = true → msk (i :: cls.getD i []) (upv val k v) = msk (i :: cls.getD i []) val := fun i hi => msk_congr fun j hj => by
          refine upv_other val v fun e => ?_
          subst e
          rcases List.mem_cons.1 hj with h | h
          · subst h; rw [hu] at hi; cases hi
          · exact hnk i hi h
        refine ih _ _ w' (upv val k v) hcnt ⟨by rw [Act.tmps_put_size]; exact I.size, by cases o.dst <;> exact I.defers, by simp [I.lsize], fun i hi => (by have h8 := I.tail i hi; have h7 : k ≠ i := (by omega); simpa [Array.getElem?_setIfInBounds_ne h7] using h8), fun i d hd hl => ?_, fun t ht => ?_, fun i hi j hj => ?_, fun i hi => ?_, ?_⟩
        · obtain ⟨hds, huniq⟩ := okC_dst hok hd
          by_cases hik : i = k
          · subst hik
            have hdo : o.dst = some d := by rw [dst_of ho] at hd; exact hd
            rw [hdo, put_getD, if_pos ⟨rfl, by rw [I.size]; exact hds⟩, upv_same]
            exact hv d hdo
          · have hne : o.dst ≠ some d := fun e => hik (huniq k (by rw [dst_of ho, e])).symm
            rw [upv_other val v hik]
            have h9 := I.done i d hd (((hset i).1 hl).resolve_left hik)
            cases hdo : o.dst with
            | none => exact h9
            | some d2 => rw [put_getD, if_neg (fun h => hne (by rw [hdo, h.1]))]; exact h9
        · have h9 := I.rest t fun j hj => by
            have := ht j hj
            cases hb : listed.getD j false with
            | false => rfl
            | true => rw [(hset j).2 (.inr hb)] at this; cases this
          cases hdo : o.dst with
          | none => exact h9
          | some d2 =>
            rw [put_getD, if_neg]
            · exact h9
            · rintro ⟨e, _⟩
              subst e
              have := ht k (by rw [dst_of ho, hdo])
              rw [(hset k).2 (.inl rfl)] at this; cases this
        · rcases (hset i).1 hi with e | e
          · subst e; exact (hset j).2 (.inr (hcl j hj))
          · exact (hset j).2 (.inr (I.closed i e j hj))
        · rcases (hset i).1 hi with e | e
          · subst e; exact hF
          · unfold fctC
            rw [hmk i e]
            exact I.facts i e
        · -- what stands now
          have hlive : ∀ j, liveC ops cons (fun j => (listed.setIfInBounds k true).getD j false) j = true ↔ (j = k ∨ (liveC ops cons (fun j => listed.getD j false) j = true ∧ j ∉ cons.getD k [])) := fun j => by
            rw [live_iff, live_iff]
            constructor
            · rintro ⟨h1, h2⟩
              by_cases hjk : j = k
              · exact .inl hjk
              · refine .inr ⟨⟨h1.imp id fun h => ((hset j).1 h).resolve_left hjk, fun i hi hl => h2 i hi ((hset i).2 (.inr hl))⟩, h2 k hkl ((hset k).2 (.inl rfl))⟩
            · rintro (rfl | ⟨⟨h1, h2⟩, h3⟩)
              · refine ⟨.inr ((hset j).2 (.inl rfl)), fun i hi hl hm => ?_⟩
                have hio : ops[i]? = some ops[i] := by simp [hi]
                rcases ((okC_cons hok hio).2 j hm).2.1 with h | h
                · omega
                · rcases (hset i).1 hl with e | e
                  · subst e; exact hkk h
                  · exact hnk i e h
              · refine ⟨h1.imp id fun h => (hset j).2 (.inr h), fun i hi hl => ?_⟩
                rcases (hset i).1 hl with e | e
                · subst e; exact h3
                · exact h2 i hi e
          have hp2 : ((List.range (ops.length + q)).filter (liveC ops cons fun j => (listed.setIfInBounds k true).getD j false)).Perm (k :: (List.range (ops.length + q)).filter (fun j => liveC ops cons (fun j => listed.getD j false) j && !(cons.getD k []).contains j)) := by
            refine (List.perm_ext_iff_of_nodup (List.nodup_range.filter _) ?_).2 fun j => ?_
            · rw [List.nodup_cons]
              refine ⟨fun hm => ?_, List.nodup_range.filter _⟩
              have h1 := (List.mem_filter.1 hm).2
              rw [Bool.and_eq_true] at h1
              rcases (live_iff.1 h1.1).1 with h | h
              · omega
              · rw [hu] at h; cases h
            · rw [List.mem_filter, List.mem_cons, List.mem_filter, List.mem_range, Bool.and_eq_true, hlive]
              constructor
              · rintro ⟨h1, h2 | ⟨h2, h3⟩⟩
                · exact .inl h2
                · exact .inr ⟨h1, h2, not_has.2 h3⟩
              · rintro (h1 | ⟨h1, h2, h3⟩)
                · exact ⟨by omega, .inl h1⟩
                · exact ⟨h1, .inr ⟨h2, not_has.1 h3⟩⟩
          refine hS.perm ?_
          refine List.Perm.trans ?_ ((hp2.flatMap_right _).append_right Bs).symm
          rw [List.flatMap_cons]
          have hEq : ((List.range (ops.length + q)).filter (fun j => liveC ops cons (fun j => listed.getD j false) j && !(cons.getD k []).contains j)).flatMap (resC ops cls Rs I0 (upv val k v)) = E := by
            rw [hE, List.flatMap_def, List.flatMap_def]
            congr 1
            refine List.map_congr_left fun j hj => ?_
            have h1 := (List.mem_filter.1 hj).2
            rw [Bool.and_eq_true] at h1
            unfold resC
            rcases Nat.lt_or_ge j ops.length with h | h
            · have hl := (live_iff.1 h1.1).1.resolve_left (by omega)
              rw [hmk j hl]
            · rw [blt_f h]; rfl
          rw [hEq, List.append_assoc]
          exact (List.perm_append_comm).append_left _
      have ho' : ops.toArray[k]? = some o := by simpa using ho
      unfold wpOpIn
      simp only [ho']
      unfold Lst at hO
      split at hO
      · rename_i hw
        rw [if_pos hw]
        exact hO.wp fun v w' h9 => by
          unfold Lst at h9
          obtain ⟨u, h1, h2, h3⟩ := h9
          refine step u v w' (fun d hd => ?_) h2 h3
          have := h1 d hd
          rwa [hd, put_getD, if_pos ⟨rfl, by rw [I.size]; exact (okC_dst hok (by rw [dst_of ho, hd])).1⟩] at this
      · rename_i hw
        rw [if_neg hw]
        unfold Lst at hO
        obtain ⟨u, h1, h2, h3⟩ := hO
        refine ⟨fun _ _ => trivial, step u undef w (fun d hd => ?_) h2 h3⟩
        have := h1 d hd
        rwa [hd, put_getD, if_pos ⟨rfl, by rw [I.size]; exact (okC_dst hok (by rw [dst_of ho, hd])).1⟩] at this
  have hz : ∀ i, (Array.replicate ops.toArray.size false).getD i false = false := fun i => by simp [Array.getElem?_replicate]; split <;> rfl
  have hfz : (fun j => (Array.replicate ops.toArray.size false).getD j false) = fun _ => false := funext hz
  refine hcount _ _ _ _ (fun _ => undef) (by simp) ⟨rfl, rfl, by simp, fun i _ => hz i, fun i d _ h => ?_, fun _ _ => rfl, fun i h => ?_, fun i h => ?_, ?_⟩
  · rw [hz] at h; cases h
  · rw [hz] at h; cases h
  · rw [hz] at h; cases h
  · rw [hfz]; exact s.drew
def AllQ (P : Program) (ops : List Oper) (cls cons rd : List (List Nat)) (Rs : List Res) (I0 : List (List Own)) (Fs : List Fct) (Bs : List Own) (w0 : World) (a0 : Act) : List Oper → Nat → Prop
  | [], _ => True
  | o :: r, i => ObQ P ops cls cons rd Rs I0 Fs Bs w0 a0 i o ∧ AllQ P ops cls cons rd Rs I0 Fs Bs w0 a0 r (i + 1)
theorem allQ_get {rd : List (List Nat)} {Rs : List Res} {I0 : List (List Own)} {Fs : List Fct} {Bs : List Own} : ∀ {l : List Oper} {k : Nat}, AllQ P ops cls cons rd Rs I0 Fs Bs w0 a0 l k → ∀ i o, l[i]? = some o → ObQ P ops cls cons rd Rs I0 Fs Bs w0 a0 (k + i) o
  | [], _, _, i, o, h => by simp at h
  | x :: r, k, H, 0, o, h => by simp at h; subst h; exact H.1
  | x :: r, k, H, i + 1, o, h => by
    have := allQ_get H.2 i o (by simpa using h)
    rwa [show k + (i + 1) = k + 1 + i by omega]
theorem c_regF {rid N : Nat} {L : List (Nat × Value)} {Df : List Deferred} {B : List Own} (q : Nat) (cls cons rd : List (List Nat)) (Rs : List Res) (I0 : List (List Own)) (Fs : List Fct) (Bs : List Own)
    (h : Sl N a0 L Df) (s : St w0 B w1) (hB : ((List.range (ops.length + q)).filter (liveC ops cons fun _ => false)).flatMap (resC ops cls Rs I0 fun _ => undef) ++ Bs = B) (hm : P.follows .mixedOrders = true) (hok : okRegC ops cls cons q N = true) (hrd : okRdF ops cls cons rd q = true) (hsel : Region.noSelect ops.toArray = true)
    (hob : AllQ P ops cls cons rd Rs I0 Fs Bs w0 a0 ops 0) (lv : List Nat) (hlv : (List.range (ops.length + q)).filter (liveC ops cons fun j => Nat.blt j ops.length) = lv)
    (hfin : ∀ (b : Act) (w : World) (val : Nat → Value), b.tmps.size = N → b.defers = Df → (∀ i d, dstOf ops i = some d → b.tmps.getD d undef = val i) → (∀ t, (∀ i, dstOf ops i ≠ some t) → b.tmps.getD t undef = a0.tmps.getD t undef) →
      (∀ i, Nat.blt i ops.length = true → fctC cls Fs val i) → St w0 (lv.flatMap (resC ops cls Rs I0 val) ++ Bs) w → Q .normal b w) :
    (Code.region rid ops.toArray true).wpIn (FR ro) 0 P Q a0 w1 := by
  subst hB
  refine wp_regionF hrd (m := ops.length) (Fs := Fs) (I0 := I0) (Rs := Rs) hm (by rw [h.size]; exact hok) hsel (Nat.le_refl _) (fun i h1 h2 => absurd h2 (by omega)) (fun i o _ hi => ?_) s fun b w val h1 h2 h3 h4 h5 h6 => ?_
  · have := allQ_get hob i o hi
    rwa [Nat.zero_add] at this
  · rw [List.drop_length]
    refine Lst.nil.2 (hfin b w val (h1.trans h.size) (h2.trans h.defers) (fun i d hd => h3 i d (dst_lt hd) hd) (fun t ht => h4 t fun i _ => ht i) (fun i hi => h5 i (Nat.le_of_ble_eq_true hi)) (by rw [hlv] at h6; exact h6))
end
theorem St.memSl {w0 w : World} {B : List Own} {v : Value} {e : TypeId} {sz n : Nat} {xs : List Value} (s : St w0 B w) (h : Own.sl v e sz n xs ∈ B) : Owns w w0.heap.size e sz v n xs := by
  obtain ⟨i, hi⟩ := List.mem_iff_getElem?.1 h
  exact s.getSl i hi
end Go.Proofs.YtndbijifgalpbaaGreat

namespace Go.Proofs.YtndbijifgalpbaaGreat
open Go.RowKit
/-! ### a range over a function within a round of another one -/
/-! ### stores into an element of an own slice -/
section
variable {P : Program} {ops : Array Oper} {Q : Act → World → Prop} {l : List Oper} {a : Act} {w w0 : World} {N : Nat} {L : List (Nat × Value)} {Df : List Deferred} {B : List Own} {d : Tmp} {ty : TypeId} {pos : String} {af : Array Edge} {x y z : Operand} {t e : TypeId}
theorem s_store_cells {v u9 : Value} {sz n p : Nat} {xs ys D : List Value} (i : Nat) (h : Sl N a L Df) (s : St w0 B w) (hx : evo L x = some (.pointer (some (elAddr v p)))) (hy : evo L y = some u9) (hi : B[i]? = some (.sl v e sz n xs)) (hp : p + D.length ≤ n * sz) (h1 : 0 < D.length) (hv : ∀ u ∈ D, u.oneCell' = true)
    (hst : ∀ (g : Nat) (w9 : World) (cur : Array Value) (fz : Nat × Nat), w9.heap[g]? = some (.cells cur e fz) → (fz.2 = 0 ∨ cur.size ≤ fz.1) → p + D.length ≤ cur.size → (storeVar t ⟨g, p, none⟩ u9).run P w9 = .ok () (w9.setRow g (cur.toList.take p ++ D ++ cur.toList.drop (p + D.length)).toArray))
    (hys : xs.take p ++ D ++ xs.drop (p + D.length) = ys)
    (k : ∀ w', St w0 (B.set i (.sl v e sz n ys)) w' → Lst P ops Q l a w') : Lst P ops Q (⟨none, .store t x y, ty, pos, af, none⟩ :: l) a w := by
  have ho := s.getSl i hi
  rcases ho.2 with ⟨_, h0⟩ | ⟨g, cap, cur, fz, rfl, hb, hg, hfz, hnc, hcm, hcs, htk⟩
  · subst h0; omega
  · have hcl : n * sz ≤ cur.size := by rw [hcs]; exact Nat.mul_le_mul_right _ hnc
    have hxl : xs.length = n * sz := ho.1
    have hcx : cur.toList = xs ++ cur.toList.drop (n * sz) := by rw [← htk]; exact (List.take_append_drop _ _).symm
    have hyl : ys.length = n * sz := by
      rw [← hys]; simp only [List.length_append, List.length_take, List.length_drop]; omega
    have hnew : cur.toList.take p ++ D ++ cur.toList.drop (p + D.length) = ys ++ cur.toList.drop (n * sz) := by
      rw [← hys]
      conv => lhs; rw [hcx]
      rw [List.take_append_of_le_length (by omega), List.drop_append_of_le_length (by omega)]
      simp only [List.append_assoc]
    have hel : (some (elAddr (Value.slice (some ⟨g, 0, none⟩) n cap) p) : Option Addr) = some ⟨g, p, none⟩ := by show some (Addr.add _ _) = _; rw [Addr.add_lit, Nat.zero_add]
    have hstr := hst g w cur fz hg hfz (by omega)
    rw [hnew] at hstr
    have hsz : (ys ++ cur.toList.drop (n * sz)).toArray.size = cur.size := by
      rw [List.size_toArray, List.length_append, List.length_drop, hyl]; have := Array.length_toList (xs := cur); omega
    refine s_doesN (R := fun _ w' => w' = w.setRow g (ys ++ cur.toList.drop (n * sz)).toArray) ?_ fun w' _ hw => by
      subst hw
      refine k _ (s.upd i hi (p' := .sl _ e sz n ys) rfl rfl rfl (by simp) ⟨hyl, .inr ⟨g, cap, _, fz, rfl, hb, setRow_heap w g cur _ e fz hg, ?_, hnc, hcm, ?_, ?_⟩⟩ (fun k hk => .inl hk) (fun k hk hne => setRow_other w g k _ fun e9 => hne (Own.at_sl.2 (by simp [Value.ownBlock, e9]))))
      · rw [hsz]; exact hfz
      · rw [hsz]; exact hcs
      · show (ys ++ cur.toList.drop (n * sz)).take (n * sz) = ys
        rw [← hyl]; exact List.take_left
    unfold Does
    rw [hel] at hx
    simp only [execOp, h.ev hx, h.ev hy, Instr.storeAt, Instr.sureAddr, Sem.run_bind, Sem.run_pure, Result.andThen_ok, hstr]
/-- one cell of it -/
theorem s_store_el1 {v V : Value} {sz n p : Nat} {xs ys : List Value} (i : Nat) (h : Sl N a L Df) (s : St w0 B w) (ho : One P t) (hx : evo L x = some (.pointer (some (elAddr v p)))) (hy : evo L y = some V) (hi : B[i]? = some (.sl v e sz n xs)) (hp : p + 1 ≤ n * sz) (hv : V.oneCell' = true)
    (hys : xs.set p V = ys)
    (k : ∀ w', St w0 (B.set i (.sl v e sz n ys)) w' → Lst P ops Q l a w') : Lst P ops Q (⟨none, .store t x y, ty, pos, af, none⟩ :: l) a w := by
  have hxl : xs.length = n * sz := (s.getSl i hi).1
  refine s_store_cells (D := [V]) i h s hx hy hi hp (by simp) (fun u hu => by rw [List.mem_singleton] at hu; subst hu; exact hv) (fun g w9 cur fz hg hfz hc => ?_) (by rw [← hys]; simp only [List.length_cons, List.length_nil, Nat.zero_add]; rw [List.set_eq_take_append_cons_drop, if_pos (by omega)]; simp) k
  have hs : (sizeOf t).run P w9 = .ok 1 w9 := by
    cases hq : P.info? t with
    | none => have := ho.size; simp [hq] at this
    | some i => have := ho.size; simp [hq] at this; simp [sizeOf, typeInfo, Sem.run_bind, hq, this]
  have hc1 : V.cells = #[V] := by
    cases V <;> first | rfl | (simp [Value.oneCell'] at hv)
  have := run_storeCells_atG P g p e fz [V] 0 cur w9 hg hfz (by simpa using hc) (fun u hu => by rw [List.mem_singleton] at hu; subst hu; exact hv)
  simp only [Nat.add_zero, List.length_cons, List.length_nil, Nat.zero_add] at this
  simp [storeVar, Sem.run_bind, hs, hc1, this]
/-! ### a set of numbers as a map to nothing -/
end
theorem elm_of {P : Program} {e : TypeId} {sz by_ : Nat} (h : ((P.info? e).bind fun i => i.zero.map fun z => (i.size, i.bytes, z.cells.size)) = some (sz, by_, sz)) (h0 : 0 < sz) : Elm P e sz by_ := by
  cases hi : P.info? e with
  | none => rw [hi] at h; simp at h
  | some i =>
    rw [hi] at h
    cases hz : i.zero with
    | none => simp [hz] at h
    | some z =>
      simp only [Option.bind_some, hz, Option.map_some, Option.some.injEq, Prod.mk.injEq] at h
      exact ⟨⟨i, z, hi, hz, h.1, h.2.1, h.2.2⟩, h0⟩
/-! ### pointers and nil -/
section
variable {P : Program} {ρ : Operand → Value} {d : Option Tmp} {ty : TypeId} {pos : String} {af : Array Edge} {g : Option (Nat × Bool)} {x y : Operand} {t t' e : TypeId}
theorem eqIn_ptr {w : World} (ht : P.underlying t = some (.pointer e)) (q : Option Addr) (n : Nat) : (Op.equalIn (n + 1) t (.pointer q) (.pointer none)).run P w = .ok q.isNone w := by
  cases q <;> simp [Op.equalIn, run_underlying ht]
theorem equal_ptr {w : World} (ht : P.underlying t = some (.pointer e)) (q : Option Addr) : (Op.equal t (.pointer q) (.pointer none)).run P w = .ok q.isNone w := eqIn_ptr ht q 9999
theorem ru_eql_ptr0 {q : Option Addr} (ht : P.underlying t = some (.pointer e)) (hx : ρ x = .pointer q) (hy : ρ y = .pointer none) : RunsTo P ⟨d, .binOp .eql t x y t', ty, pos, af, g⟩ ρ (.bool q.isNone) := fun w => by
  simp [execOp, hx, hy, eqGuard, binOp, equal_ptr ht, Result.andThen]
theorem ru_neq_ptr0 {q : Option Addr} (ht : P.underlying t = some (.pointer e)) (hx : ρ x = .pointer q) (hy : ρ y = .pointer none) : RunsTo P ⟨d, .binOp .neq t x y t', ty, pos, af, g⟩ ρ (.bool !q.isNone) := fun w => by
  simp [execOp, hx, hy, eqGuard, binOp, equal_ptr ht, Result.andThen]
end
end Go.Proofs.YtndbijifgalpbaaGreat

namespace Go.Proofs.YtndbijifgalpbaaGreat
open Go.RowKit
/-! ### where a node of a number lies -/
def ixL (L : List N3) (no : Int) : Nat := L.findIdx fun x => decide (x.1.me.1 = no)
def ptrL (vo : Value) (L : List N3) (no : Int) : Value := bif decide (ixL L no < L.length) then .pointer (some (elAddr vo (ixL L no * 68))) else .pointer none
theorem ix_at {L : List N3} {no : Int} {k : Nat} (hk : k < L.length) (h : ∀ j, j < k → decide ((L.getD j z3).1.me.1 = no) = false) (he : decide ((L.getD k z3).1.me.1 = no) = true) : ixL L no = k := by
  unfold ixL
  rw [List.findIdx_eq hk]
  refine ⟨by rw [n3D hk]; exact he, fun j hj => ?_⟩
  rw [n3D (by omega)]; exact h j hj
theorem ix_none {L : List N3} {no : Int} {k : Nat} (hk : L.length ≤ k) (h : ∀ j, j < k → decide ((L.getD j z3).1.me.1 = no) = false) : ixL L no = L.length := by
  unfold ixL
  rw [List.findIdx_eq_length]
  intro x hx
  obtain ⟨j, hj, rfl⟩ := n3_at hx
  exact h j (by omega)
theorem ix_lt {L : List N3} {no : Int} (h : ixL L no < L.length) : (∀ j, j < ixL L no → decide ((L.getD j z3).1.me.1 = no) = false) ∧ decide ((L.getD (ixL L no) z3).1.me.1 = no) = true := by
  refine ⟨fun j hj => ?_, ?_⟩
  · have := List.not_of_lt_findIdx (p := fun x : N3 => decide (x.1.me.1 = no)) (xs := L) hj
    rw [n3D (by omega)] at this
    simpa using this
  · have := List.findIdx_getElem (p := fun x : N3 => decide (x.1.me.1 = no)) (xs := L) (w := h)
    rw [← n3D h]
    exact this
theorem ix_get {L : List N3} {no : Int} (h : ixL L no < L.length) : L.getD (ixL L no) z3 = getL L no ∧ (getL L no).1.me.1 = no := by
  obtain ⟨h1, h2⟩ := ix_lt h
  have e := get_at h h1 h2
  exact ⟨e.symm, by rw [e]; exact of_decide_eq_true h2⟩
theorem ptr_y {vo : Value} {L : List N3} {no : Int} (h : ixL L no < L.length) : ptrL vo L no = .pointer (some (elAddr vo (ixL L no * 68))) := by unfold ptrL; rw [decide_eq_true h]; rfl
theorem ptr_n {vo : Value} {L : List N3} {no : Int} (h : ¬ ixL L no < L.length) : ptrL vo L no = .pointer none := by unfold ptrL; rw [decide_eq_false h]; rfl
theorem ix_has {L : List N3} {no : Int} (h : ∃ x ∈ L, x.1.me.1 = no) : ixL L no < L.length := by
  obtain ⟨x, hx, e⟩ := h
  exact List.findIdx_lt_length_of_exists ⟨x, hx, decide_eq_true e⟩
theorem ix_lives {L : List N3} {no : Int} (hn : ∀ m ∈ memL L, 0 ≤ m.1) : decide (ixL L no < L.length) = livesB (memL L) no := by
  rw [Bool.eq_iff_iff, decide_eq_true_iff, lives_iff hn]
  constructor
  · intro h
    obtain ⟨e1, e2⟩ := ix_get h
    exact ⟨(getL L no).1.me, List.mem_map.2 ⟨getL L no, by rw [← e1]; exact n3_mem h, rfl⟩, e2⟩
  · rintro ⟨m, hm, e⟩
    obtain ⟨x, hx, rfl⟩ := List.mem_map.1 hm
    exact ix_has ⟨x, hx, e⟩
/-- what lies there behind d rounds -/
def ptJ (vo : Value) (q : Nat → Bool) : Nat → Value | 0 => .pointer none | d + 1 => bif q d then .pointer (some (elAddr vo (d * 68))) else .pointer none
theorem ptJ_now {vo : Value} {q : Nat → Bool} {d : Nat} (h : ∀ j, j < d → q j = false) : ptJ vo q d = .pointer none := by
  cases d with
  | zero => rfl
  | succ d => show (bif q d then _ else _) = _; rw [h d (Nat.lt_succ_self d)]; rfl
def qL (L : List N3) (no : Int) (j : Nat) : Bool := decide ((L.getD j z3).1.me.1 = no)
theorem fnd_y {vo : Value} {L : List N3} {no : Int} {d : Nat} (hd : d < L.length) (h : ∀ j, j < d → qL L no j = false) (he : qL L no d = true) : ptJ vo (qL L no) (d + 1) = ptrL vo L no := by
  show (bif qL L no d then _ else _) = _
  have e := ix_at hd h he
  rw [he, ptr_y (by rw [e]; exact hd), e]; rfl
theorem fnd_n {vo : Value} {L : List N3} {no : Int} (h : ∀ j, j < L.length → qL L no j = false) : ptrL vo L no = .pointer none := ptr_n (by rw [ix_none (Nat.le_refl _) h]; omega)
/-! ### sorted by numbers -/
def srtQ (l : List Mb) (k : Nat) : Bool := decide ((l.getD k zMb).1 < (l.getD (k - 1) zMb).1)
def srtB (l : List Mb) : Bool := (List.range l.length).all fun k => !(decide (0 < k) && srtQ l k)
theorem srt_left {l : List Mb} {k : Nat} (hk : k < l.length) (h0 : 0 < k) (h : srtQ l k = true) : srtB l = false := by
  unfold srtB
  rw [← Bool.not_eq_true, List.all_eq_true]
  intro h9
  have := h9 k (List.mem_range.2 hk)
  rw [h, decide_eq_true h0] at this; cases this
theorem srt_done {l : List Mb} (h : ∀ j, 0 < j → j < l.length → srtQ l j = false) : srtB l = true := by
  unfold srtB
  rw [List.all_eq_true]
  intro j hj
  by_cases h0 : 0 < j
  · rw [h j h0 (List.mem_range.1 hj)]; simp
  · rw [decide_eq_false h0]; rfl
theorem srt_iff {l : List Mb} : srtB l = true ↔ ∀ j, 0 < j → j < l.length → srtQ l j = false := by
  refine ⟨fun h j h0 hj => ?_, srt_done⟩
  cases hq : srtQ l j with
  | false => rfl
  | true => rw [srt_left hj h0 hq] at h; cases h
theorem srt_next {l : List Mb} {k : Nat} (h : ∀ j, k ≤ j → 0 < j → j < l.length → srtQ l j = false) (hk : 0 < k) (hq : srtQ l (k - 1) = false) : ∀ j, k - 1 ≤ j → 0 < j → j < l.length → srtQ l j = false := fun j h1 h2 h3 => by
  by_cases e : j = k - 1
  · subst e; exact hq
  · exact h j (by omega) h2 h3
theorem cmpInt_neg (x y : Int) : cmpInt x y < 0 ↔ x < y := by unfold cmpInt; split <;> (try split) <;> omega
/-! ### which overlays may be, as the package asks it -/
theorem mem_at {L : List N3} {k : Nat} (hk : k < L.length) : (memL L).getD k zMb = (L.getD k z3).1.me := by
  rw [← mbD (by rw [List.length_map]; exact hk), ← n3D hk]; exact List.getElem_map _
theorem fnd_ix {L : List N3} {no : Int} (h : ixL L no < L.length) : findR (memL L) no = some (L.getD (ixL L no) z3).1.me := by
  obtain ⟨h1, h2⟩ := ix_lt h
  have e := find_at (l := memL L) (no := no) (k := ixL L no) (by rw [List.length_map]; exact h) (fun j hj => by rw [mem_at (by omega)]; exact h1 j hj) (by rw [mem_at h]; exact h2)
  rw [e, mem_at h]
theorem fnd_ix0 {L : List N3} {no : Int} (h : ¬ ixL L no < L.length) : findR (memL L) no = none := by
  refine find_no (k := L.length) (by rw [List.length_map]; exact Nat.le_refl _) fun j hj => ?_
  rw [mem_at hj]
  refine decide_eq_false fun e => h (ix_has ⟨_, n3_mem hj, e⟩)
def kbad (L : List N3) (m : Mb) : Bool := decide (ixL L m.1 < L.length) && !decide ((L.getD (ixL L m.1) z3).1.me = m)
theorem kbad_bad {L : List N3} (hr : Rg (memL L)) (m : Mb) : kbad L m = badM (memL L) m := by
  unfold kbad badM refF
  by_cases h : ixL L m.1 < L.length
  · rw [fnd_ix h, decide_eq_true h]
    have h0 := (hr.nos _ (List.mem_map.2 ⟨_, n3_mem h, rfl⟩)).1
    rw [Option.getD_some, decide_eq_true h0]
  · rw [fnd_ix0 h, decide_eq_false h]
    rfl
theorem kb_0 {L : List N3} {m : Mb} (h : decide (ixL L m.1 < L.length) = false) : kbad L m = false := by unfold kbad; rw [h]; rfl
theorem kb_1 {L : List N3} {m : Mb} (h : decide (ixL L m.1 < L.length) = true) : kbad L m = !decide ((L.getD (ixL L m.1) z3).1.me = m) := by unfold kbad; rw [h]; rfl
def kbQ (n : Nd) (L : List N3) (j : Nat) : Bool := kbad L ((knownN n).getD j zMb)
theorem kn_left {n : Nd} {L : List N3} {d : Nat} (hd : d < (knownN n).length) (h : kbQ n L d = true) : (knownN n).any (kbad L) = true := List.any_eq_true.2 ⟨_, mb_mem hd, h⟩
theorem kn_done {n : Nd} {L : List N3} (h : ∀ j, j < (knownN n).length → kbQ n L j = false) : (knownN n).any (kbad L) = false := by
  rw [List.any_eq_false]
  intro x hx
  obtain ⟨j, hj, rfl⟩ := mb_at hx
  rw [show kbad L ((knownN n).getD j zMb) = false from h j hj]; decide
def rvB (L : List N3) (k : Nat) : Bool := !rightN (L.getD k z3).1 || (knownN (L.getD k z3).1).any (kbad L)
theorem ow_no0 {L : List N3} (h : rightR (memL L) = false) : ovR L = false := by unfold ovR; rw [h, Bool.and_false]
theorem ow_no1 {L : List N3} (h : srtB (memL L) = false) : ovR L = false := by
  have : ¬ ∀ j, 0 < j → j < (memL L).length → srtQ (memL L) j = false := fun h9 => by rw [srt_done h9] at h; cases h
  rw [Classical.not_forall] at this
  obtain ⟨k, hk⟩ := this
  rw [Classical.not_imp, Classical.not_imp] at hk
  obtain ⟨h0, h1, h2⟩ := hk
  rw [List.length_map] at h1
  refine rl_left h1 (bv_1 (decide_eq_true h0) ?_)
  have h3 : srtQ (memL L) k = true := by cases hq : srtQ (memL L) k with | true => rfl | false => exact absurd hq h2
  unfold srtQ at h3
  rw [mem_at h1, mem_at (by omega)] at h3
  have := of_decide_eq_true h3
  exact decide_eq_true (by omega)
theorem ow_all {L : List N3} (h0 : rightR (memL L) = true) (h1 : srtB (memL L) = true) : ovR L = (List.range L.length).all fun k => !rvB L k := by
  have hg := (rg_iff _).1 h0
  have key : ∀ k, k < L.length → badV L k = rvB L k := fun k hk => by
   have e1 : (decide (0 < k) && decide ((L.getD k z3).1.me.1 ≤ (L.getD (k - 1) z3).1.me.1)) = false := by
     by_cases hk0 : 0 < k
     · have h2 := srt_iff.1 h1 k hk0 (by rw [List.length_map]; exact hk)
       unfold srtQ at h2
       rw [mem_at hk, mem_at (by omega)] at h2
       have h3 := of_decide_eq_false h2
       have h4 := (List.pairwise_iff_getElem.1 hg.nd (k - 1) k (by rw [List.length_map]; omega) (by rw [List.length_map]; exact hk) (by omega)).1
       rw [mbD, mbD, mem_at hk, mem_at (by omega)] at h4
       rw [decide_eq_true hk0, decide_eq_false (by omega)]; rfl
     · rw [decide_eq_false hk0]; rfl
   have e2 : (knownN (L.getD k z3).1).any (badM (memL L)) = (knownN (L.getD k z3).1).any (kbad L) := by
     congr 1; funext m; exact (kbad_bad hg m).symm
   unfold badV rvB
   rw [e1, e2, Bool.false_or]
  unfold ovR
  rw [h0, Bool.and_true, Bool.eq_iff_iff, List.all_eq_true, List.all_eq_true]
  exact ⟨fun h k hk => by rw [← key k (List.mem_range.1 hk)]; exact h k hk, fun h k hk => by rw [key k (List.mem_range.1 hk)]; exact h k hk⟩
theorem ow_left {L : List N3} {d : Nat} (h0 : rightR (memL L) = true) (h1 : srtB (memL L) = true) (hd : d < L.length) (h : rvB L d = true) : ovR L = false := by
  rw [ow_all h0 h1, ← Bool.not_eq_true, List.all_eq_true]
  intro h9
  have := h9 d (List.mem_range.2 hd)
  rw [h] at this; cases this
theorem ow_done {L : List N3} (h0 : rightR (memL L) = true) (h1 : srtB (memL L) = true) (h : ∀ j, j < L.length → rvB L j = false) : ovR L = true := by
  rw [ow_all h0 h1, List.all_eq_true]
  intro k hk
  rw [h k (List.mem_range.1 hk)]; rfl
theorem rv_0 {L : List N3} {k : Nat} (h : rightN (L.getD k z3).1 = false) : rvB L k = true := by unfold rvB; rw [h]; rfl
theorem rv_1 {L : List N3} {k : Nat} (h : rightN (L.getD k z3).1 = true) : rvB L k = (knownN (L.getD k z3).1).any (kbad L) := by unfold rvB; rw [h]; rfl
/-! ### three rows as one -/
theorem three_flat (a b c : List Mb) : [a, b, c].flatten = a ++ (b ++ c) := by simp
theorem three_rd {w : World} {u v x : Value} {a b c : List Mb} (h1 : RdZ w u 33 a.length (mbCells a)) (h2 : RdZ w v 33 b.length (mbCells b)) (h3 : RdZ w x 33 c.length (mbCells c)) : ∀ k, k < [u, v, x].length → RdZ w ([u, v, x].getD k undef) 33 ([a, b, c].getD k []).length (mbCells ([a, b, c].getD k [])) := fun k hk => by
  match k, hk with
  | 0, _ => exact h1
  | 1, _ => exact h2
  | 2, _ => exact h3
/-! ### neighbours -/
def nbP (l : List Mb) (m : Mb) : Mb := bif decide (l.length = 1) then nMb else befL l m
def nbS (l : List Mb) (m : Mb) : List Mb := bif decide (l.length = 1) then [m] else folL l m (min (l.length - 1) 4)
theorem nb_1 {l : List Mb} {m : Mb} (h : l.length = 1) : nbP l m = nMb ∧ nbS l m = [m] := by unfold nbP nbS; rw [decide_eq_true h]; exact ⟨rfl, rfl⟩
theorem nb_n {l : List Mb} {m : Mb} (h : ¬ l.length = 1) : nbP l m = befL l m ∧ nbS l m = folL l m (min (l.length - 1) 4) := by unfold nbP nbS; rw [decide_eq_false h]; exact ⟨rfl, rfl⟩
theorem nb_le (l : List Mb) (m : Mb) : (nbS l m).length ≤ 4 := by
  by_cases h : l.length = 1
  · rw [(nb_1 h).2]; simp
  · rw [(nb_n h).2, fol_len]; omega
def NbP (w : World) (M : TypeId) (l : List Mb) (m : Mb) : Asrt := fun v w9 => ∃ v8, v = .tuple #[.agg (mbArr (nbP l m)), v8] ∧ Owns w9 w.heap.size M 33 v8 (nbS l m).length (mbCells (nbS l m))
theorem nb_out1 {w w' : World} {M : TypeId} {l : List Mb} {m : Mb} {v8 : Value} (h : l.length = 1) (hO : Owns w' w.heap.size M 33 v8 [m].length (mbCells [m])) : NbP w M l m (.tuple #[.agg (mbArr nMb), v8]) w' :=
  ⟨v8, by rw [(nb_1 h).1], by rw [(nb_1 h).2]; exact hO⟩
theorem nb_outn {w w' : World} {M : TypeId} {l : List Mb} {m : Mb} {v8 : Value} (h : ¬ l.length = 1) (hO : Owns w' w.heap.size M 33 v8 (folL l m (min (l.length - 1) 4)).length (mbCells (folL l m (min (l.length - 1) 4)))) : NbP w M l m (.tuple #[.agg (mbArr (befL l m)), v8]) w' :=
  ⟨v8, by rw [(nb_n h).1], by rw [(nb_n h).2]; exact hO⟩
def tup1 (v : Value) : Value := match v with | .tuple a => a.getD 1 undef | _ => undef
def stQ (L : List N3) (k : Nat) : Bool := !decide ((L.getD k z3).1.pr = nbP (memL L) (L.getD k z3).1.me) || !decide ((L.getD k z3).1.sc = nbS (memL L) (L.getD k z3).1.me)
theorem st_q0 {L : List N3} {k : Nat} (h : decide ((L.getD k z3).1.pr = nbP (memL L) (L.getD k z3).1.me) = false) : stQ L k = true := by unfold stQ; rw [h]; rfl
theorem st_q1 {L : List N3} {k : Nat} (h : decide ((L.getD k z3).1.pr = nbP (memL L) (L.getD k z3).1.me) = true) : stQ L k = !decide ((L.getD k z3).1.sc = nbS (memL L) (L.getD k z3).1.me) := by unfold stQ; rw [h]; rfl
theorem st_one {L : List N3} {k : Nat} (h : L.length = 1) : stQ L k = !oneB (L.getD k z3).1 := by
  have hm : (memL L).length = 1 := by rw [List.length_map]; exact h
  unfold stQ oneB
  rw [(nb_1 hm).1, (nb_1 hm).2, Bool.not_and]
  congr 2
  rw [Bool.eq_iff_iff]
  simp only [decide_eq_true_eq, Bool.and_eq_true]
  constructor
  · intro e; rw [e]; exact ⟨rfl, rfl⟩
  · rintro ⟨h1, h2⟩
    match hs : (L.getD k z3).1.sc, h1 with
    | [x], _ => rw [hs] at h2; rw [show x = _ from h2]
theorem st_many {L : List N3} {k : Nat} (h : ¬ L.length = 1) : stQ L k = !stbB L k := by
  have hm : ¬ (memL L).length = 1 := by rw [List.length_map]; exact h
  unfold stQ stbB
  rw [(nb_n hm).1, (nb_n hm).2, Bool.not_and, List.length_map]
theorem sa_left {L : List N3} {d : Nat} (h : ovR L = true) (hd : d < L.length) (hq : stQ L d = true) : stabO L = false := by
  by_cases h1 : L.length = 1
  · rw [so_one h hd h1]; rw [st_one h1] at hq; simpa using hq
  · refine so_left h1 hd ?_; rw [st_many h1] at hq; simpa using hq
theorem sa_done {L : List N3} (h : ovR L = true) (hq : ∀ j, j < L.length → stQ L j = false) : stabO L = true := by
  by_cases h1 : L.length = 1
  · have h2 := hq 0 (by omega)
    rw [so_one h (k := 0) (by omega) h1]; rw [st_one h1] at h2; simpa using h2
  · refine so_done h h1 (Nat.le_refl _) fun j hj => ?_
    have h2 := hq j hj
    rw [st_many h1] at h2; simpa using h2
theorem n3_at9 (L : List N3) (j i : Nat) (hj : j < L.length) (hi : i < 68) : (n3Cells L)[j * 68 + i]? = (n3L (L.getD j z3))[i]? := by
  have h1 := congrArg (fun a : Array Value => a[i]?) (n3_el L j hj)
  simp only [List.getElem?_toArray] at h1
  rw [List.getElem?_take_of_lt hi, List.getElem?_drop] at h1
  rw [h1]; simp [ndArr, n3L]
theorem n3_v66 (L : List N3) (j : Nat) (hj : j < L.length) : (n3Cells L)[j * 68 + 66]? = some (L.getD j z3).2.1 := by rw [n3_at9 L j 66 hj (by decide)]; exact ndL_66 _ _ _ _ 0
theorem n3_v67 (L : List N3) (j : Nat) (hj : j < L.length) : (n3Cells L)[j * 68 + 67]? = some (L.getD j z3).2.2 := by rw [n3_at9 L j 67 hj (by decide)]; exact ndL_66 _ _ _ _ 1
end Go.Proofs.YtndbijifgalpbaaGreat

namespace Go.Proofs.YtndbijifgalpbaaGreat
open Go.RowKit
/-! ### an own row of nodes, changed in place -/
theorem gd_set {K : List N3} {j : Nat} (hj : j < K.length) (x : N3) : (K.set j x).getD j z3 = x := by
  rw [← n3D (by rw [List.length_set]; exact hj)]; exact List.getElem_set_self _
theorem gd_ne {K : List N3} {i j : Nat} (h : i ≠ j) (x : N3) : (K.set j x).getD i z3 = K.getD i z3 := by
  rw [List.getD_eq_getElem?_getD, List.getD_eq_getElem?_getD, List.getElem?_set_ne (fun e => h e.symm)]
theorem set_take9 {K : List N3} {j : Nat} (hj : j < K.length) (x : N3) : (K.set j x).take (j + 1) = K.take j ++ [x] := by
  rw [n3_take (by rw [List.length_set]; exact hj), gd_set hj, List.take_set_of_le (Nat.le_refl _)]
theorem n3_split {K : List N3} {j : Nat} (hj : j < K.length) : n3Cells K = n3Cells (K.take j) ++ (n3L (K.getD j z3) ++ n3Cells (K.drop (j + 1))) := by
  conv => lhs; rw [← List.take_append_drop j K, List.drop_eq_getElem_cons hj, n3D hj]
  rw [n3Cells_app]; rfl
theorem n3_setE {K : List N3} {j : Nat} (hj : j < K.length) (x : N3) : n3Cells (K.set j x) = n3Cells (K.take j) ++ (n3L x ++ n3Cells (K.drop (j + 1))) := by
  rw [List.set_eq_take_append_cons_drop, if_pos hj, n3Cells_app]; rfl
theorem n3_tlen {K : List N3} {j : Nat} (hj : j < K.length) : (n3Cells (K.take j)).length = j * 68 := by rw [n3Cells_len, List.length_take, Nat.min_eq_left (by omega)]
theorem n3_part {K : List N3} {j off : Nat} (hj : j < K.length) (D : List Value) (h : off + D.length ≤ 68) :
    (n3Cells K).take (j * 68 + off) ++ D ++ (n3Cells K).drop (j * 68 + off + D.length) = n3Cells (K.take j) ++ ((n3L (K.getD j z3)).take off ++ D ++ (n3L (K.getD j z3)).drop (off + D.length) ++ n3Cells (K.drop (j + 1))) := by
  rw [n3_split hj]
  obtain ⟨a, ha⟩ : ∃ a, a = n3Cells (K.take j) := ⟨_, rfl⟩
  obtain ⟨c, hc⟩ : ∃ c, c = n3Cells (K.drop (j + 1)) := ⟨_, rfl⟩
  have hl : a.length = j * 68 := by rw [ha]; exact n3_tlen hj
  have hn : (n3L (K.getD j z3)).length = 68 := n3L_len _
  rw [← ha, ← hc]
  rw [show j * 68 + off = a.length + off by omega, List.take_length_add_append, List.take_append_of_le_length (by omega), show a.length + off + D.length = a.length + (off + D.length) by omega, List.drop_length_add_append, List.drop_append_of_le_length (by omega)]
  simp only [List.append_assoc]
theorem n3_set {K : List N3} {j : Nat} (hj : j < K.length) (x : N3) : (n3Cells K).take (j * 68) ++ (ndArr x.1.me x.1.pr x.2.1 x.2.2).toList ++ (n3Cells K).drop (j * 68 + 68) = n3Cells (K.set j x) := by
  have hl : (ndArr x.1.me x.1.pr x.2.1 x.2.2).toList.length = 68 := by rw [Array.length_toList]; exact ndArr_size _ _ _ _
  have h := n3_part hj (off := 0) (ndArr x.1.me x.1.pr x.2.1 x.2.2).toList (by omega)
  rw [hl] at h
  rw [show j * 68 + 0 = j * 68 from rfl] at h
  rw [h, n3_setE hj]
  have hn : (n3L (K.getD j z3)).length = 68 := n3L_len _
  rw [List.take_zero, List.nil_append, List.drop_of_length_le (by omega), List.append_nil]
  rfl
theorem nl_66 (m p : Mb) (u v V : Value) : (ndL m p u v).set 66 V = ndL m p V v := by
  have := congrArg Array.toList (nd_set66 m p u v V)
  rwa [Array.toList_setIfInBounds] at this
theorem nl_67 (m p : Mb) (u v V : Value) : (ndL m p u v).set 67 V = ndL m p u V := by
  have := congrArg Array.toList (nd_set67 m p u v V)
  rwa [Array.toList_setIfInBounds] at this
theorem n3_set1 {K : List N3} {j off : Nat} (hj : j < K.length) (ho : off < 68) {V : Value} {x : N3} (h : (n3L (K.getD j z3)).set off V = n3L x) : (n3Cells K).set (j * 68 + off) V = n3Cells (K.set j x) := by
  rw [n3_setE hj, ← h, n3_split hj, List.set_append_right _ _ (by rw [n3_tlen hj]; omega), n3_tlen hj, Nat.add_sub_cancel_left, List.set_append_left _ _ (by rw [n3L_len]; exact ho)]
theorem n3_set66 {K : List N3} {j : Nat} (hj : j < K.length) (V : Value) (l : List Mb) : (n3Cells K).set (j * 68 + 66) V = n3Cells (K.set j (⟨(K.getD j z3).1.me, (K.getD j z3).1.pr, l, (K.getD j z3).1.fg⟩, V, (K.getD j z3).2.2)) := n3_set1 hj (by decide) (nl_66 _ _ _ _ _)
theorem n3_set67 {K : List N3} {j : Nat} (hj : j < K.length) (V : Value) (l : List Mb) : (n3Cells K).set (j * 68 + 67) V = n3Cells (K.set j (⟨(K.getD j z3).1.me, (K.getD j z3).1.pr, (K.getD j z3).1.sc, l⟩, (K.getD j z3).2.1, V)) := n3_set1 hj (by decide) (nl_67 _ _ _ _ _)
theorem n3Cells_ones {L : List N3} {w : World} (h : ∀ x ∈ L, RdN w x) : ∀ u ∈ n3Cells L, u.oneCell' = true := fun u hu => by
  unfold n3Cells at hu
  obtain ⟨x, hx, hu⟩ := List.mem_flatMap.1 hu
  exact ndArr_ones (h x hx).ones.1 (h x hx).ones.2 u hu
theorem clone_nilN {w : World} {a : Option Addr} {n c : Nat} {L : List N3} (ha : a.isNone = true) (h : RdZ w (.slice a n c) 68 L.length (n3Cells L)) : L = [] := by
  cases a with
  | some p => cases ha
  | none =>
    rcases h.2 with ⟨_, h2⟩ | ⟨p, cap, h1, _⟩
    · exact List.eq_nil_of_length_eq_zero h2
    · cases h1
/-- an overlay whose rows are the call's own -/
def CpP (w : World) (N : TypeId) (E : List Nd) : Asrt := fun v w9 => ∃ vq K ks, v = .agg #[vq] ∧ nds K = E ∧ St w [.sl vq N 68 K.length (n3Cells K), .grp ks (RwL K)] w9
/-- what stands at i, ahead of all others -/
theorem St.bring {w0 w : World} {B : List Own} {p : Own} (s : St w0 B w) (i : Nat) (hi : B[i]? = some p) : St w0 (p :: B.eraseIdx i) w := s.perm (perm_front hi)
theorem nds_set {K : List N3} {E : List Nd} {j : Nat} {x : N3} (h : nds K = E) (hx : x.1 = (K.getD j z3).1) (hj : j < K.length) : nds (K.set j x) = E := by
  subst h
  apply List.ext_getElem?
  intro i
  unfold nds
  rw [List.getElem?_map, List.getElem?_map, List.getElem?_set]
  by_cases e : j = i
  · subst e; rw [if_pos rfl, if_pos hj, List.getElem?_eq_getElem hj, n3D hj, Option.map_some, Option.map_some, hx]
  · rw [if_neg e]
theorem rw_take {K : List N3} {j : Nat} {x : N3} (hj : j < K.length) {w9 : World} (h : RwL (K.take j) w9) (hx : RdN w9 x) : RwL ((K.set j x).take (j + 1)) w9 := fun y hy => by
  rw [set_take9 hj] at hy
  rcases List.mem_append.1 hy with hy | hy
  · exact h y hy
  · rw [List.mem_singleton] at hy; subst hy; exact hx
theorem set_set9 (K : List N3) (j : Nat) (x y : N3) : (K.set j x).set j y = K.set j y := List.set_set _ 
end Go.Proofs.YtndbijifgalpbaaGreat

namespace Go.Proofs.YtndbijifgalpbaaGreat
open Go.RowKit Go.Sort
/-! ### an own slice of nodes, sorted in place -/
def No3 : Type := { x : N3 // x.2.1.oneCell' = true ∧ x.2.2.oneCell' = true }
instance : Inhabited No3 := ⟨⟨z3, rfl, rfl⟩⟩
/-! ### one more, in its place -/
theorem pw_nds {K L : List N3} (h : nds K = nds L) (hL : L.Pairwise fun a b => a.1.me.1 < b.1.me.1) : K.Pairwise fun a b => a.1.me.1 < b.1.me.1 := by
  have h1 : (nds L).Pairwise fun a b => a.me.1 < b.me.1 := by unfold nds; rw [List.pairwise_map]; exact hL
  rw [← h] at h1
  unfold nds at h1
  rw [List.pairwise_map] at h1; exact h1
theorem mem_nds {K L : List N3} (h : nds K = nds L) {P : Nd → Prop} (hL : ∀ y ∈ L, P y.1) : ∀ y ∈ K, P y.1 := fun y hy => by
  have : y.1 ∈ nds L := by rw [← h]; exact List.mem_map.2 ⟨y, hy, rfl⟩
  obtain ⟨z, hz, e⟩ := List.mem_map.1 this
  rw [← e]; exact hL z hz
/-! ### who lives, as a set -/
/-! ### an overlay opened: copied, with a pointer to one node -/
theorem ix_nds {K L : List N3} (h : nds K = nds L) (no : Int) : ixL K no = ixL L no := by
  have e : ∀ M : List N3, ixL M no = (nds M).findIdx fun n => decide (n.me.1 = no) := fun M => by
    unfold ixL nds
    rw [List.findIdx_map]; rfl
  rw [e K, e L, h]
theorem len_nds {K L : List N3} (h : nds K = nds L) : K.length = L.length := by have h9 := congrArg List.length h; simpa [nds] using h9
theorem gd_nds {K L : List N3} (h : nds K = nds L) {j : Nat} (hj : j < L.length) : (K.getD j z3).1 = (L.getD j z3).1 := by
  have hl := len_nds h
  have h9 := congrArg (fun E : List Nd => E[j]?) h
  simp only [nds, List.getElem?_map] at h9
  rw [List.getElem?_eq_getElem (by omega), List.getElem?_eq_getElem hj] at h9
  simp only [Option.map_some, Option.some.injEq] at h9
  rw [← n3D hj, ← n3D (by omega)]; exact h9
def OpE (w : World) (N : TypeId) (L : List N3) (no : Int) : Asrt := fun v w9 =>
  (∃ k, cE L no = k ∧ k ≠ 0 ∧ v = .tuple #[.agg #[nilV], .pointer none, .int .i64 k]) ∨
  (cE L no = 0 ∧ ∃ vq K ks, v = .tuple #[.agg #[vq], .pointer (some (elAddr vq (ixL L no * 68))), .int .i64 0] ∧ nds K = nds L ∧ St w [.sl vq N 68 K.length (n3Cells K), .grp ks (RwL K)] w9)
theorem OpE.n {w w9 : World} {N : TypeId} {L : List N3} {no k : Int} {v : Value} (h : OpE w N L no v w9) (hk : cE L no = k) (h0 : k ≠ 0) : v = .tuple #[.agg #[nilV], .pointer none, .int .i64 k] := by
  rcases h with ⟨q, h1, _, h3⟩ | ⟨h1, _⟩
  · rw [h3, ← h1, hk]
  · exact absurd (hk.symm.trans h1) h0
theorem OpE.y {w w9 : World} {N : TypeId} {L : List N3} {no : Int} {v : Value} (h : OpE w N L no v w9) (hk : cE L no = 0) : ∃ vq K ks, v = .tuple #[.agg #[vq], .pointer (some (elAddr vq (ixL L no * 68))), .int .i64 0] ∧ nds K = nds L ∧ St w [.sl vq N 68 K.length (n3Cells K), .grp ks (RwL K)] w9 := by
  rcases h with ⟨q, h1, h2, _⟩ | ⟨_, h3⟩
  · exact absurd (h1.symm.trans hk) h2
  · exact h3
theorem RS.nds {K L : List N3} (h : RS L) (e : nds K = nds L) : RS K :=
  ⟨fun y hy => mem_nds e (P := RN) h.rn y hy, pw_nds e h.inc, by have : memL K = memL L := by rw [← mems_nd, ← mems_nd, e]
                                                                 rw [this]; exact h.ring⟩
theorem rw_set9 {K : List N3} {j : Nat} {x : N3} {w9 : World} (h : RwL K w9) (hx : RdN w9 x) : RwL (K.set j x) w9 := fun y hy => by
  rcases List.mem_or_eq_of_mem_set hy with hy | rfl
  · exact h y hy
  · exact hx
/-! ### one node of them, changed -/
theorem set_put {K : List N3} (h : RS K) {j : Nat} (hj : j < K.length) {x : N3} (he : (K.getD j z3).1.me = x.1.me) (hx : RN x.1) : K.set j x = putL K x ∧ RS (K.set j x) ∧ memL (K.set j x) = memL K := by
  have hp := h.inc
  have hsp : K = K.take j ++ K.getD j z3 :: K.drop (j + 1) := by
    conv => lhs; rw [← List.take_append_drop j K, List.drop_eq_getElem_cons hj, n3D hj]
  rw [hsp] at hp
  have h1 := List.pairwise_append.1 hp
  have h2 := List.pairwise_cons.1 h1.2.1
  have hno : (K.getD j z3).1.me.1 = x.1.me.1 := by rw [he]
  have e : K.set j x = putL K x := by
    rw [List.set_eq_take_append_cons_drop, if_pos hj]
    conv => rhs; rw [hsp]
    exact (put_mid (x := x) (fun z hz => by rw [← hno]; exact h1.2.2 z hz _ List.mem_cons_self) hno (fun z hz => by rw [← hno]; exact h2.1 z hz)).symm
  obtain ⟨q1, q2, _⟩ := h.put (x := x) (n3_mem hj) he hx
  rw [e]; exact ⟨rfl, q1, q2⟩
theorem first_in {K : List N3} (h : RS K) {no : Int} (hl : livesB (memL K) no = true) : ixL K no < K.length ∧ K.getD (ixL K no) z3 = getL K no ∧ getL K no ∈ K := by
  have h1 : ixL K no < K.length := of_decide_eq_true ((ix_lives h.nos).trans hl)
  have h2 := (ix_get h1).1
  exact ⟨h1, h2, by rw [← h2]; exact n3_mem h1⟩
/-! those that go, in place -/
end Go.Proofs.YtndbijifgalpbaaGreat

namespace Go.Proofs.YtndbijifgalpbaaGreat
open Go.RowKit
/-! ### one leaves: what Fail hands out is the call's own -/
def FlE (w : World) (N : TypeId) (L : List N3) (no : Int) : Asrt := fun v w9 =>
  (∃ k, cE L no = k ∧ k ≠ 0 ∧ v = .tuple #[.agg #[nilV], .int .i64 k]) ∨
  (cE L no = 0 ∧ ∃ vq K ks, v = .tuple #[.agg #[vq], .int .i64 0] ∧ nds K = wosN (nds L) no ∧ St w [.sl vq N 68 K.length (n3Cells K), .grp ks (RwL K)] w9)
theorem FlE.n {w w9 : World} {N : TypeId} {L : List N3} {no k : Int} {v : Value} (h : FlE w N L no v w9) (hk : cE L no = k) (h0 : k ≠ 0) : v = .tuple #[.agg #[nilV], .int .i64 k] := by
  rcases h with ⟨q, h1, _, h3⟩ | ⟨h1, _⟩
  · rw [h3, ← h1, hk]
  · exact absurd (hk.symm.trans h1) h0
theorem FlE.y {w w9 : World} {N : TypeId} {L : List N3} {no : Int} {v : Value} (h : FlE w N L no v w9) (hk : cE L no = 0) : ∃ vq K ks, v = .tuple #[.agg #[vq], .int .i64 0] ∧ nds K = wosN (nds L) no ∧ St w [.sl vq N 68 K.length (n3Cells K), .grp ks (RwL K)] w9 := by
  rcases h with ⟨q, h1, h2, _⟩ | ⟨_, h3⟩
  · exact absurd (h1.symm.trans hk) h2
  · exact h3
theorem FlE.any {w w9 : World} {N : TypeId} {L : List N3} {vo : Value} {no : Int} {v : Value} (h : FlE w N L no v w9) (e : Ext w w9) : OvE w (RdL vo L) (cfN L no) (cE L no) v w9 := by
  rcases h with ⟨k, h1, h2, rfl⟩ | ⟨h1, vq, K, ks, rfl, hk, s⟩
  · exact ovE_no ((St.start w).more e) (cf_no h1 h2) h1
  · exact ovE_ok h1 (ovP_2 (by rw [cf_ok h1, hk]) s)
/-! ### part -/
/-! ### the first d told -/
theorem pt_fin {K L : List N3} {no to : Int} {u v : Value} (h : RS L) (hr : ovR L = true) (l0 : livesB (memL L) no = true) (l1 : livesB (memL L) to = true) (hk : nds K = nds L) :
    ptE (K.getD (ixL L no) z3).1 (K.getD (ixL L to) z3).1.me = cpE L no to ∧ (cpE L no to = 0 → nds (K.set (ixL L no) ((ptN (K.getD (ixL L no) z3).1 (K.getD (ixL L to) z3).1.me, u, v) : N3)) = cpN L no to) := by
  obtain ⟨i0, g0, _⟩ := first_in h l0
  obtain ⟨i1, g1, _⟩ := first_in h l1
  have e0 : (K.getD (ixL L no) z3).1 = (getL L no).1 := by rw [gd_nds hk i0, g0]
  have e1 : (K.getD (ixL L to) z3).1 = (getL L to).1 := by rw [gd_nds hk i1, g1]
  have hE : ptE (K.getD (ixL L no) z3).1 (K.getD (ixL L to) z3).1.me = cpE L no to := by rw [e0, e1, cp_e hr l0 l1]
  refine ⟨hE, fun hz => ?_⟩
  have hp := pt_stay (hE.trans hz)
  have hkl : ixL L no < K.length := by rw [len_nds hk]; exact i0
  have h2 := (set_put (h.nds hk) hkl (x := ((ptN (K.getD (ixL L no) z3).1 (K.getD (ixL L to) z3).1.me, u, v) : N3)) hp.2.symm hp.1).1
  rw [h2, put_nd, cp_ok hz, hk]
  show putN (Go.Proofs.YtndbijifgalpbaaGreat.nds L) (ptN (K.getD (ixL L no) z3).1 (K.getD (ixL L to) z3).1.me) = _
  rw [e0, e1]
end Go.Proofs.YtndbijifgalpbaaGreat
