/- What a server answers, whom a walk asks and where it ends; in an overlay that is stable it ends with the one that it belongs to; maps of numbers to values; regions that draw their order, with something said beside a value; no Go in it. -/
import Derived.Test.YtcnnlakcpcofkaaDoorOw
set_option linter.unusedVariables false
set_option linter.unusedSimpArgs false
set_option linter.unusedSectionVars false
namespace Go.Proofs.YtcnnlakcpcofkaaDoor
open Go.RowKit
/-! ### what a server answers for an identifier, having dropped who does not live -/
def anO (l : List Mb) (n : Nd) (x : Id) : Bool := !decide ((td1 l n).pr = nMb) && inB x (td1 l n).pr.2 (td1 l n).me.2
def anM (l : List Mb) (n : Nd) (x : Id) : Mb := bif anO l n x then n.me else nxM (td1 l n) x
/-! ### a walk: whom it asks, where it ends -/
def nowK (L : List N3) (x : Id) (no : Int) : Nat → Int
  | 0 => no
  | k + 1 => (anM (memL L) (getL L (nowK L x no k)).1 x).1
/-! ### what is told from outside -/
end Go.Proofs.YtcnnlakcpcofkaaDoor

namespace Go.Proofs.YtcnnlakcpcofkaaDoor
open Go.RowKit
/-! ### of an overlay that is stable -/
/-! ### the way there -/
end Go.Proofs.YtcnnlakcpcofkaaDoor

namespace Go.Proofs.YtcnnlakcpcofkaaDoor
open Go.RowKit
/-! ### the reference's answer of a walk, as a row of cells -/
section
variable {P : Program} {ρ : Operand → Value} {d : Option Tmp} {ty : TypeId} {pos : String} {af : Array Edge} {g : Option (Nat × Bool)} {x y z : Operand} {t : TypeId}
end
/-! ### what walks and keepers come to, in memory -/
abbrev intC (l : List Int) : List Value := l.map (Value.int .i64)
/-! one that is alone finds itself -/
/-! with more hops -/
end Go.Proofs.YtcnnlakcpcofkaaDoor

namespace Go.Proofs.YtcnnlakcpcofkaaDoor
open Go.RowKit
/-! ### maps of numbers to values, as rows of keys and values -/
section
variable {P : Program} {ops : Array Oper} {Q : Act → World → Prop} {K : Act → World → Prop} {l : List Oper} {a : Act} {w w0 : World} {N : Nat} {L : List (Nat × Value)} {Df : List Deferred} {B : List Own} {d : Tmp} {ty : TypeId} {pos : String} {af : Array Edge} {x y z : Operand} {t kt et : TypeId}
end
/-! members by their numbers -/
/-! whom a walk finds lives, and so does each that is asked -/
/-! the way in one that is stable -/
end Go.Proofs.YtcnnlakcpcofkaaDoor

namespace Go.Proofs.YtcnnlakcpcofkaaDoor
open Go.RowKit
/-! ### the law of resources, each operation with something said beside its value (what a call hands out, and no value tells) -/
section
variable {P : Program} {ro : Option Nat} {ops : List Oper} {cls cons : List (List Nat)} {a0 : Act} {Q : Exit → Act → World → Prop} {w0 w1 : World} {γ : Type} [Inhabited γ]
def mskG (l : List Nat) (val : Nat → Value × γ) : Nat → Value × γ := fun j => bif l.any (Nat.beq j) then val j else (undef, default)
def upvG (val : Nat → Value × γ) (i : Nat) (v : Value × γ) : Nat → Value × γ := fun j => bif Nat.beq j i then v else val j
theorem mskG_congr {l : List Nat} {val val' : Nat → Value × γ} (h : ∀ j ∈ l, val j = val' j) : mskG l val = mskG l val' := by
  funext j
  unfold mskG
  cases hb : l.any (Nat.beq j) with
  | false => rfl
  | true =>
    obtain ⟨x, hx, he⟩ := List.any_eq_true.1 hb
    obtain rfl : j = x := by simpa using he
    exact h j hx
theorem upvG_same (val : Nat → Value × γ) (i : Nat) (v : Value × γ) : upvG val i v i = v := by unfold upvG; rw [show Nat.beq i i = true by simp]; rfl
theorem upvG_other (val : Nat → Value × γ) {i j : Nat} (v : Value × γ) (h : j ≠ i) : upvG val i v j = val j := by
  unfold upvG
  cases hb : Nat.beq j i with
  | false => rfl
  | true => exact absurd (by simpa using hb) h
abbrev ResG (γ : Type) := (Nat → Value × γ) → List Own
abbrev FctG (γ : Type) := (Nat → Value × γ) → Prop
/-- the memory of operation j, or of what was there ahead -/
def resG (ops : List Oper) (cls : List (List Nat)) (Rs : List (ResG γ)) (I0 : List (List Own)) (val : Nat → Value × γ) (j : Nat) : List Own :=
  bif Nat.blt j ops.length then (Rs.getD j fun _ => []) (mskG (j :: cls.getD j []) val) else I0.getD (j - ops.length) []
def fctG (cls : List (List Nat)) (Fs : List (FctG γ)) (val : Nat → Value × γ) (j : Nat) : Prop := (Fs.getD j fun _ => True) (mskG (j :: cls.getD j []) val)
def slotG (ops : List Oper) (cl : List Nat) (a0 a : Act) (val : Nat → Value × γ) (t : Tmp) : Prop :=
  match writer ops cl t with
  | some j => a.tmps.getD t undef = (val j).1
  | none => a.tmps.getD t undef = a0.tmps.getD t undef
/-- one operation's duty -/
def ObG (P : Program) (ops : List Oper) (cls cons : List (List Nat)) (Rs : List (ResG γ)) (I0 : List (List Own)) (Fs : List (FctG γ)) (Bs : List Own) (w0 : World) (a0 : Act) (i : Nat) (o : Oper) : Prop :=
  ∀ (a : Act) (w : World) (val : Nat → Value × γ) (E : List Own), a.tmps.size = a0.tmps.size → a.defers = a0.defers →
    (∀ t ∈ o.looksAt ops.toArray, slotG ops (cls.getD i []) a0 a val t) →
    (∀ j ∈ cls.getD i [], fctG cls Fs val j) → St w0 ((cons.getD i []).flatMap (resG ops cls Rs I0 val) ++ (Bs ++ E)) w →
    Lst P ops.toArray (fun a' w' => ∃ v : Value × γ, (∀ d, o.dst = some d → a'.tmps.getD d undef = v.1) ∧ fctG cls Fs (upvG val i v) i ∧ St w0 (resG ops cls Rs I0 (upvG val i v) i ++ (Bs ++ E)) w') [o] a w
structure JG (ops : List Oper) (cls cons : List (List Nat)) (q : Nat) (Rs : List (ResG γ)) (I0 : List (List Own)) (Fs : List (FctG γ)) (Bs : List Own) (w0 : World) (a0 : Act) (m : Nat) (listed : Array Bool) (a : Act) (w : World) (val : Nat → Value × γ) : Prop where
  size : a.tmps.size = a0.tmps.size
  defers : a.defers = a0.defers
  lsize : listed.size = ops.length
  tail : ∀ i, m ≤ i → listed.getD i false = false
  done : ∀ i d, dstOf ops i = some d → listed.getD i false = true → a.tmps.getD d undef = (val i).1
  rest : ∀ t, (∀ j, dstOf ops j = some t → listed.getD j false = false) → a.tmps.getD t undef = a0.tmps.getD t undef
  closed : ∀ i, listed.getD i false = true → ∀ j ∈ cls.getD i [], listed.getD j false = true
  facts : ∀ i, listed.getD i false = true → fctG cls Fs val i
  st : St w0 (((List.range (ops.length + q)).filter (liveC ops cons fun j => listed.getD j false)).flatMap (resG ops cls Rs I0 val) ++ Bs) w
theorem wp_regionG {q rid m : Nat} {Rs : List (ResG γ)} {I0 : List (List Own)} {Fs : List (FctG γ)} {Bs : List Own} (hm : P.follows .mixedOrders = true) (hok : okRegC ops cls cons q a0.tmps.size = true) (hsel : Region.noSelect ops.toArray = true)
    (hml : m ≤ ops.length) (hT : ∀ i, m ≤ i → i < ops.length → ∀ j, j < i → j ∈ cls.getD i [])
    (hob : ∀ i o, i < m → ops[i]? = some o → ObG P ops cls cons Rs I0 Fs Bs w0 a0 i o)
    (s : St w0 (((List.range (ops.length + q)).filter (liveC ops cons fun _ => false)).flatMap (resG ops cls Rs I0 fun _ => (undef, default)) ++ Bs) w1)
    (hfin : ∀ (b : Act) (w : World) (val : Nat → Value × γ), b.tmps.size = a0.tmps.size → b.defers = a0.defers → (∀ i d, i < m → dstOf ops i = some d → b.tmps.getD d undef = (val i).1) → (∀ t, (∀ i, i < m → dstOf ops i ≠ some t) → b.tmps.getD t undef = a0.tmps.getD t undef) →
      (∀ i, i < m → fctG cls Fs val i) → St w0 (((List.range (ops.length + q)).filter (liveC ops cons fun j => Nat.blt j m)).flatMap (resG ops cls Rs I0 val) ++ Bs) w → Lst P ops.toArray (Q .normal) (ops.drop m) b w) :
    (Code.region rid ops.toArray true).wpIn (FR ro) 0 P Q a0 w1 := by
  refine wpIn_region_any hm ?_
  have hend : ∀ (listed : Array Bool) (a : Act) (w : World) (val : Nat → Value × γ), JG ops cls cons q Rs I0 Fs Bs w0 a0 m listed a w val → (∀ i, i < m → listed.getD i false = true) → ∀ fuel, ops.length = m + fuel → wpAnyIn (FR ro) 0 P .any ops.toArray Q fuel listed a w := by
    intro listed a w val I hall fuel hfu
    refine wpAny_tailC hok hT fuel m listed a w hfu (Nat.le_refl _) I.lsize hall I.tail ?_
    have hfd : fuel = (ops.drop m).length := by rw [List.length_drop]; omega
    rw [hfd, wpOpsIn_eq_wpListIn (ops.drop m) m (fun j => by rw [List.getElem?_toArray, List.getElem?_drop])]
    refine Lst.wp ?_
    refine hfin a w val I.size I.defers (fun i d hi hd => I.done i d hd (hall i hi)) (fun t ht => I.rest t fun j hj => ?_) (fun i hi => I.facts i (hall i hi)) ?_
    · rcases Nat.lt_or_ge j m with h | h
      · exact absurd hj (ht j h)
      · exact I.tail j h
    have hfun : (fun j => listed.getD j false) = fun j => Nat.blt j m := by
      funext j
      rcases Nat.lt_or_ge j m with h | h
      · rw [hall j h]; exact (blt_t h).symm
      · rw [blt_f h]; exact I.tail j h
    have h9 := I.st
    rw [hfun] at h9
    exact h9
  have hcount : ∀ (fuel : Nat) (listed : Array Bool) (a : Act) (w : World) (val : Nat → Value × γ), listed.toList.count false = fuel → JG ops cls cons q Rs I0 Fs Bs w0 a0 m listed a w val → wpAnyIn (FR ro) 0 P .any ops.toArray Q fuel listed a w := by
    intro fuel
    induction fuel with
    | zero =>
      intro listed a w val hc I
      have hall : ∀ i, i < ops.length → listed.getD i false = true := fun i hi => count_zero hc i (by rw [I.lsize]; exact hi)
      refine hend listed a w val I (fun i hi => hall i (by omega)) 0 ?_
      rcases Nat.lt_or_ge m ops.length with h | h
      · have := I.tail m (Nat.le_refl _)
        rw [hall m h] at this; cases this
      · omega
    | succ fuel ih =>
      intro listed a w val hc I
      by_cases hall : ∀ i, i < m → listed.getD i false = true
      · refine hend listed a w val I hall (fuel + 1) ?_
        have key : ∀ (b : List Bool) (m : Nat), m ≤ b.length → (∀ i, i < m → b[i]? = some true) → (∀ i, m ≤ i → i < b.length → b[i]? = some false) → b.count false = b.length - m := by
          intro b
          induction b with
          | nil => intro m _ _ _; simp
          | cons x b ihb =>
            intro m hm h1 h2
            cases m with
            | zero =>
              have hx : x = false := by simpa using h2 0 (Nat.le_refl _) (by simp)
              have := ihb 0 (Nat.zero_le _) (fun i hi => by omega) (fun i _ hi => by simpa using h2 (i + 1) (Nat.zero_le _) (by simp; omega))
              subst hx; simp [this]
            | succ m =>
              have hx : x = true := by simpa using h1 0 (by omega)
              have := ihb m (by simpa using hm) (fun i hi => by simpa using h1 (i + 1) (by omega)) (fun i hi hi2 => by simpa using h2 (i + 1) (by omega) (by simp; omega))
              subst hx; simp [this]
        have hk := key listed.toList m (by simp [I.lsize]; omega)
          (fun i hi => by have := hall i hi; have hil : i < listed.size := by rw [I.lsize]; omega
                          simp [hil] at this ⊢; exact this)
          (fun i hi hi2 => by have := I.tail i hi; have hil : i < listed.size := by simpa using hi2
                              simp [hil] at this ⊢; exact this)
        rw [hc] at hk
        simp [I.lsize] at hk
        omega
      refine ⟨fun hr => absurd (fun i hi => readyC_nil hok I.lsize hr i (by omega)) hall, fun k hk => ?_⟩
      obtain ⟨o, ho, hf, hdir⟩ := ready_direct hk
      have hkl := (List.getElem?_eq_some_iff.1 ho).1
      have hks : k < listed.size := by rw [I.lsize]; exact hkl
      have hkm : k < m := by
        rcases Nat.lt_or_ge k m with h3 | h3
        · exact h3
        · exfalso
          apply hall
          intro j hj
          rcases (okC_direct hok ho).2 j (hT k h3 hkl j (by omega)) with h4 | ⟨p, hp, h4⟩
          · exact hdir j h4
          · exact I.closed p (hdir p hp) j h4
      have hu := hf I.lsize
      have hcl : ∀ j ∈ cls.getD k [], listed.getD j false = true := fun j hj => by
        rcases (okC_direct hok ho).2 j hj with h1 | ⟨q, hq, h1⟩
        · exact hdir j h1
        · exact I.closed q (hdir q hq) j h1
      have hcnt : (listed.setIfInBounds k true).toList.count false = fuel := by have := count_set hks hu; omega
      have hnk : ∀ i, listed.getD i false = true → k ∉ cls.getD i [] := fun i hi hm => by have := I.closed i hi k hm; rw [hu] at this; cases this
      have hkk : k ∉ cls.getD k [] := fun hm => by have := clsC_lt hok k hkl k hm; omega
      obtain ⟨hcn, hcc⟩ := okC_cons hok ho
      -- what it uses up stands
      have hclive : ∀ j ∈ cons.getD k [], liveC ops cons (fun j => listed.getD j false) j = true := fun j hj => by
        obtain ⟨_, h2, h3⟩ := hcc j hj
        refine live_iff.2 ⟨h2.imp id (hcl j), fun i hi hl hm => ?_⟩
        rw [h3 i hi hm] at hl
        rw [hu] at hl; cases hl
      have hperm : ((List.range (ops.length + q)).filter (liveC ops cons fun j => listed.getD j false)).Perm (cons.getD k [] ++ (List.range (ops.length + q)).filter (fun j => liveC ops cons (fun j => listed.getD j false) j && !(cons.getD k []).contains j)) := by
        refine (List.perm_ext_iff_of_nodup (List.nodup_range.filter _) ?_).2 fun j => ?_
        · rw [List.nodup_append]
          refine ⟨hcn, List.nodup_range.filter _, fun x hx y hy e => ?_⟩
          subst e
          have := (Bool.and_eq_true _ _ ▸ (List.mem_filter.1 hy).2 : _ ∧ _).2
          exact not_has.1 this hx
        · rw [List.mem_append, List.mem_filter, List.mem_filter, List.mem_range, Bool.and_eq_true]
          constructor
          · rintro ⟨h1, h2⟩
            by_cases hj : j ∈ cons.getD k []
            · exact .inl hj
            · exact .inr ⟨h1, h2, not_has.2 hj⟩
          · rintro (h1 | ⟨h1, h2, _⟩)
            · exact ⟨(hcc j h1).1, hclive j h1⟩
            · exact ⟨h1, h2⟩
      obtain ⟨E, hE⟩ : ∃ E, E = ((List.range (ops.length + q)).filter (fun j => liveC ops cons (fun j => listed.getD j false) j && !(cons.getD k []).contains j)).flatMap (resG ops cls Rs I0 val) := ⟨_, rfl⟩
      have hst : St w0 ((cons.getD k []).flatMap (resG ops cls Rs I0 val) ++ (Bs ++ E)) w := by
        refine I.st.perm ?_
        refine ((hperm.flatMap_right _).append_right Bs).trans ?_
        rw [List.flatMap_append, ← hE, List.append_assoc]
        exact (List.perm_append_comm).append_left _
      have hslots : ∀ t ∈ o.looksAt ops.toArray, slotG ops (cls.getD k []) a0 a val t := fun t ht => by
        unfold slotG
        cases hw : writer ops (cls.getD k []) t with
        | some j =>
          obtain ⟨hmj, oj, hj, hdj⟩ := find_spec hw
          exact I.done j t (by rw [dst_of hj, hdj]) (hcl j hmj)
        | none =>
          refine I.rest t fun j hdj => ?_
          cases hb : listed.getD j false with
          | false => rfl
          | true =>
            rcases okC_look hok ho t ht j hdj with h | h
            · obtain ⟨oj, h1, h2⟩ := getD_lt hdj
              exact absurd h (find_none hw j oj h1 h2)
            · exact absurd h (hnk j hb)
      have hO := hob k o hkm ho a w val E I.size I.defers hslots (fun j hj => I.facts j (hcl j hj)) hst
      have hset := set_iff hks
      have step : ∀ (v : Value × γ) v' w', (∀ d, o.dst = some d → v' = v.1) → fctG cls Fs (upvG val k v) k → St w0 (resG ops cls Rs I0 (upvG val k v) k ++ (Bs ++ E)) w' → wpAnyIn (FR ro) 0 P .any ops.toArray Q fuel (listed.setIfInBounds k true) (a.put o.dst v') w' := fun v v' w' hv hF hS => by
        have hmk : ∀ i, listed.getD i false = true → mskG (i :: cls.getD i []) (upvG val k v) = mskG (i :: cls.getD i []) val := fun i hi => mskG_congr fun j hj => by
          refine upvG_other val v fun e => ?_
          subst e
          rcases List.mem_cons.1 hj with h | h
          · subst h; rw [hu] at hi; cases hi
          · exact hnk i hi h
        refine ih _ _ w' (upvG val k v) hcnt ⟨by rw [Act.tmps_put_size]; exact I.size, by cases o.dst <;> exact I.defers, by simp [I.lsize], fun i hi => (by have h8 := I.tail i hi; have h7 : k ≠ i := (by omega); simpa [Array.getElem?_setIfInBounds_ne h7] using h8), fun i d hd hl => ?_, fun t ht => ?_, fun i hi j hj => ?_, fun i hi => ?_, ?_⟩
        · obtain ⟨hds, huniq⟩ := okC_dst hok hd
          by_cases hik : i = k
          · subst hik
            have hdo : o.dst = some d := by rw [dst_of ho] at hd; exact hd
            rw [hdo, put_getD, if_pos ⟨rfl, by rw [I.size]; exact hds⟩, upvG_same]
            exact hv d hdo
          · have hne : o.dst ≠ some d := fun e => hik (huniq k (by rw [dst_of ho, e])).symm
            rw [upvG_other val v hik]
            have h9 := I.done i d hd (((hset i).1 hl).resolve_left hik)
            cases hdo : o.dst with
            | none => exact h9
            | some d2 => rw [put_getD, if_neg (fun h => hne (by rw [hdo, h.1]))]; exact h9
        · have h9 := I.rest t fun j hj => by
            have := ht j hj
            cases hb : listed.getD j false with
            | false => rfl
            | true => rw [(hset j).2 (.inr hb)] at this; cases this
          cases hdo : o.dst with
          | none => exact h9
          | some d2 =>
            rw [put_getD, if_neg]
            · exact h9
            · rintro ⟨e, _⟩
              subst e
              have := ht k (by rw [dst_of ho, hdo])
              rw [(hset k).2 (.inl rfl)] at this; cases this
        · rcases (hset i).1 hi with e | e
          · subst e; exact (hset j).2 (.inr (hcl j hj))
          · exact (hset j).2 (.inr (I.closed i e j hj))
        · rcases (hset i).1 hi with e | e
          · subst e; exact hF
          · unfold fctG
            rw [hmk i e]
            exact I.facts i e
        · -- what stands now
          have hlive : ∀ j, liveC ops cons (fun j => (listed.setIfInBounds k true).getD j false) j = true ↔ (j = k ∨ (liveC ops cons (fun j => listed.getD j false) j = true ∧ j ∉ cons.getD k [])) := fun j => by
            rw [live_iff, live_iff]
            constructor
            · rintro ⟨h1, h2⟩
              by_cases hjk : j = k
              · exact .inl hjk
              · refine .inr ⟨⟨h1.imp id fun h => ((hset j).1 h).resolve_left hjk, fun i hi hl => h2 i hi ((hset i).2 (.inr hl))⟩, h2 k hkl ((hset k).2 (.inl rfl))⟩
            · rintro (rfl | ⟨⟨h1, h2⟩, h3⟩)
              · refine ⟨.inr ((hset j).2 (.inl rfl)), fun i hi hl hm => ?_⟩
                have hio : ops[i]? = some ops[i] := by simp [hi]
                rcases ((okC_cons hok hio).2 j hm).2.1 with h | h
                · omega
                · rcases (hset i).1 hl with e | e
                  · subst e; exact hkk h
                  · exact hnk i e h
              · refine ⟨h1.imp id fun h => (hset j).2 (.inr h), fun i hi hl => ?_⟩
                rcases (hset i).1 hl with e | e
                · subst e; exact h3
                · exact h2 i hi e
          have hp2 : ((List.range (ops.length + q)).filter (liveC ops cons fun j => (listed.setIfInBounds k true).getD j false)).Perm (k :: (List.range (ops.length + q)).filter (fun j => liveC ops cons (fun j => listed.getD j false) j && !(cons.getD k []).contains j)) := by
            refine (List.perm_ext_iff_of_nodup (List.nodup_range.filter _) ?_).2 fun j => ?_
            · rw [List.nodup_cons]
              refine ⟨fun hm => ?_, List.nodup_range.filter _⟩
              have h1 := (List.mem_filter.1 hm).2
              rw [Bool.and_eq_true] at h1
              rcases (live_iff.1 h1.1).1 with h | h
              · omega
              · rw [hu] at h; cases h
            · rw [List.mem_filter, List.mem_cons, List.mem_filter, List.mem_range, Bool.and_eq_true, hlive]
              constructor
              · rintro ⟨h1, h2 | ⟨h2, h3⟩⟩
                · exact .inl h2
                · exact .inr ⟨h1, h2, not_has.2 h3⟩
              · rintro (h1 | ⟨h1, h2, h3⟩)
                · exact ⟨by omega, .inl h1⟩
                · exact ⟨h1, .inr ⟨h2, not_has.1 h3⟩⟩
          refine hS.perm ?_
          refine List.Perm.trans ?_ ((hp2.flatMap_right _).append_right Bs).symm
          rw [List.flatMap_cons]
          have hEq : ((List.range (ops.length + q)).filter (fun j => liveC ops cons (fun j => listed.getD j false) j && !(cons.getD k []).contains j)).flatMap (resG ops cls Rs I0 (upvG val k v)) = E := by
            rw [hE, List.flatMap_def, List.flatMap_def]
            congr 1
            refine List.map_congr_left fun j hj => ?_
            have h1 := (List.mem_filter.1 hj).2
            rw [Bool.and_eq_true] at h1
            unfold resG
            rcases Nat.lt_or_ge j ops.length with h | h
            · have hl := (live_iff.1 h1.1).1.resolve_left (by omega)
              rw [hmk j hl]
            · rw [blt_f h]; rfl
          rw [hEq, List.append_assoc]
          exact (List.perm_append_comm).append_left _
      have ho' : ops.toArray[k]? = some o := by simpa using ho
      unfold wpOpIn
      simp only [ho']
      unfold Lst at hO
      split at hO
      · rename_i hw
        rw [if_pos hw]
        exact hO.wp fun v w' h9 => by
          unfold Lst at h9
          obtain ⟨u, h1, h2, h3⟩ := h9
          refine step u v w' (fun d hd => ?_) h2 h3
          have := h1 d hd
          rwa [hd, put_getD, if_pos ⟨rfl, by rw [I.size]; exact (okC_dst hok (by rw [dst_of ho, hd])).1⟩] at this
      · rename_i hw
        rw [if_neg hw]
        unfold Lst at hO
        obtain ⟨u, h1, h2, h3⟩ := hO
        refine ⟨fun _ _ => trivial, step u undef w (fun d hd => ?_) h2 h3⟩
        have := h1 d hd
        rwa [hd, put_getD, if_pos ⟨rfl, by rw [I.size]; exact (okC_dst hok (by rw [dst_of ho, hd])).1⟩] at this
  have hz : ∀ i, (Array.replicate ops.toArray.size false).getD i false = false := fun i => by simp [Array.getElem?_replicate]; split <;> rfl
  have hfz : (fun j => (Array.replicate ops.toArray.size false).getD j false) = fun _ => false := funext hz
  refine hcount _ _ _ _ (fun _ => (undef, default)) (by simp) ⟨rfl, rfl, by simp, fun i _ => hz i, fun i d _ h => ?_, fun _ _ => rfl, fun i h => ?_, fun i h => ?_, ?_⟩
  · rw [hz] at h; cases h
  · rw [hz] at h; cases h
  · rw [hz] at h; cases h
  · rw [hfz]; exact s.drew
def AllG (P : Program) (ops : List Oper) (cls cons : List (List Nat)) (Rs : List (ResG γ)) (I0 : List (List Own)) (Fs : List (FctG γ)) (Bs : List Own) (w0 : World) (a0 : Act) : List Oper → Nat → Prop
  | [], _ => True
  | o :: r, i => ObG P ops cls cons Rs I0 Fs Bs w0 a0 i o ∧ AllG P ops cls cons Rs I0 Fs Bs w0 a0 r (i + 1)
theorem allG_get {Rs : List (ResG γ)} {I0 : List (List Own)} {Fs : List (FctG γ)} {Bs : List Own} : ∀ {l : List Oper} {k : Nat}, AllG P ops cls cons Rs I0 Fs Bs w0 a0 l k → ∀ i o, l[i]? = some o → ObG P ops cls cons Rs I0 Fs Bs w0 a0 (k + i) o
  | [], _, _, i, o, h => by simp at h
  | x :: r, k, H, 0, o, h => by simp at h; subst h; exact H.1
  | x :: r, k, H, i + 1, o, h => by
    have := allG_get H.2 i o (by simpa using h)
    rwa [show k + (i + 1) = k + 1 + i by omega]
theorem c_regG {rid N : Nat} {L : List (Nat × Value)} {Df : List Deferred} {B : List Own} (q : Nat) (cls cons : List (List Nat)) (Rs : List (ResG γ)) (I0 : List (List Own)) (Fs : List (FctG γ)) (Bs : List Own)
    (h : Sl N a0 L Df) (s : St w0 B w1) (hB : ((List.range (ops.length + q)).filter (liveC ops cons fun _ => false)).flatMap (resG ops cls Rs I0 fun _ => (undef, default)) ++ Bs = B) (hm : P.follows .mixedOrders = true) (hok : okRegC ops cls cons q N = true) (hsel : Region.noSelect ops.toArray = true)
    (hob : AllG P ops cls cons Rs I0 Fs Bs w0 a0 ops 0) (lv : List Nat) (hlv : (List.range (ops.length + q)).filter (liveC ops cons fun j => Nat.blt j ops.length) = lv)
    (hfin : ∀ (b : Act) (w : World) (val : Nat → Value × γ), b.tmps.size = N → b.defers = Df → (∀ i d, dstOf ops i = some d → b.tmps.getD d undef = (val i).1) → (∀ t, (∀ i, dstOf ops i ≠ some t) → b.tmps.getD t undef = a0.tmps.getD t undef) →
      (∀ i, Nat.blt i ops.length = true → fctG cls Fs val i) → St w0 (lv.flatMap (resG ops cls Rs I0 val) ++ Bs) w → Q .normal b w) :
    (Code.region rid ops.toArray true).wpIn (FR ro) 0 P Q a0 w1 := by
  subst hB
  refine wp_regionG (m := ops.length) (Fs := Fs) (I0 := I0) (Rs := Rs) hm (by rw [h.size]; exact hok) hsel (Nat.le_refl _) (fun i h1 h2 => absurd h2 (by omega)) (fun i o _ hi => ?_) s fun b w val h1 h2 h3 h4 h5 h6 => ?_
  · have := allG_get hob i o hi
    rwa [Nat.zero_add] at this
  · rw [List.drop_length]
    refine Lst.nil.2 (hfin b w val (h1.trans h.size) (h2.trans h.defers) (fun i d hd => h3 i d (dst_lt hd) hd) (fun t ht => h4 t fun i _ => ht i) (fun i hi => h5 i (Nat.le_of_ble_eq_true hi)) (by rw [hlv] at h6; exact h6))
theorem og_get {cl : List Nat} {a : Act} {val : Nat → Value × γ} {lk9 : List Tmp} (hl : ∀ t ∈ lk9, slotG ops cl a0 a val t) (t j : Nat) (hm : lk9.contains t = true) (hw : writer ops cl t = some j) : a.tmps.getD t undef = (val j).1 := by
  have := hl t (List.contains_iff_mem.1 hm)
  unfold slotG at this
  rw [hw] at this
  exact this
theorem og_old {cl : List Nat} {a : Act} {val : Nat → Value × γ} {lk9 : List Tmp} (hl : ∀ t ∈ lk9, slotG ops cl a0 a val t) (t : Nat) (hm : lk9.contains t = true) (hw : writer ops cl t = none) {v : Value} (hv : a0.tmps.getD t undef = v) : a.tmps.getD t undef = v := by
  have := hl t (List.contains_iff_mem.1 hm)
  unfold slotG at this
  rw [hw] at this
  exact this.trans hv
end
end Go.Proofs.YtcnnlakcpcofkaaDoor

namespace Go.Proofs.YtcnnlakcpcofkaaDoor
open Go.RowKit
/-! ### fingers set: what is stable stays such -/
/-! numbers of pairs -/
/-! what is handed out -/
section
variable {P : Program} {a : Act} {w w0 : World} {N : Nat} {L : List (Nat × Value)} {B : List Own} {fn : Func}
theorem e_tmp_row_tmp {T : Asrt} {p q r : Tmp} {t : TypeId} {b n : Nat} {C : Array Value} {u : TypeId} {V U : Value} (i : Nat) (hres : fn.results = #[.tmp q, .cell p t, .tmp r]) (h : Sl N a L) (s : St w0 B w) (hr : Row P t n) (hq : lk L q = some V) (hp : lk L p = some (.pointer (some ⟨b, 0, none⟩))) (hi : B[i]? = some (.blk b (.cells C u))) (hn : C.size = n)
    (hu : lk L r = some U) (hT : T (.tuple #[V, .agg C, U]) w) : bodyPost P fn (Ret w0 T) .ret a w := by
  refine ⟨h.defers, .tuple #[V, .agg C, U], ?_, _, rfl, hT, s.ext⟩
  have hp' : a.tmps[p]?.getD undef = .pointer (some ⟨b, 0, none⟩) := by simpa using h.holds p _ hp
  have hq' : a.tmps[q]?.getD undef = V := by simpa using h.holds q _ hq
  have hu' : a.tmps[r]?.getD undef = U := by simpa using h.holds r _ hu
  simp [results, hres, hp', hq', hu', asAddr, run_load_row hr w b C u (0, 0) (s.get i hi) hn]
end
end Go.Proofs.YtcnnlakcpcofkaaDoor

namespace Go.Proofs.YtcnnlakcpcofkaaDoor
open Go.RowKit
/-! ### where a server lies, and who does not live -/
/-! ### steps: each an answer, compared to the one ahead -/
/-! ### who keeps -/
section
variable {P : Program} {fn : Func} {w w0 : World} {N : Nat} {a : Act} {L : List (Nat × Value)} {B : List Own}
end
end Go.Proofs.YtcnnlakcpcofkaaDoor
