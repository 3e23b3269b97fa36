/- Ways that meet again, panics that are caught, maps and texts made of bytes; no Go in it. -/
import Derived.DefersIn
import Derived.RecoverIn
import Derived.Laws.OwnMore
import Derived.Lib.UnsafeStr
import Derived.MapKept
import Derived.Lib.AppendStr
import Derived.Test.YtaehgcdcfbhohaaEt
set_option linter.unusedVariables false
set_option linter.unusedSimpArgs false
set_option linter.unusedSectionVars false
namespace Go.Proofs.Ytaehgcdcfbhohaa
open Go.RowKit

/-! ### ways that meet again; panics -/
section
variable {ro : Option Nat} {P : Program} {Q : Exit → Act → World → Prop} {K : Act → World → Prop} {a : Act} {w w0 : World} {N i : Nat} {L : List (Nat × Value)} {Df : List Deferred} {B : List Own} {ch : List PanicEntry}
/-- a midpoint: whatever way x goes, it ends normally with mid, or leaves as it would -/
theorem c_join {x : Code} (mid : Act → World → Prop) (h : x.wpIn (FR ro) 0 P (Exit.then mid Q) a w) (hm : ∀ a w, mid a w → Q .normal a w) : x.wpIn (FR ro) 0 P Q a w :=
  wpIn_mono h fun e a w he => by cases e <;> first | exact hm _ _ he | exact he
theorem t_panic (h : Q (.panic ch) a w) : Exit.then K Q (.panic ch) a w := h
theorem Lst.wpx {ops : Array Oper} {r : List Oper} (hk : ∀ a w, K a w → wpListIn (FR ro) 0 P ops Q r a w) : ∀ {l : List Oper} {a : Act} {w : World}, Lst P ops K l a w → wpListIn (FR ro) 0 P ops Q (l ++ r) a w
  | [], _, _, h => hk _ _ (Lst.nil.1 h)
  | o :: l, a, w, h => by
    unfold Lst at h
    show wpListIn (FR ro) 0 P ops Q (o :: (l ++ r)) a w
    unfold wpListIn
    split at h
    · rename_i hw
      rw [if_pos hw]
      exact Does.wp h fun v w' h' => Lst.wpx hk h'
    · rename_i hw
      rw [if_neg hw]
      exact ⟨fun _ _ => trivial, Lst.wpx hk h⟩
/-- an operation that may end its region -/
def Ends (ro : Option Nat) (P : Program) (o : Oper) (Q : Exit → Act → World → Prop) (a : Act) (w : World) : Prop := ∀ K, o.wpIn (FR ro) 0 P a w K Q
/-- a region that comes to its m-th operation, which ends it -/
theorem c_regionX {id : Nat} {ops l r : List Oper} {o : Oper} (m : Nat) (hl : ops.take m = l) (hr : ops.drop m = o :: r) (hg : o.guard = none)
    (h : Lst P ops.toArray (Ends ro P o Q) l a w) : (Code.region id ops.toArray false).wpIn (FR ro) 0 P Q a w := by
  refine wpIn_region_lit ?_
  have := Lst.wpx (ro := ro) (Q := Q) (r := o :: r) (fun a w hx => by
    unfold wpListIn
    have hw : Region.wanted o (yielded ops.toArray a.tmps) = true := by simp [Region.wanted, hg]
    rw [if_pos hw]
    exact hx _) h
  rwa [← hl, ← hr, List.take_append_drop] at this
/-- a region whose m-th operation, the last, lays a deferred call of a closure -/
theorem c_regionD {id : Nat} {ops l : List Oper} {c : Operand} {fn : FuncId} {cap : Array Value} {ty : TypeId} {pos : String} {af : Array Edge} {tys : Array TypeId} (m : Nat) (hl : ops.take m = l)
    (hr : ops.drop m = [⟨none, .defer { callee := .value c, args := #[], argTypes := tys }, ty, pos, af, none⟩])
    (h : Lst P ops.toArray (fun a w => a.eval c = .func (.func fn) #[] cap ∧ Q .normal { a with defers := { target := .fn (.func fn) cap, args := #[] } :: a.defers } w) l a w) : (Code.region id ops.toArray false).wpIn (FR none) 0 P Q a w := by
  refine wpIn_region_lit ?_
  have := Lst.wpx (ro := none) (Q := Q) (r := [⟨none, .defer { callee := .value c, args := #[], argTypes := tys }, ty, pos, af, none⟩]) (fun a w hx => by
    obtain ⟨hc, hq⟩ := hx
    unfold wpListIn
    have hw : Region.wanted (⟨none, .defer { callee := .value c, args := #[], argTypes := tys }, ty, pos, af, none⟩ : Oper) (yielded ops.toArray a.tmps) = true := by simp [Region.wanted]
    rw [if_pos hw]
    refine ⟨fun _ _ => trivial, ?_⟩
    have : ((Oper.semAt (FR none).round a.eval (⟨none, .defer { callee := .value c, args := #[], argTypes := tys }, ty, pos, af, none⟩ : Oper)).run P w) = .ok (.defer { target := .fn (.func fn) cap, args := #[] }) w := by
      rw [show (FR none).round = none from rfl, Oper.semAt_none]
      simp [execOp, hc, resolve, Deferred.ofValue, Result.andThen]
    rw [this]
    exact hq) h
  rwa [← hl, ← hr, List.take_append_drop] at this
theorem Sl.deferred {a : Act} (h : Sl N a L Df) (d : Deferred) : Sl N { a with defers := d :: a.defers } L (d :: Df) := ⟨h.size, by rw [h.defers], h.holds⟩
theorem x_panic {x : Operand} {t : TypeId} {v : Value} {ty : TypeId} {pos : String} {af : Array Edge} (h : Sl N a L Df) (hx : evo L x = some (.iface t v)) (hq : Q (.panic [{ v := .iface t v, recovered := false }]) a w) :
    Ends ro P ⟨none, .panic x, ty, pos, af, none⟩ Q a w := fun K => by
  refine ⟨fun _ _ => trivial, ?_⟩
  have : ((Oper.semAt (FR ro).round a.eval (⟨none, .panic x, ty, pos, af, none⟩ : Oper)).run P w) = .halt (.panic (.iface t v)) w := by
    rw [Oper.semAt_eq _ _ _ (fun c hc => by cases hc)]
    simp [execOp, h.ev hx, Instr.panic, goPanic, Result.andThen]
  rw [this]
  exact hq
theorem x_call {d : Tmp} {f : FuncId} {args : Array Operand} {tys : Array TypeId} {vs : List Value} {R : List PanicEntry → World → Prop} {ty : TypeId} {pos : String} {af : Array Edge} (h : Sl N a L Df) (hf : Fnc P f)
    (hc : Calls P f vs.toArray w (fun e w' => ∃ ch, e = .panicked ch ∧ R ch w')) (hvs : args.toList.map (evo L) = vs.map some) (hq : ∀ ch w', R ch w' → Q (.panic ch) a w') :
    Ends ro P ⟨some d, .call { callee := .value (.func f), args := args, argTypes := tys }, ty, pos, af, none⟩ Q a w := fun K => by
  refine ⟨fun _ _ => trivial, ?_⟩
  obtain ⟨fn, h1, h2, h3⟩ := hf.has
  have hargs : args.map a.eval = vs.toArray := evsA h hvs
  have : ((Oper.semAt (FR ro).round a.eval (⟨some d, .call { callee := .value (.func f), args := args, argTypes := tys }, ty, pos, af, none⟩ : Oper)).run P w) = .ok (.enter f vs.toArray) w := by
    rw [Oper.semAt_eq _ _ _ (fun c hc => by cases hc)]
    have e : a.eval (.func f) = .func (.func f) #[] #[] := rfl
    simp [execOp, resolve, e, Deferred.ofValue, hargs, invoke, run_callFunc h1 h2 h3, Result.andThen]
  rw [this]
  refine And.intro (fun hh => (by cases hh)) (callsIn_wide.2 (hc.mono ?_))
  rintro e w' ⟨ch, rfl, r⟩
  exact hq _ _ r
theorem e_panicF {fn : Func} {R : Ending → World → Prop} (h : Sl N a L) (hR : R (.panicked ch) w) : bodyPost P fn R (.panic ch) a w := ⟨h.defers, hR⟩
theorem ru_makeIface {ρ : Operand → Value} {dst : Option Tmp} {ty : TypeId} {pos : String} {af : Array Edge} {g : Option (Nat × Bool)} {x : Operand} {t : TypeId} {V : Value} {s : TypeDesc} (ht : P.underlying t = some s) (hn : (match s with | .interface _ => false | _ => true) = true) (hx : ρ x = V) :
    RunsTo P ⟨dst, .makeInterface t x, ty, pos, af, g⟩ ρ (.iface t V) := fun w => by
  simp only [execOp, hx]
  cases s <;> simp_all [Instr.makeInterface, run_underlying ht, Result.andThen]
/-- a function that defers -/
theorem c_enterD {f : FuncId} {fn : Func} {c : Code} {args : List Value} {R : Ending → World → Prop} {n : Nat} (hf : P.funcs[f]? = some fn) (hb : fn.body = some c) (hn : fn.ntmps = n) (hs : Nat.ble args.length n = true)
    (L : List (Nat × Value)) (hL : ∀ p ∈ L, args[p.1]? = some p.2)
    (h : ∀ a, Sl n a L → c.wpIn (FR none) 0 P (bodyPostDIn (FR none) 0 P fn R) a w) : Calls P f args.toArray w R := by
  refine callsIn_wide.1 (callsIn_of_wp_defers (n := 0) hf hb trivial ?_)
  rw [hn]
  exact h _ (Sl.enter L (by simpa using hs) (by simpa using hL))
end

/-! ### a deferred closure that recovers -/
section
variable {P : Program} {a : Act} {w w0 : World} {N : Nat} {L : List (Nat × Value)} {Df : List Deferred} {B : List Own}
theorem eqIn_nil {t u : TypeId} {v : Value} {ms : Array (String × TypeId)} (ht : P.underlying t = some (.interface ms)) (n : Nat) : (Op.equalIn (n + 1) t (.iface u v) .nilIface).run P w = .ok false w := by
  simp [Op.equalIn, run_underlying ht]
theorem eqIn_nil0 {t : TypeId} {ms : Array (String × TypeId)} (ht : P.underlying t = some (.interface ms)) (n : Nat) : (Op.equalIn (n + 1) t .nilIface .nilIface).run P w = .ok true w := by
  simp [Op.equalIn, run_underlying ht]
theorem equal_nil {t u : TypeId} {v : Value} {ms : Array (String × TypeId)} (ht : P.underlying t = some (.interface ms)) : (Op.equal t (.iface u v) .nilIface).run P w = .ok false w := eqIn_nil ht 9999
theorem equal_nil0 {t : TypeId} {ms : Array (String × TypeId)} (ht : P.underlying t = some (.interface ms)) : (Op.equal t .nilIface .nilIface).run P w = .ok true w := eqIn_nil0 ht 9999
theorem ru_neq_nil {ρ : Operand → Value} {dst : Option Tmp} {ty : TypeId} {pos : String} {af : Array Edge} {g : Option (Nat × Bool)} {x : Operand} {t t' u : TypeId} {v : Value} {ms : Array (String × TypeId)} (ht : P.underlying t = some (.interface ms)) (hx : ρ x = .iface u v) (hy : ρ (.const .nilIface) = .nilIface) :
    RunsTo P ⟨dst, .binOp .neq t x (.const .nilIface) t', ty, pos, af, g⟩ ρ (.bool true) := fun w => by
  simp [execOp, hx, hy, eqGuard, binOp, equal_nil ht, Result.andThen]
theorem ru_neq_nil0 {ρ : Operand → Value} {dst : Option Tmp} {ty : TypeId} {pos : String} {af : Array Edge} {g : Option (Nat × Bool)} {x : Operand} {t t' : TypeId} {ms : Array (String × TypeId)} (ht : P.underlying t = some (.interface ms)) (hx : ρ x = .nilIface) (hy : ρ (.const .nilIface) = .nilIface) :
    RunsTo P ⟨dst, .binOp .neq t x (.const .nilIface) t', ty, pos, af, g⟩ ρ (.bool false) := fun w => by
  simp [execOp, hx, hy, eqGuard, binOp, equal_nil0 ht, Result.andThen]
section
variable {ops : Array Oper} {Q : Exit → Act → List Frame → World → Prop} {cs : List Frame} {i : Nat} {rest : List Nat} {o : Oper} {V : Value} {w' : World}
theorem wpOpsS_val (ho : ops[i]? = some o) (hg : o.guard = none) (hrun : (execOp a.eval o).run P w = .ok (.value V) w') (h : wpOpsSIn (FR none) 0 P ops Q rest (a.put o.dst V) cs w') : wpOpsSIn (FR none) 0 P ops Q (i :: rest) a cs w := by
  have hw : Region.wanted o (yielded ops a.tmps) = true := by simp [Region.wanted, hg]
  unfold wpOpsSIn
  rw [ho]
  refine ⟨fun _ _ => trivial, ?_⟩
  rw [if_pos hw, hrun]
  exact h
theorem wpOpsS_rec {cs' : List Frame} (ho : ops[i]? = some o) (hg : o.guard = none) (hrun : (execOp a.eval o).run P w = .ok .recover w') (hr : recoverD cs = some (V, cs')) (h : wpOpsSIn (FR none) 0 P ops Q rest (a.put o.dst V) cs' w') : wpOpsSIn (FR none) 0 P ops Q (i :: rest) a cs w := by
  have hw : Region.wanted o (yielded ops a.tmps) = true := by simp [Region.wanted, hg]
  unfold wpOpsSIn
  rw [ho]
  refine ⟨fun _ _ => trivial, ?_⟩
  rw [if_pos hw, hrun]
  simp only [hr]
  exact h
theorem wpOpsS_rec0 (ho : ops[i]? = some o) (hg : o.guard = none) (hrun : (execOp a.eval o).run P w = .ok .recover w') (hr : recoverD cs = none) (h : wpOpsSIn (FR none) 0 P ops Q rest (a.put o.dst .nilIface) cs w') : wpOpsSIn (FR none) 0 P ops Q (i :: rest) a cs w := by
  have hw : Region.wanted o (yielded ops a.tmps) = true := by simp [Region.wanted, hg]
  unfold wpOpsSIn
  rw [ho]
  refine ⟨fun _ _ => trivial, ?_⟩
  rw [if_pos hw, hrun]
  simp only [hr]
  exact h
end
/-- 'recover() != nil', entered as a deferred call of a frame that panics, or returns -/
theorem c_recover {id : Nat} {d d2 : Tmp} {ty ty2 t t' : TypeId} {tys : Array TypeId} {pos pos2 : String} {af af2 : Array Edge} {Q : Exit → Act → List Frame → World → Prop} {c₀ : Frame} {cs : List Frame} {ms : Array (String × TypeId)} (V : Value) (cs' : List Frame) (b : Bool)
    (h : Sl N a L Df) (ht : P.underlying t = some (.interface ms)) (hd : Nat.blt d N = true) (hd2 : Nat.blt d2 N = true)
    (hm : recoverD (c₀ :: cs) = some (V, cs') ∧ (∃ u v, V = .iface u v) ∧ b = true ∨ recoverD (c₀ :: cs) = none ∧ V = .nilIface ∧ cs' = c₀ :: cs ∧ b = false)
    (k : ∀ a', Sl N a' ((d2, .bool b) :: (d, V) :: L) Df → Q .normal a' cs' w) :
    (Code.region id #[⟨some d, .call { callee := .builtin .recover, args := #[], argTypes := tys }, ty, pos, af, none⟩, ⟨some d2, .binOp .neq t (.tmp d) (.const .nilIface) t', ty2, pos2, af2, none⟩] false).wpSIn (FR none) 0 P Q a (c₀ :: cs) w := by
  refine wpSIn_region ?_
  show wpOpsSIn (FR none) 0 P _ Q [0, 1] a (c₀ :: cs) w
  have h1 := h.put hd V
  have hk := k _ (h1.put hd2 (.bool b))
  have hv : (a.put (some d) V).eval (.tmp d) = V := h1.ev (by simp [evo, lk])
  have e0 : (execOp a.eval (⟨some d, .call { callee := .builtin .recover, args := #[], argTypes := tys }, ty, pos, af, none⟩ : Oper)).run P w = .ok .recover w := by
    simp [execOp, resolve, invoke, builtin, Result.andThen]
  rcases hm with ⟨hr, ⟨u, v, hV⟩, hb⟩ | ⟨hr, hV, hc, hb⟩
  · subst hb
    exact wpOpsS_rec rfl rfl e0 hr (wpOpsS_val rfl rfl (ru_neq_nil ht (hv.trans hV) rfl w) hk)
  · subst hb; subst hV; subst hc
    exact wpOpsS_rec0 rfl rfl e0 hr (wpOpsS_val rfl rfl (ru_neq_nil0 ht hv rfl w) hk)
/-- what a deferred closure without results achieves -/
theorem c_enterC {f : FuncId} {fn : Func} {c : Code} {args : List Value} {n : Nat} {u : FrameMode} {R : Ending → FrameMode → World → Prop} (hf : P.funcs[f]? = some fn) (hb : fn.body = some c) (hn : fn.ntmps = n) (hs : Nat.ble args.length n = true)
    (L : List (Nat × Value)) (hL : ∀ p ∈ L, args[p.1]? = some p.2)
    (h : ∀ (c₀ : Frame) (cs : List Frame) a, c₀.mode = u → Sl n a L → c.wpSIn (FR none) 0 P (bodyPostS P fn c₀ cs R) a (c₀ :: cs) w) : CallsDIn (FR none) 0 P f args.toArray u w R := by
  refine callsDIn_of_wpSIn hf hb trivial fun c₀ cs hu => ?_
  rw [hn]
  exact h c₀ cs _ hu (Sl.enter L (by simpa using hs) (by simpa using hL))
theorem t_normS {K : Act → List Frame → World → Prop} {Q : Exit → Act → List Frame → World → Prop} {cs : List Frame} (h : K a cs w) : Exit.thenS K Q .normal a cs w := h
/-- the closure 'if recover() != nil { what stores }': of a frame that panics, of a frame that returns -/
theorem catch_panics {f : FuncId} {fn : Func} {id d d2 : Nat} {ty ty2 t t' : TypeId} {tys : Array TypeId} {pos pos2 : String} {af af2 : Array Edge} {x : Code} {args : List Value} {n : Nat} {R : World → Prop} {u9 : TypeId} {v9 : Value} {ms : Array (String × TypeId)}
    (hf : P.funcs[f]? = some fn) (hb : fn.body = some (.seq (.region id #[⟨some d, .call { callee := .builtin .recover, args := #[], argTypes := tys }, ty, pos, af, none⟩, ⟨some d2, .binOp .neq t (.tmp d) (.const .nilIface) t', ty2, pos2, af2, none⟩] false) (.cond (.tmp d2) x .skip))) (hn : fn.ntmps = n) (hres : fn.results = #[]) (hs : Nat.ble args.length n = true)
    (L : List (Nat × Value)) (hL : ∀ p ∈ L, args[p.1]? = some p.2) (ht : P.underlying t = some (.interface ms)) (hd : Nat.blt d n = true) (hd2 : Nat.blt d2 n = true)
    (hx : ∀ a, Sl n a ((d2, .bool true) :: (d, .iface u9 v9) :: L) → x.wpIn (FR none) 0 P (fun e a w' => e = .normal ∧ a.defers = [] ∧ R w') a w) :
    CallsDIn (FR none) 0 P f args.toArray (.panicking [{ v := .iface u9 v9, recovered := false }]) w fun e u' w' => e = .returned (.tuple #[]) ∧ u' = .panicking [{ v := .iface u9 v9, recovered := true }] ∧ R w' := by
  refine c_enterC hf hb hn hs L hL fun c₀ cs a hu h => wpSIn_seq (c_recover (.iface u9 v9) ({ c₀ with mode := .panicking [{ v := .iface u9 v9, recovered := true }] } :: cs) true h ht hd hd2 (.inl ⟨by simp [recoverD, hu], ⟨_, _, rfl⟩, rfl⟩) fun a' h' => ?_)
  refine t_normS (wpSIn_cond (t := true) (h'.ev (by simp [evo, lk])) ?_)
  refine wpSIn_of_wpIn rfl ?_
  refine wpIn_mono (hx a' h') ?_
  rintro e a2 w2 ⟨rfl, hd9, hR⟩
  exact ⟨hd9, _, rfl, _, results_none hres _ _ _, rfl, rfl, hR⟩
theorem catch_idle {f : FuncId} {fn : Func} {id d d2 : Nat} {ty ty2 t t' : TypeId} {tys : Array TypeId} {pos pos2 : String} {af af2 : Array Edge} {x : Code} {args : List Value} {n : Nat} {ms : Array (String × TypeId)}
    (hf : P.funcs[f]? = some fn) (hb : fn.body = some (.seq (.region id #[⟨some d, .call { callee := .builtin .recover, args := #[], argTypes := tys }, ty, pos, af, none⟩, ⟨some d2, .binOp .neq t (.tmp d) (.const .nilIface) t', ty2, pos2, af2, none⟩] false) (.cond (.tmp d2) x .skip))) (hn : fn.ntmps = n) (hres : fn.results = #[]) (hs : Nat.ble args.length n = true)
    (ht : P.underlying t = some (.interface ms)) (hd : Nat.blt d n = true) (hd2 : Nat.blt d2 n = true) :
    CallsDIn (FR none) 0 P f args.toArray .returning w fun e u' w' => e = .returned (.tuple #[]) ∧ u' = .returning ∧ w' = w := by
  refine c_enterC hf hb hn hs [] (fun p hp => by cases hp) fun c₀ cs a hu h => wpSIn_seq (c_recover .nilIface (c₀ :: cs) false h ht hd hd2 (.inr ⟨by simp [recoverD, hu], rfl, rfl, rfl⟩) fun a' h' => ?_)
  refine t_normS (wpSIn_cond (t := false) (h'.ev (by simp [evo, lk])) ?_)
  refine wpSIn_of_wpIn rfl (wpIn_skip ?_)
  have hc : c₀ = { c₀ with mode := .returning } := by cases c₀; cases hu; rfl
  exact ⟨h'.defers, _, by rw [← hc], _, results_none hres _ _ _, rfl, rfl, rfl⟩
end
/-! ### the door -/
section
variable {P : Program} {a : Act} {w w0 : World} {N : Nat} {L : List (Nat × Value)} {B : List Own} {fn : Func} {R : Ending → World → Prop}
theorem e_door_ret {f : FuncId} {cap : List Value} (h : Sl N a L [{ target := .fn (.func f) cap.toArray, args := #[] }]) (hf : Fnc P f)
    (hC : CallsDIn (FR none) 0 P f cap.toArray .returning w fun e u' w' => e = .returned (.tuple #[]) ∧ u' = .returning ∧ w' = w)
    (hr : ∃ v, (results fn a.tmps).run P w = .ok v w ∧ R (.returned v) w) : bodyPostDIn (FR none) 0 P fn R .ret a w := by
  show LeavesIn (FR none) 0 P fn a.tmps R a.defers .returning w
  rw [h.defers]
  obtain ⟨g, h1, h2, h3⟩ := hf.has
  refine leavesIn_cons (f := f) (args := cap.toArray) (by simp) (fun hh => by cases hh) (by simp [invoke, run_callFunc h1 h2 h3]) (fun _ _ => trivial) (hC.mono ?_)
  rintro e u' w' ⟨rfl, rfl, rfl⟩
  exact hr
theorem e_door_panic {f : FuncId} {cap : List Value} {v : Value} {R9 : World → Prop} (h : Sl N a L [{ target := .fn (.func f) cap.toArray, args := #[] }]) (hf : Fnc P f)
    (hC : CallsDIn (FR none) 0 P f cap.toArray (.panicking [{ v := v, recovered := false }]) w fun e u' w' => e = .returned (.tuple #[]) ∧ u' = .panicking [{ v := v, recovered := true }] ∧ R9 w')
    (hr : ∀ w', R9 w' → ∃ v, (results fn a.tmps).run P w' = .ok v w' ∧ R (.returned v) w') : bodyPostDIn (FR none) 0 P fn R (.panic [{ v := v, recovered := false }]) a w := by
  show LeavesIn (FR none) 0 P fn a.tmps R a.defers (.panicking [{ v := v, recovered := false }]) w
  rw [h.defers]
  obtain ⟨g, h1, h2, h3⟩ := hf.has
  refine leavesIn_cons (f := f) (args := cap.toArray) (by simp) (fun hh => by cases hh) (by simp [invoke, run_callFunc h1 h2 h3]) (fun _ _ => trivial) (hC.mono ?_)
  rintro e u' w' ⟨rfl, rfl, hR⟩
  exact hr w' hR
theorem res_row_one {p q t u : Tmp} {b c n : Nat} {C D : Array Value} {tb tc : TypeId} {V : Value} {Df : List Deferred} (i j : Nat) (hres : fn.results = #[.cell p t, .cell q u]) (h : Sl N a L Df) (s : St w0 B w) (hr : Row P t n) (ho : One P u) (hp : lk L p = some (.pointer (some ⟨b, 0, none⟩))) (hq : lk L q = some (.pointer (some ⟨c, 0, none⟩)))
    (hi : B[i]? = some (.blk b (.cells C tb))) (hj : B[j]? = some (.blk c (.cells D tc))) (hn : C.size = n) (hD : D[0]? = some V) : (results fn a.tmps).run P w = .ok (.tuple #[.agg C, V]) w := by
  have hp' : a.tmps[p]?.getD undef = .pointer (some ⟨b, 0, none⟩) := by simpa using h.holds p _ hp
  have hq' : a.tmps[q]?.getD undef = .pointer (some ⟨c, 0, none⟩) := by simpa using h.holds q _ hq
  simp [results, hres, hp', hq', asAddr, run_load_row hr w b C tb (0, 0) (s.get i hi) hn, run_load_one ho w _ (cell_of_own s j hj hD)]
end

/-! ### maps that the call makes: the block's entries as they stand -/
section
variable {P : Program} {ops : Array Oper} {Q : Act → World → Prop} {l : List Oper} {a : Act} {w w0 : World} {N : Nat} {L : List (Nat × Value)} {Df : List Deferred} {B : List Own} {d : Tmp} {ty : TypeId} {pos : String} {af : Array Edge} {x y z : Operand} {t : TypeId}
theorem s_makeMap (h : Sl N a L Df) (s : St w0 B w) (hd : Nat.blt d N = true) (k : ∀ a' w' b, Sl N a' ((d, .map (some b)) :: L) Df → St w0 (.blk b (.map #[] 0) :: B) w' → Lst P ops Q l a' w') :
    Lst P ops Q (⟨some d, .makeMap t none, ty, pos, af, none⟩ :: l) a w :=
  s_does h (R := fun v w' => v = .map (some w.heap.size) ∧ w' = w.alloc (.map #[] 0)) (by simp [Does, execOp, run_makeMap, Result.andThen]) hd fun a' w' v ⟨hv, hw⟩ h' => by
    subst hv; subst hw; exact k _ _ _ h' (s.new _)
theorem s_insert {kt et : TypeId} {kd : TypeDesc} {b : Nat} {es : Array MapEntry} {c : Nat} {K V : Value} (i : Nat) (h : Sl N a L Df) (s : St w0 B w) (ht : P.underlying t = some (.map kt et)) (hk : P.underlying kt = some kd) (hkd : MapKept.IsKey kd K)
    (hx : evo L x = some (.map (some b))) (hy : evo L y = some K) (hz : evo L z = some V) (hi : B[i]? = some (.blk b (.map es c))) (hf : Instr.findNow kd K es.toList 0 = some none)
    (k : ∀ w', St w0 (B.set i (.blk b (.map (es.push { key := K, val := V, born := c }) (c + 1)))) w' → Lst P ops Q l a w') : Lst P ops Q (⟨none, .insert t x y z, ty, pos, af, none⟩ :: l) a w := by
  have hb := s.get i hi
  have hrun : (Instr.mapUpdate t (.map (some b)) K V).run P w = .ok () (w.putObj b (.map (es.push { key := K, val := V, born := c }) (c + 1))) := by
    simp [Instr.mapUpdate, run_underlying ht, MapKept.run_getObj_map hb, MapKept.run_checkKey hk hkd, MapKept.run_findKey hk hf, MapKept.run_setObj_map _ hb, Result.andThen, World.putObj]
  refine s_doesN (R := fun v w' => w' = w.putObj b (.map (es.push { key := K, val := V, born := c }) (c + 1))) ?_ fun w' v hw => by subst hw; exact k _ (s.putObj i hi _)
  simp [Does, execOp, h.ev hx, h.ev hy, h.ev hz, hrun, Result.andThen]
/-- 'v, ok := m[k]' in a map of the call's own -/
theorem s_lookup {kt et : TypeId} {kd : TypeDesc} {b : Nat} {es : Array MapEntry} {c : Nat} {K Z V : Value} {ok : Bool} (i : Nat) (h : Sl N a L Df) (s : St w0 B w) (ht : P.underlying t = some (.map kt et)) (hk : P.underlying kt = some kd) (hkd : MapKept.IsKey kd K) (hZ : (P.info? et).bind (·.zero) = some Z)
    (hx : evo L x = some (.map (some b))) (hy : evo L y = some K) (hi : B[i]? = some (.blk b (.map es c)))
    (hf : (∃ j, Instr.findNow kd K es.toList 0 = some (some (j, V)) ∧ ok = true) ∨ (Instr.findNow kd K es.toList 0 = some none ∧ V = Z ∧ ok = false)) (hd : Nat.blt d N = true)
    (k : ∀ a', Sl N a' ((d, .tuple #[V, .bool ok]) :: L) Df → Lst P ops Q l a' w) : Lst P ops Q (⟨some d, .lookup t x y true, ty, pos, af, none⟩ :: l) a w := by
  have hb := s.get i hi
  have hzr : (zeroValue et).run P w = .ok Z w := by
    cases hi9 : P.info? et with
    | none => simp [hi9] at hZ
    | some info => simp [hi9] at hZ; simp [zeroValue, typeInfo, hi9, hZ, Result.andThen]
  have hrun : (Instr.lookup t (.map (some b)) K true).run P w = .ok (.tuple #[V, .bool ok]) w := by
    rcases hf with ⟨j, hf, rfl⟩ | ⟨hf, rfl, rfl⟩
    · simp [Instr.lookup, run_underlying ht, MapKept.run_getObj_map hb, MapKept.run_checkKey hk hkd, MapKept.run_findKey hk hf, Result.andThen]
    · simp [Instr.lookup, run_underlying ht, MapKept.run_getObj_map hb, MapKept.run_checkKey hk hkd, MapKept.run_findKey hk hf, hzr, Result.andThen]
  refine s_does h (R := fun v w' => v = .tuple #[V, .bool ok] ∧ w' = w) ?_ hd fun a' w' v ⟨hv, hw⟩ h' => by subst hv; subst hw; exact k _ h'
  simp [Does, execOp, h.ev hx, h.ev hy, hrun, Result.andThen]
end

/-! ### bytes that are made; a text over them -/
section
variable {P : Program} {ops : Array Oper} {Q : Act → World → Prop} {l : List Oper} {a : Act} {w w0 : World} {N : Nat} {L : List (Nat × Value)} {Df : List Deferred} {B : List Own} {d : Tmp} {ty : TypeId} {pos : String} {af : Array Edge} {x y : Operand} {t e : TypeId}
theorem made_bytes (n : Nat) : madeCells #[.int .u8 0] n = bytesF (fun _ => 0) n := by
  apply Array.ext'
  rw [toList_madeCells_one]
  simp [bytesF, List.map_const']
theorem s_make_bytes {n : Nat} {m : Int} (h : Sl N a L Df) (s : St w0 B w) (ht : P.underlying t = some (.slice e)) (hi : ∃ i, P.info? e = some i ∧ i.zero = some (.int .u8 0) ∧ i.size = 1 ∧ i.bytes = 1) (hx : evo L x = some (.int .i64 m)) (hy : evo L y = some (.int .i64 m)) (hm : m = (n : Int)) (hn : n ≤ 1000000000) (hd : Nat.blt d N = true)
    (k : ∀ a' w' b, Sl N a' ((d, .slice (some ⟨b, 0, none⟩) n n) :: L) Df → St w0 (.blk b (.cells (bytesF (fun _ => 0) n) e) :: B) w' → Lst P ops Q l a' w') : Lst P ops Q (⟨some d, .makeSlice t x y, ty, pos, af, none⟩ :: l) a w := by
  subst hm
  obtain ⟨i, h1, h2, h3, h4⟩ := hi
  have hr := run_make (P := P) w t e i _ ht h1 h2 .i64 .i64 (n : Int) (n : Int) (by omega) (Int.le_refl _) (by rw [h4]; omega) (by omega)
  have hz : (Value.int .u8 0).cells = #[.int .u8 0] := rfl
  simp only [Int.toNat_natCast, h3, hz, Nat.mul_one, made_bytes] at hr
  refine s_does h (R := fun v w' => v = .slice (some ⟨w.heap.size, 0, none⟩) n n ∧ w' = w.alloc (.cells (bytesF (fun _ => 0) n) e)) ?_ hd fun a' w' v ⟨hv, hw⟩ h' => by subst hv; subst hw; exact k _ _ _ h' (s.new _)
  simp [Does, execOp, h.ev hx, h.ev hy, hr, Result.andThen]
/-- a text over a row that the call made: its bytes; the row is set aside -/
theorem s_unsafeString {pt it u : TypeId} {b n : Nat} {F : Nat → Nat} {m : Int} {str : ByteArray} (i : Nat) (h : Sl N a L Df) (s : St w0 B w) (hp : P.underlying pt = some (.pointer u)) (hc : P.cellsOf u = 1) (hx : evo L x = some (.pointer (some ⟨b, 0, none⟩))) (hy : evo L y = some (.int .i64 m)) (hm : m = (n : Int)) (h0 : 0 < n) (hn : n ≤ 1000000000)
    (hi : B[i]? = some (.blk b (.cells (bytesF F n) u))) (hs : strF F n = str) (hF : ∀ i, i < n → F i < 256) (hd : Nat.blt d N = true)
    (k : ∀ a' w', Sl N a' ((d, .string str) :: L) Df → St w0 (B.eraseIdx i) w' → Lst P ops Q l a' w') : Lst P ops Q (⟨some d, .call { callee := .builtin .unsafeString, args := #[x, y], argTypes := #[pt, it] }, ty, pos, af, none⟩ :: l) a w := by
  subst hm
  have hb := s.get i hi
  obtain ⟨ns, hns⟩ : ∃ ns, ns = (List.range n).map fun i => UInt8.ofNat (F i) := ⟨_, rfl⟩
  have hl : ns.length = n := by rw [hns]; simp
  have hr := Lib.run_unsafeString_row (P := P) w pt it ty u hp hc b n (by simp [World.shape?, hb]) ns (by intro e9; rw [e9] at hl; simp at hl; omega) (by omega) (by omega) (fun j x9 hj => by
    have hjl := (List.getElem?_eq_some_iff.1 hj).1
    have hx9 : x9 = UInt8.ofNat (F j) := by
      subst hns
      rw [List.getElem?_map, List.getElem?_range (by omega)] at hj
      exact (Option.some.inj hj).symm
    have := (Has.of_blk hb) j (.int .u8 (F j : Int)) (bytesF_get F n j (by omega))
    rw [this, hx9]
    have h7 : (UInt8.ofNat (F j)).toNat = F j := by rw [UInt8.toNat_ofNat']; exact Nat.mod_eq_of_lt (hF j (by omega))
    rw [h7])
  rw [hl] at hr
  have hstr : (⟨ns.toArray⟩ : ByteArray) = str := by rw [← hs, hns]; rfl
  rw [hstr] at hr
  have hold : w0.heap.size ≤ b := s.own _ (List.mem_of_getElem? hi) b (Own.at_blk.2 rfl)
  refine s_does h (R := fun v w' => v = .string str ∧ w' = w.freeze ⟨b, 0, none⟩ n) ?_ hd fun a' w' v ⟨hv, hw⟩ h' => by
    subst hv; subst hw
    refine k _ _ h' ?_
    have hsz : (w.freeze ⟨b, 0, none⟩ n).heap.size = w.heap.size := by unfold World.freeze; split <;> simp
    have s1 := s.upd i hi (w' := w.freeze ⟨b, 0, none⟩ n) (p' := .grp [] fun _ => True) (by unfold World.freeze; split <;> rfl) (by unfold World.freeze; split <;> rfl) (by unfold World.freeze; split <;> rfl) (by rw [hsz]; exact Nat.le_refl _) ⟨fun k hk => (by cases hk), fun _ _ => trivial⟩ (fun k hk => (by cases hk)) (fun k hk hne => by
      have hkb : b ≠ k := fun e9 => hne (Own.at_blk.2 e9.symm)
      unfold World.freeze
      split
      · rfl
      · simp only [Array.getElem?_modify, if_neg hkb])
    refine s1.pick _ ?_
    have := List.eraseIdx_sublist (B.set i (.grp [] fun _ => True)) i
    rwa [List.eraseIdx_set_eq] at this
  simp [Does, execOp, resolve, invoke, builtin, h.ev hx, h.ev hy, hr, Result.andThen]
end

/-! ### a part of a block, stored at once -/
section
variable {P : Program} {ops : Array Oper} {Q : Act → World → Prop} {l : List Oper} {a : Act} {w w0 : World} {N : Nat} {L : List (Nat × Value)} {Df : List Deferred} {B : List Own} {d : Tmp} {ty : TypeId} {pos : String} {af : Array Edge} {x y : Operand} {t : TypeId} {fn : Func}
theorem s_store_sub {b o n : Nat} {C D : Array Value} {u : TypeId} (i : Nat) (h : Sl N a L Df) (s : St w0 B w) (hr : Row P t n) (hx : evo L x = some (.pointer (some ⟨b, o, none⟩))) (hy : evo L y = some (.agg D)) (hi : B[i]? = some (.blk b (.cells C u))) (hD : D.size = n) (hC : o + n ≤ C.size) (hv : ∀ v ∈ D.toList, v.oneCell' = true)
    (k : ∀ w', St w0 (B.set i (.blk b (.cells (C.toList.take o ++ D.toList ++ C.toList.drop (o + D.size)).toArray u))) w' → Lst P ops Q l a w') : Lst P ops Q (⟨none, .store t x y, ty, pos, af, none⟩ :: l) a w :=
  s_doesN (R := fun _ w' => w' = w.setRow b (C.toList.take o ++ D.toList ++ C.toList.drop (o + D.size)).toArray) (by
    have hs : (sizeOf t).run P w = .ok D.size w := by
      cases hq : P.info? t with
      | none => have := hr.size; simp [hq] at this
      | some i => have := hr.size; simp [hq] at this; simp [sizeOf, typeInfo, Sem.run_bind, hq, this, hD]
    have hst : (storeVar t ⟨b, o, none⟩ (.agg D)).run P w = .ok () (w.setRow b (C.toList.take o ++ D.toList ++ C.toList.drop (o + D.size)).toArray) := by
      have := run_storeCells_atG P b o u (0, 0) D.toList 0 C w (s.get i hi) (.inl rfl) (by rw [Array.length_toList]; omega) hv
      simp only [Nat.add_zero, Array.length_toList] at this
      simp [storeVar, Sem.run_bind, hs, Value.cells, this]
    unfold Does
    simp only [execOp, h.ev hx, h.ev hy, Instr.storeAt, Instr.sureAddr, Sem.run_bind, Sem.run_pure, Result.andThen_ok, hst]) fun w' _ hw => by subst hw; exact k _ (s.row i hi _)
theorem e_rowF {R : Ending → World → Prop} {p t : Tmp} {b n : Nat} {C : Array Value} {u : TypeId} (i : Nat) (hres : fn.results = #[.cell p t]) (h : Sl N a L) (s : St w0 B w) (hr : Row P t n) (hp : lk L p = some (.pointer (some ⟨b, 0, none⟩))) (hi : B[i]? = some (.blk b (.cells C u))) (hn : C.size = n)
    (hR : R (.returned (.agg C)) w) : bodyPost P fn R .ret a w := by
  refine ⟨h.defers, .agg C, ?_, hR⟩
  have hp' : a.tmps[p]?.getD undef = .pointer (some ⟨b, 0, none⟩) := by simpa using h.holds p _ hp
  simp [results, hres, hp', asAddr, run_load_row hr w b C u (0, 0) (s.get i hi) hn]
end

/-! ### append of a text's bytes -/
theorem run_append_roomG_str {P : Program} (w : World) (t u ty e : TypeId) (i : TypeInfo) (ht : P.underlying t = some (.slice e)) (hu : P.underlying u = some .string) (hi : P.info? e = some i) (hs1 : i.size = 1)
    (g sLen sCap : Nat) (cur : Array Value) (fz : Nat × Nat) (hg : w.heap[g]? = some (.cells cur e fz)) (hz : fz.2 = 0 ∨ cur.size ≤ fz.1) (s : ByteArray) (hroom : sLen + s.size ≤ sCap) (hfit : sLen + s.size ≤ cur.size) :
    (Builtin.append_ #[t, u] ty #[.slice (some ⟨g, 0, none⟩) sLen sCap, .string s]).run P w =
      .ok (.slice (some ⟨g, 0, none⟩) (sLen + s.size) sCap) (w.setRow g (cur.toList.take sLen ++ Lib.strCells s ++ cur.toList.drop (sLen + s.size)).toArray) := by
  have hf := Lib.run_firstCells_string (P := P) w 1 s
  have hst := run_storeCells_atG P g sLen e fz (Lib.strCells s) 0 cur w hg hz (by simpa [Lib.strCells_length] using hfit) (Lib.strCells_oneCell s)
  simp only [Nat.add_zero, Lib.strCells_length] at hst
  simp [Builtin.append_, run_underlying ht, run_underlying hu, sizeOf, typeInfo, hi, hs1, Builtin.lenOf, hroom, hf, Addr.add_lit, hst]
theorem run_append_st_str {P : Program} {w w0 : World} {t u ty e : TypeId} (ht : P.underlying t = some (.slice e)) (hu : P.underlying u = some .string) (E : Elm P e 1 1) (hZ : (P.info? e).bind (·.zero) = some (.int .u8 0)) {v : Value} {n : Nat} {xs : List Value} (hown : Owns w w0.heap.size e 1 v n xs)
    (s : ByteArray) (h63 : n + s.size ≤ maxLen) (hbytes : n + s.size ≤ 140737488355328) (hbase : w0.heap.size ≤ w.heap.size) :
    ∃ v' w', (Builtin.append_ #[t, u] ty #[v, .string s]).run P w = .ok v' w' ∧ Owns w' w0.heap.size e 1 v' (n + s.size) (xs ++ Lib.strCells s) ∧ w.grownBy w' v.ownBlock ∧ (v'.ownBlock = v.ownBlock ∨ v'.ownBlock = some w.heap.size) := by
  obtain ⟨i, z, hi, hz, hsz, hby, hzs⟩ := E.info
  have hz0 : z = .int .u8 0 := by rw [hi] at hZ; simp only [Option.bind_some] at hZ; exact Option.some.inj (hz.symm.trans hZ)
  subst hz0
  have hsmall : n + s.size ≤ 9223372036854775807 := by simp only [maxLen] at h63; omega
  have hxl : xs.length = n := by simpa using hown.1
  have hlen : (xs ++ Lib.strCells s).length = (n + s.size) * 1 := by rw [List.length_append, hxl, Lib.strCells_length, Nat.mul_one]
  have grown : ∀ (old : Nat), old < n + s.size → ∀ (row : Option Nat),
      Owns (w.drew.alloc (.cells (xs.toArray ++ (Lib.strCells s).toArray ++ Builtin.zeroCells (Value.int .u8 0).cells (grownCap w (n + s.size) old e - (n + s.size))) e)) w0.heap.size e 1
        (.slice (some ⟨w.heap.size, 0, none⟩) (n + s.size) (grownCap w (n + s.size) old e)) (n + s.size) (xs ++ Lib.strCells s) ∧
      w.grownBy (w.drew.alloc (.cells (xs.toArray ++ (Lib.strCells s).toArray ++ Builtin.zeroCells (Value.int .u8 0).cells (grownCap w (n + s.size) old e - (n + s.size))) e)) row := by
    intro old ho row
    have hge := grownCap_ge w (n + s.size) old e
    have hcm : grownCap w (n + s.size) old e ≤ maxLen := grownCap_le_maxLen w (n + s.size) old e h63
    refine ⟨⟨hlen, .inr ⟨w.heap.size, _, _, (0, 0), rfl, hbase, heap_alloc_new w.drew _, .inl rfl, hge, hcm, ?_, ?_⟩⟩, ⟨rfl, rfl, rfl, by simp, fun k hk _ => Below.heap_alloc w.drew _ k hk⟩⟩
    · have hz1 : (Value.int IntKind.u8 0).cells.size = 1 := rfl
      simp only [Array.size_append, List.size_toArray, size_zeroCells, hz1, hxl, Lib.strCells_length]
      omega
    · simp only [Array.toList_append, List.append_assoc]
      rw [← List.append_assoc, ← hlen]
      exact List.take_left
  rcases hown.2 with ⟨rfl, rfl⟩ | ⟨g, cap, cur, fz, rfl, hbg, hg, hfz, hnc, hcm, hcs, htake⟩
  · have hx : xs = [] := List.eq_nil_of_length_eq_zero hxl
    subst hx
    by_cases hm : s.size = 0
    · have hn : Lib.strCells s = [] := List.eq_nil_of_length_eq_zero (by rw [Lib.strCells_length]; exact hm)
      refine ⟨.slice none 0 0, w, ?_, ?_, ⟨rfl, rfl, rfl, Nat.le_refl _, fun _ _ _ => rfl⟩, .inl rfl⟩
      · have hf := Lib.run_firstCells_string (P := P) w 1 s
        rw [hm] at hf
        simp [Builtin.append_, run_underlying ht, run_underlying hu, sizeOf, typeInfo, hi, hsz, Builtin.lenOf, hm, hf]
      · rw [hm, hn]; exact owns_nil w _ e 1
    · have hr := run_append_nil_string (P := P) w t u ty e i (.int .u8 0) ht hu hi hz s (by omega) (by omega) (by rw [hby]; omega)
      have hgr := grown 0 (by omega) (Value.ownBlock (.slice none 0 0))
      simp only [Nat.zero_add, List.nil_append, Array.empty_append] at hgr ⊢
      have e1 : (s.data.map fun b => Value.int .u8 b.toNat) = (Lib.strCells s).toArray := by
        apply Array.ext'
        simp [Lib.strCells]
      rw [e1] at hr
      exact ⟨_, _, hr, hgr.1, hgr.2, .inr rfl⟩
  · by_cases hroom : n + s.size ≤ cap
    · have hcs' : cur.size = cap := by simpa using hcs
      have hr := run_append_roomG_str (P := P) w t u ty e i ht hu hi hsz g n cap cur fz hg hfz s hroom (by omega)
      refine ⟨_, _, hr, ⟨hlen, .inr ⟨g, cap, _, fz, rfl, hbg, setRow_heap w g cur _ e _ hg, ?_, hroom, hcm, ?_, ?_⟩⟩, ⟨rfl, rfl, rfl, by simp, fun k _ hk => setRow_other w g k _ (fun e => hk (by simp [Value.ownBlock, e]))⟩, .inl rfl⟩
      · refine hfz.imp id fun h9 => ?_
        simp only [List.size_toArray, List.length_append, List.length_take, List.length_drop, Array.length_toList, Lib.strCells_length]
        omega
      · simp only [List.size_toArray, List.length_append, List.length_take, List.length_drop, Array.length_toList, Lib.strCells_length]
        omega
      · have ht' : cur.toList.take n = xs := by simpa using htake
        rw [ht', ← hlen]
        exact List.take_left
    · have holds : ∀ j u, xs[j]? = some u → w.cell? ((⟨g, 0, none⟩ : Addr).add j) = some u := hown.cells (g := g) rfl
      have hr := Lib.run_append_grow_string (P := P) w t u ty e i (.int .u8 0) ht hu hi hz ⟨g, 0, none⟩ n cap xs (by rw [hsz]; simpa using hxl) holds s (by omega) (by omega) (by rw [hby]; exact growslice_fits (by omega) (by omega))
      have hgr := grown cap (by omega) (Value.ownBlock (.slice (some ⟨g, 0, none⟩) n cap))
      exact ⟨_, _, hr, hgr.1, hgr.2, .inr rfl⟩
section
variable {P : Program} {ops : Array Oper} {Q : Act → World → Prop} {l : List Oper} {a : Act} {w w0 : World} {N : Nat} {L : List (Nat × Value)} {Df : List Deferred} {B : List Own} {d : Tmp} {ty : TypeId} {pos : String} {af : Array Edge} {x y : Operand} {t u e : TypeId}
theorem s_append_str {v : Value} {n m : Nat} {xs ys : List Value} {s9 : ByteArray} (i : Nat) (h : Sl N a L Df) (s : St w0 B w) (ht : P.underlying t = some (.slice e)) (hu : P.underlying u = some .string) (E : Elm P e 1 1) (hZ : (P.info? e).bind (·.zero) = some (.int .u8 0)) (hx : evo L x = some v) (hy : evo L y = some (.string s9))
    (hi : B[i]? = some (.sl v e 1 n xs)) (hm : s9.size = m) (hys : Lib.strCells s9 = ys) (hb : n + m ≤ 140737488355327) (hd : Nat.blt d N = true)
    (k : ∀ a' w' v', Sl N a' ((d, v') :: L) Df → St w0 (B.set i (.sl v' e 1 (n + m) (xs ++ ys))) w' → Lst P ops Q l a' w') :
    Lst P ops Q (⟨some d, .call { callee := .builtin .append, args := #[x, y], argTypes := #[t, u] }, ty, pos, af, none⟩ :: l) a w := by
  subst hm; subst hys
  obtain ⟨v', w', hr, h2, h3, h4⟩ := run_append_st_str (ty := ty) ht hu E hZ (s.getSl i hi) s9 (by unfold maxLen; omega) (by omega) s.ext.le
  refine s_does (R := fun u w'' => u = v' ∧ w'' = w') h (by
    unfold Does
    simp only [execOp, resolve, invoke, builtin, Sem.run_bind, Sem.run_pure, Result.andThen_ok, List.map_toArray, List.map_cons, List.map_nil, h.ev hx, h.ev hy, hr]
    first | exact ⟨rfl, rfl⟩ | exact ⟨trivial, rfl⟩ | exact ⟨trivial, trivial⟩ | trivial) hd fun a' w'' u ⟨e1, e2⟩ hs => ?_
  subst e1; subst e2
  refine k _ _ _ hs (s.upd i hi h3.os h3.tape h3.output h3.size h2 (fun k hk => ?_) (fun k hk hne => ?_))
  · rcases h4 with h4 | h4
    · exact .inl (Own.at_sl.2 (by rw [← Own.at_sl.1 hk]; exact h4.symm))
    · right
      have : u.ownBlock = some k := Own.at_sl.1 hk
      rw [h4] at this; cases this; exact Nat.le_refl _
  · exact h3.block k hk fun e => hne (Own.at_sl.2 e.symm)
end
theorem beq'_refl : ∀ B : List Own, BEq' B B
  | [] => trivial
  | _ :: r => ⟨rfl, beq'_refl r⟩
section
variable {P : Program} {ρ : Operand → Value} {d : Option Tmp} {ty : TypeId} {pos : String} {af : Array Edge} {g : Option (Nat × Bool)} {x y : Operand} {t t' : TypeId} {k : IntKind} {m n : Int}
theorem ru_orw (hx : ρ x = .int k m) (hy : ρ y = .int k n) : RunsTo P ⟨d, .binOp .or t x y t', ty, pos, af, g⟩ ρ (.int k (k.wrap ((BitVec.ofInt k.bits m ||| BitVec.ofInt k.bits n).toNat : Int))) :=
  ru_bits (.inr (.inl rfl)) hx hy fun w => rfl
end
end Go.Proofs.Ytaehgcdcfbhohaa
