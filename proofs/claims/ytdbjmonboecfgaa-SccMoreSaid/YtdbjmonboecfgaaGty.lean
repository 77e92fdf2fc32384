/- A drawn region whose operations each leave one value, whatever the order; guarded ones too. -/
import Derived.Test.YtdbjmonboecfgaaBase
import Derived.OrdersHeld
import Derived.StillTail
namespace Go.Proofs.Ytdbjmonboecfgaa
open Go Go.RowKit
set_option linter.unusedVariables false
set_option linter.unusedSimpArgs false


/-- How many operations have not come up. -/
def lacks (listed : Array Bool) : Nat := listed.toList.count false

theorem lacks_set {listed : Array Bool} {i : Nat} (h : listed.getD i true = false) : lacks (listed.setIfInBounds i true) + 1 = lacks listed := by
  have hi : i < listed.size := by
    rcases Nat.lt_or_ge i listed.size with h' | h'
    · exact h'
    · simp [Array.getElem?_eq_none h'] at h
  have hv : listed[i] = false := by simpa [hi] using h
  unfold lacks
  have h0 : listed.toList[i]'(by simpa using hi) = false := by simpa using hv
  have hpos : 0 < listed.toList.count false := List.count_pos_iff.2 (h0 ▸ List.getElem_mem _)
  rw [Array.toList_setIfInBounds, List.count_set (by simpa using hi), h0]
  generalize listed.toList.count false = n at hpos ⊢
  have e1 : (false == false) = true := rfl
  have e2 : (true == false) = false := rfl
  rw [e1, e2, if_pos rfl, if_neg (by simp)]
  omega

section
variable {P : Program} {ops : Array Oper} {Q : Exit → Act → World → Prop} {md : Region.Mode}

/-- An invariant that each operation that may come up keeps, whatever came up before it. -/
theorem wpAny_inv (I : Array Bool → Act → World → Prop)
    (hend : ∀ listed a w, I listed a w → Region.ready md ops listed = [] → Q .normal a w)
    (hstep : ∀ listed a w, I listed a w → ∀ i ∈ Region.ready md ops listed, wpOp P ops Q i (I (listed.setIfInBounds i true)) a w) :
    ∀ (fuel : Nat) (listed : Array Bool) (a : Act) (w : World), lacks listed ≤ fuel → I listed a w → wpAny P md ops Q fuel listed a w := by
  intro fuel
  induction fuel with
  | zero =>
    intro listed a w hl h
    have hr : Region.ready md ops listed = [] := by
      refine List.eq_nil_iff_forall_not_mem.2 fun i hi => ?_
      have h1 := lacks_set (mem_ready.1 hi).1
      omega
    exact ⟨hr, hend _ _ _ h hr⟩
  | succ fuel ih =>
    intro listed a w hl h
    refine ⟨hend _ _ _ h, fun i hi => wpOp_mono (fun a' w' h' => ih _ a' w' ?_ h') (hstep _ _ _ h i hi)⟩
    have h1 := lacks_set (mem_ready.1 hi).1
    omega

/-- A drawn region, by such an invariant. -/
theorem wp_region_inv {id : Nat} {a : Act} {w : World} (hm : P.follows .mixedOrders = true) (I : Array Bool → Act → World → Prop)
    (h0 : I (Array.replicate ops.size false) a { w with drawn := w.drawn + 1 })
    (hstep : ∀ listed a w, I listed a w → ∀ i ∈ Region.ready .any ops listed, wpOp P ops Q i (I (listed.setIfInBounds i true)) a w)
    (hend : ∀ listed a w, I listed a w → Region.ready .any ops listed = [] → Q .normal a w) :
    (Code.region id ops true).wp P Q a w :=
  wp_region_any hm (wpAny_inv I hend hstep _ _ _ _ (by simp [lacks]) h0)
end



/-- Each slot is written by one operation. -/
def dstOnce (ops : Array Oper) : Bool := (List.range ops.size).all fun i => (List.range ops.size).all fun j => decide (i = j) || (match ops[i]?, ops[j]? with
  | some o, some o' => (match o.dst, o'.dst with
    | some s, some t => decide (s ≠ t)
    | _, _ => true)
  | _, _ => true)
theorem dst_once {ops : Array Oper} (h : dstOnce ops = true) {i j : Nat} {o o' : Oper} {s : Nat} (hi : ops[i]? = some o) (hj : ops[j]? = some o') (hs : o.dst = some s) (ht : o'.dst = some s) : i = j := by
  have hil : i < ops.size := (Array.getElem?_eq_some_iff.1 hi).1
  have hjl : j < ops.size := (Array.getElem?_eq_some_iff.1 hj).1
  have h1 := List.all_eq_true.1 (List.all_eq_true.1 h i (List.mem_range.2 hil)) j (List.mem_range.2 hjl)
  rw [hi, hj] at h1
  simp only [hs, ht] at h1
  simpa using h1
/-- What is so between two operations. -/
structure RInv (ops : Array Oper) (V : Nat → Value → World → Prop) (a0 : Act) (w0 : World) (listed : Array Bool) (a : Act) (w : World) : Prop where
  below : Below w0.heap.size w0 w
  defers : a.defers = a0.defers
  size : a.tmps.size = a0.tmps.size
  lsize : listed.size = ops.size
  rest : ∀ s : Nat, (∀ (i : Nat) (o : Oper), ops[i]? = some o → o.dst ≠ some s) → a.tmps[s]? = a0.tmps[s]?
  done : ∀ (i : Nat) (o : Oper) (s : Nat), ops[i]? = some o → o.dst = some s → listed.getD i false = true → ∃ v, a.tmps[s]? = some v ∧ V i v w
section
variable {P : Program} {ops : Array Oper} {V : Nat → Value → World → Prop} {a0 : Act} {w0 : World}
theorem RInv.put (hV : ∀ i v w w', V i v w → Below w.heap.size w w' → V i v w') (hd : dstOnce ops = true) {listed : Array Bool} {a : Act} {w w' : World} (h : RInv ops V a0 w0 listed a w) {i : Nat} {o : Oper} {s : Nat} {v : Value}
    (hi : ops[i]? = some o) (hs : o.dst = some s) (hl : s < a0.tmps.size) (hb : Below w.heap.size w w') (hv : V i v w') : RInv ops V a0 w0 (listed.setIfInBounds i true) (a.put o.dst v) w' := by
  rw [hs]
  refine ⟨h.below.trans (hb.mono h.below.size), h.defers, by simp [Act.put, h.size], by simp [h.lsize], fun t ht => ?_, fun j o' t hj ht hlj => ?_⟩
  · have hne : s ≠ t := fun e => ht i o hi (e ▸ hs)
    show (a.tmps.setIfInBounds s v)[t]? = _
    rw [Array.getElem?_setIfInBounds_ne hne]
    exact h.rest t ht
  · by_cases hij : i = j
    · subst hij
      rw [hi] at hj
      obtain rfl := Option.some.inj hj
      rw [hs] at ht
      obtain rfl := Option.some.inj ht
      refine ⟨v, ?_, hv⟩
      show (a.tmps.setIfInBounds s v)[s]? = _
      rw [Array.getElem?_setIfInBounds_self]
      simp [h.size, hl]
    · have hne : s ≠ t := fun e => hij (dst_once hd hi hj hs (e ▸ ht))
      have hl2 : listed.getD j false = true := by
        rw [Array.getD_eq_getD_getElem?, Array.getElem?_setIfInBounds_ne hij] at hlj
        rwa [Array.getD_eq_getD_getElem?]
      obtain ⟨u, h1, h2⟩ := h.done j o' t hj ht hl2
      refine ⟨u, ?_, hV _ _ _ _ h2 hb⟩
      show (a.tmps.setIfInBounds s v)[t]? = _
      rw [Array.getElem?_setIfInBounds_ne hne]
      exact h1
/-- A drawn region, by the kinds of what its operations leave. -/
theorem wp_region_typed {id : Nat} {Q : Exit → Act → World → Prop} (hm : P.follows .mixedOrders = true) (hV : ∀ i v w w', V i v w → Below w.heap.size w w' → V i v w') (hd : dstOnce ops = true)
    (hdst : ∀ (i : Nat) (o : Oper), ops[i]? = some o → ∃ s, o.dst = some s ∧ s < a0.tmps.size)
    (hstep : ∀ (i : Nat) (o : Oper) (a : Act) (w : World), ops[i]? = some o → Below w0.heap.size w0 w → (∀ s : Nat, (∀ (i : Nat) (o : Oper), ops[i]? = some o → o.dst ≠ some s) → a.tmps[s]? = a0.tmps[s]?) →
      (∀ e ∈ o.after, Region.binds .any e = true → ∀ (o' : Oper) (s : Nat), ops[e.on]? = some o' → o'.dst = some s → ∃ v, a.tmps[s]? = some v ∧ V e.on v w) →
      wpOp P ops Q i (fun a' w' => ∃ v, a' = a.put o.dst v ∧ V i v w' ∧ Below w.heap.size w w') a w)
    (hend : ∀ listed a w, RInv ops V a0 w0 listed a w → Region.ready .any ops listed = [] → Q .normal a w) :
    (Code.region id ops true).wp P Q a0 w0 := by
  refine wp_region_inv hm (RInv ops V a0 w0) ?_ (fun listed a w h i hi => ?_) hend
  · refine ⟨⟨rfl, rfl, rfl, Nat.le_refl _, fun _ _ => rfl⟩, rfl, rfl, by simp, fun _ _ => rfl, fun i o s hi hs hl => ?_⟩
    exfalso
    rw [Array.getD_eq_getD_getElem?, Array.getElem?_replicate] at hl
    split at hl <;> simp at hl
  · obtain ⟨hun, o, ho, hall⟩ := mem_ready.1 hi
    obtain ⟨s, hs, hsl⟩ := hdst i o ho
    refine wpOp_mono (fun a' w' h' => ?_) (hstep i o a w ho h.below h.rest (fun e he hb o' t ho' ht => h.done e.on o' t ho' ht (hall e he hb)))
    obtain ⟨v, rfl, hv, hb⟩ := h'
    exact h.put hV hd ho hs hsl hb hv
end

theorem all_listed {md : Region.Mode} {ops : Array Oper} {listed : Array Bool} (hwf : ((List.range ops.size).all fun i => ((ops[i]?).map (·.after.all fun e => decide (e.on < i))).getD true) = true) (hs : listed.size = ops.size) (hr : Region.ready md ops listed = []) : ∀ i, i < ops.size → listed.getD i false = true := by
  intro i
  induction i using Nat.strongRecOn with
  | _ i ih =>
    intro hi
    cases hc : listed.getD i false with
    | true => rfl
    | false =>
      exfalso
      have : i ∈ Region.ready md ops listed := mem_ready.2 ⟨getD_in (by omega) hc, ops[i], Array.getElem?_eq_getElem hi, fun e he _ => by
        have h1 := List.all_eq_true.1 hwf i (List.mem_range.2 hi)
        rw [Array.getElem?_eq_getElem hi] at h1
        simp only [Option.map_some, Option.getD_some] at h1
        have h2 := Array.all_eq_true'.1 h1 e he
        have h3 := of_decide_eq_true h2
        exact ih e.on h3 (by omega)⟩
      rw [hr] at this
      cases this

section
variable {P : Program} {w : World} {ops : Array Oper} {o : Oper} {a : Act} {K : Act → World → Prop} {Q : Exit → Act → World → Prop} {i : Nat}
theorem wpOp_of (hi : ops[i]? = some o) (hg : o.guard = none) (h : Oper.wp P o a w K Q) : wpOp P ops Q i K a w := by
  unfold wpOp
  simp only [hi]
  rw [if_pos (by simp [Region.wanted, hg])]
  exact .inl h
theorem wp_run {v : Value} {w' : World} (e : (execOp a.eval o).run P w = .ok (.value v) w') (h : K (a.put o.dst v) w') : Oper.wp P o a w K Q := by
  unfold Oper.wp
  rw [e]
  exact h
theorem wpOp_yes {j : Nat} {b : Bool} (hi : ops[i]? = some o) (hg : o.guard = some (j, b)) {oj : Oper} {s : Nat} (hj : ops[j]? = some oj) (hs : oj.dst = some s) (hv : a.tmps[s]? = some (.bool b)) (h : Oper.wp P o a w K Q) : wpOp P ops Q i K a w := by
  unfold wpOp
  simp only [hi]
  have e : yielded ops a.tmps j = some b := by unfold yielded; simp [hj, hs, hv]
  rw [if_pos (by simp [Region.wanted, hg, e])]
  exact .inl h
theorem wpOp_no {j : Nat} {b b' : Bool} (hi : ops[i]? = some o) (hg : o.guard = some (j, b)) {oj : Oper} {s : Nat} (hj : ops[j]? = some oj) (hs : oj.dst = some s) (hv : a.tmps[s]? = some (.bool b')) (hne : b' ≠ b) (h : K (a.put o.dst undef) w) : wpOp P ops Q i K a w := by
  unfold wpOp
  simp only [hi]
  have e : yielded ops a.tmps j = some b' := by unfold yielded; simp [hj, hs, hv]
  rw [if_neg (by simp [Region.wanted, hg, e, hne])]
  exact h
theorem wp_call3 (f : FuncId) (fn : Func) (hf : P.funcs[f]? = some fn) (hnm : fn.name ≠ "runtime.NumGoroutine") (hbd : fn.body ≠ none) (x y z : Operand) (c d e : Value) (hx : a.eval x = c) (hy : a.eval y = d) (hz : a.eval z = e) (ts : Array TypeId) (hop : o.op = Op.call { callee := .value (.func f), args := #[x, y, z], argTypes := ts }) {v : Value} {B : World → Prop}
    (hc : Calls P f #[c, d, e] w fun e w' => e = .returned v ∧ B w') (h : ∀ w', B w' → K (a.put o.dst v) w') : Oper.wp P o a w K Q := by
  unfold Oper.wp
  have q : (execOp a.eval o).run P w = .ok (.enter f #[c, d, e]) w := by
    have e1 : a.eval (.func f) = .func (.func f) #[] #[] := rfl
    simp [execOp, hop, Result.andThen, resolve, invoke, Deferred.ofValue, callFunc, program, e1, hx, hy, hz, show Sem.run P (Sem.program Sem.pure) w = .ok P w from rfl, hf, hnm, hbd]
  rw [q]
  exact Calls.mono hc (by rintro e w1 ⟨rfl, hb⟩; exact h _ hb)
theorem wp_call0 (f : FuncId) (fn : Func) (hf : P.funcs[f]? = some fn) (hnm : fn.name ≠ "runtime.NumGoroutine") (hbd : fn.body ≠ none) (ts : Array TypeId) (hop : o.op = Op.call { callee := .value (.func f), args := #[], argTypes := ts }) {v : Value} {B : World → Prop}
    (hc : Calls P f #[] w fun e w' => e = .returned v ∧ B w') (h : ∀ w', B w' → K (a.put o.dst v) w') : Oper.wp P o a w K Q := by
  unfold Oper.wp
  have q : (execOp a.eval o).run P w = .ok (.enter f #[]) w := by
    have e1 : a.eval (.func f) = .func (.func f) #[] #[] := rfl
    simp [execOp, hop, Result.andThen, resolve, invoke, Deferred.ofValue, callFunc, program, e1, show Sem.run P (Sem.program Sem.pure) w = .ok P w from rfl, hf, hnm, hbd]
  rw [q]
  exact Calls.mono hc (by rintro e w1 ⟨rfl, hb⟩; exact h _ hb)
end
theorem eval_of {a : Act} {t : Nat} {v : Value} (h : a.tmps[t]? = some v) : a.eval (.tmp t) = v := by
  simp [Act.eval, h]
def dstIn (n : Nat) (ops : Array Oper) : Bool := (List.range ops.size).all fun i => match ops[i]? with
  | some o => (match o.dst with
    | some s => decide (s < n)
    | none => false)
  | none => false
theorem dst_in {n : Nat} {ops : Array Oper} (h : dstIn n ops = true) (i : Nat) (o : Oper) (hi : ops[i]? = some o) : ∃ s, o.dst = some s ∧ s < n := by
  have hil : i < ops.size := (Array.getElem?_eq_some_iff.1 hi).1
  have h1 := List.all_eq_true.1 h i (List.mem_range.2 hil)
  rw [hi] at h1
  dsimp only at h1
  cases hs : o.dst with
  | none => rw [hs] at h1; cases h1
  | some s => rw [hs] at h1; exact ⟨s, rfl, by simpa using h1⟩

def noDst0 (s : Nat) (ops : Array Oper) : Bool := (List.range ops.size).all fun i => match ops[i]? with
  | some o => decide (o.dst ≠ some s)
  | none => true
theorem no_dst0 {s : Nat} {ops : Array Oper} (h : noDst0 s ops = true) : ∀ (i : Nat) (o : Oper), ops[i]? = some o → o.dst ≠ some s := fun i o hi => by
  have h1 := List.all_eq_true.1 h i (List.mem_range.2 (Array.getElem?_eq_some_iff.1 hi).1)
  rw [hi] at h1
  simpa using h1


end Go.Proofs.Ytdbjmonboecfgaa
