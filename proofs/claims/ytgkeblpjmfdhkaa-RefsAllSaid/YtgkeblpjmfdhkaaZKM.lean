/- A drawn region whose operations each leave a thing of its own kind, whatever the order: the kinds are kept by new memory. Kinds of what an operation leaves: a value, a table of texts, a place in one. The statements' texts by numbers: expr. (Written by wip/tools/genex9.py.) The statements' texts by numbers: expr. (Written by wip/tools/genexr.py 0.) The statements' texts by numbers: expr. (Written by wip/tools/genexr.py 1.) The statements' texts by numbers: expr. (Written by wip/tools/genexr.py 2.) The statements' texts by numbers: expr. (Written by wip/tools/genexr.py 4.) -/
import Derived.Test.YtgkeblpjmfdhkaaZHM
import Derived.Test.YtgkeblpjmfdhkaaZAM
import Derived.Test.YtgkeblpjmfdhkaaZJM
import Derived.Deep.RegionWith
namespace Go.Proofs.Ytgkeblpjmfdhkaa
open Go Go.RowKit
set_option linter.unusedVariables false
set_option linter.unusedSimpArgs false

/-- Each slot is written by one operation. -/
def dstOnce (ops : Array Oper) : Bool := (List.range ops.size).all fun i => (List.range ops.size).all fun j => decide (i = j) || (match ops[i]?, ops[j]? with
  | some o, some o' => (match o.dst, o'.dst with
    | some s, some t => decide (s ≠ t)
    | _, _ => true)
  | _, _ => true)
theorem dst_once {ops : Array Oper} (h : dstOnce ops = true) {i j : Nat} {o o' : Oper} {s : Nat} (hi : ops[i]? = some o) (hj : ops[j]? = some o') (hs : o.dst = some s) (ht : o'.dst = some s) : i = j := by
  have hil : i < ops.size := (Array.getElem?_eq_some_iff.1 hi).1
  have hjl : j < ops.size := (Array.getElem?_eq_some_iff.1 hj).1
  have h1 := List.all_eq_true.1 (List.all_eq_true.1 h i (List.mem_range.2 hil)) j (List.mem_range.2 hjl)
  rw [hi, hj] at h1
  simp only [hs, ht] at h1
  simpa using h1
/-- What is so between two operations. -/
structure RInv (ops : Array Oper) (V : Nat → Value → World → Prop) (a0 : Act) (w0 : World) (listed : Array Bool) (a : Act) (w : World) : Prop where
  below : Below w0.heap.size w0 w
  defers : a.defers = a0.defers
  size : a.tmps.size = a0.tmps.size
  lsize : listed.size = ops.size
  rest : ∀ s : Nat, (∀ (i : Nat) (o : Oper), ops[i]? = some o → o.dst ≠ some s) → a.tmps[s]? = a0.tmps[s]?
  done : ∀ (i : Nat) (o : Oper) (s : Nat), ops[i]? = some o → o.dst = some s → listed.getD i false = true → ∃ v, a.tmps[s]? = some v ∧ V i v w
section
variable {P : Program} {ops : Array Oper} {V : Nat → Value → World → Prop} {a0 : Act} {w0 : World}
theorem RInv.put (hV : ∀ i v w w', V i v w → Below w.heap.size w w' → V i v w') (hd : dstOnce ops = true) {listed : Array Bool} {a : Act} {w w' : World} (h : RInv ops V a0 w0 listed a w) {i : Nat} {o : Oper} {s : Nat} {v : Value}
    (hi : ops[i]? = some o) (hs : o.dst = some s) (hl : s < a0.tmps.size) (hb : Below w.heap.size w w') (hv : V i v w') : RInv ops V a0 w0 (listed.setIfInBounds i true) (a.put o.dst v) w' := by
  rw [hs]
  refine ⟨h.below.trans (hb.mono h.below.size), h.defers, by simp [Act.put, h.size], by simp [h.lsize], fun t ht => ?_, fun j o' t hj ht hlj => ?_⟩
  · have hne : s ≠ t := fun e => ht i o hi (e ▸ hs)
    show (a.tmps.setIfInBounds s v)[t]? = _
    rw [Array.getElem?_setIfInBounds_ne hne]
    exact h.rest t ht
  · by_cases hij : i = j
    · subst hij
      rw [hi] at hj
      obtain rfl := Option.some.inj hj
      rw [hs] at ht
      obtain rfl := Option.some.inj ht
      refine ⟨v, ?_, hv⟩
      show (a.tmps.setIfInBounds s v)[s]? = _
      rw [Array.getElem?_setIfInBounds_self]
      simp [h.size, hl]
    · have hne : s ≠ t := fun e => hij (dst_once hd hi hj hs (e ▸ ht))
      have hl2 : listed.getD j false = true := by
        rw [Array.getD_eq_getD_getElem?, Array.getElem?_setIfInBounds_ne hij] at hlj
        rwa [Array.getD_eq_getD_getElem?]
      obtain ⟨u, h1, h2⟩ := h.done j o' t hj ht hl2
      refine ⟨u, ?_, hV _ _ _ _ h2 hb⟩
      show (a.tmps.setIfInBounds s v)[t]? = _
      rw [Array.getElem?_setIfInBounds_ne hne]
      exact h1
/-- A drawn region, by the kinds of what its operations leave. -/
theorem wp_region_typed {id : Nat} {Q : Exit → Act → World → Prop} (hm : P.follows .mixedOrders = true) (hV : ∀ i v w w', V i v w → Below w.heap.size w w' → V i v w') (hd : dstOnce ops = true)
    (hdst : ∀ (i : Nat) (o : Oper), ops[i]? = some o → ∃ s, o.dst = some s ∧ s < a0.tmps.size)
    (hstep : ∀ (i : Nat) (o : Oper) (a : Act) (w : World), ops[i]? = some o → Below w0.heap.size w0 w → (∀ s : Nat, (∀ (i : Nat) (o : Oper), ops[i]? = some o → o.dst ≠ some s) → a.tmps[s]? = a0.tmps[s]?) →
      (∀ e ∈ o.after, Region.binds .any e = true → ∀ (o' : Oper) (s : Nat), ops[e.on]? = some o' → o'.dst = some s → ∃ v, a.tmps[s]? = some v ∧ V e.on v w) →
      wpOp P ops Q i (fun a' w' => ∃ v, a' = a.put o.dst v ∧ V i v w' ∧ Below w.heap.size w w') a w)
    (hend : ∀ listed a w, RInv ops V a0 w0 listed a w → Region.ready .any ops listed = [] → Q .normal a w) :
    (Code.region id ops true).wp P Q a0 w0 := by
  refine wp_region_inv hm (RInv ops V a0 w0) ?_ (fun listed a w h i hi => ?_) hend
  · refine ⟨⟨rfl, rfl, rfl, Nat.le_refl _, fun _ _ => rfl⟩, rfl, rfl, by simp, fun _ _ => rfl, fun i o s hi hs hl => ?_⟩
    exfalso
    rw [Array.getD_eq_getD_getElem?, Array.getElem?_replicate] at hl
    split at hl <;> simp at hl
  · obtain ⟨hun, o, ho, hall⟩ := mem_ready.1 hi
    obtain ⟨s, hs, hsl⟩ := hdst i o ho
    refine wpOp_mono (fun a' w' h' => ?_) (hstep i o a w ho h.below h.rest (fun e he hb o' t ho' ht => h.done e.on o' t ho' ht (hall e he hb)))
    obtain ⟨v, rfl, hv, hb⟩ := h'
    exact h.put hV hd ho hs hsl hb hv
end

end Go.Proofs.Ytgkeblpjmfdhkaa

namespace Go.Proofs.Ytgkeblpjmfdhkaa
open Go Go.RowKit
set_option linter.unusedVariables false
set_option linter.unusedSimpArgs false

inductive Kd where
  | val (v : Value)
  | tab (n j : Nat) (x : Value)
  | ptr (j : Nat) (x : Value)
  | sl (xs : List Nat)
def Kd.is : Kd → Value → World → Prop
  | .val u => fun v _ => v = u
  | .tab n j x => fun v w => ∃ b, v = .slice (some ⟨b, 0, none⟩) n n ∧ b < w.heap.size ∧ w.cell? ⟨b, j, none⟩ = some x
  | .ptr j x => fun v w => ∃ b, v = .pointer (some ⟨b, j, none⟩) ∧ b < w.heap.size ∧ w.cell? ⟨b, j, none⟩ = some x
  | .sl xs => fun v w => ∃ (a : Option Addr) (c : Nat), v = .slice a xs.length c ∧ RB w a xs.length c xs
theorem Kd.keep {k : Kd} {v : Value} {w w' : World} (h : k.is v w) (hb : Below w.heap.size w w') : k.is v w' := by
  cases k with
  | val u => exact h
  | tab n j x =>
    obtain ⟨b, h1, h2, h3⟩ := h
    exact ⟨b, h1, by have := hb.size; omega, (hb.cell (p := ⟨b, j, none⟩) h2).trans h3⟩
  | ptr j x =>
    obtain ⟨b, h1, h2, h3⟩ := h
    exact ⟨b, h1, by have := hb.size; omega, (hb.cell (p := ⟨b, j, none⟩) h2).trans h3⟩
  | sl xs =>
    obtain ⟨a, c, h1, h2⟩ := h
    exact ⟨a, c, h1, h2.under hb⟩
section
variable {P : Program} {o : Oper} {a : Act} {w : World} {K : Act → World → Prop} {Q : Exit → Act → World → Prop}
theorem wp_run {v : Value} {w' : World} (e : (execOp a.eval o).run P w = .ok (.value v) w') (h : K (a.put o.dst v) w') : Oper.wp P o a w K Q := by
  unfold Oper.wp
  rw [e]
  exact h
theorem wp_call1 (f : FuncId) (fn : Func) (hf : P.funcs[f]? = some fn) (hnm : fn.name ≠ "runtime.NumGoroutine") (hbd : fn.body ≠ none) (x : Operand) (c : Value) (hx : a.eval x = c) (ts : Array TypeId) (hop : o.op = Op.call { callee := .value (.func f), args := #[x], argTypes := ts }) {B : Value → World → Prop}
    (hc : Calls P f #[c] w fun e w' => ∃ v, e = .returned v ∧ B v w') (h : ∀ v w', B v w' → K (a.put o.dst v) w') : Oper.wp P o a w K Q := by
  unfold Oper.wp
  have e : (execOp a.eval o).run P w = .ok (.enter f #[c]) w := by
    have e1 : a.eval (.func f) = .func (.func f) #[] #[] := rfl
    simp [execOp, hop, Result.andThen, resolve, invoke, Deferred.ofValue, callFunc, program, e1, hx, show Sem.run P (Sem.program Sem.pure) w = .ok P w from rfl, hf, hnm, hbd]
  rw [e]
  exact Calls.mono hc (by rintro e w1 ⟨v, rfl, hb⟩; exact h _ _ hb)
theorem wp_call2 (f : FuncId) (fn : Func) (hf : P.funcs[f]? = some fn) (hnm : fn.name ≠ "runtime.NumGoroutine") (hbd : fn.body ≠ none) (x y : Operand) (c d : Value) (hx : a.eval x = c) (hy : a.eval y = d) (ts : Array TypeId) (hop : o.op = Op.call { callee := .value (.func f), args := #[x, y], argTypes := ts }) {v : Value} {B : World → Prop}
    (hc : Calls P f #[c, d] w fun e w' => e = .returned v ∧ B w') (h : ∀ w', B w' → K (a.put o.dst v) w') : Oper.wp P o a w K Q := by
  unfold Oper.wp
  have e : (execOp a.eval o).run P w = .ok (.enter f #[c, d]) w := by
    have e1 : a.eval (.func f) = .func (.func f) #[] #[] := rfl
    simp [execOp, hop, Result.andThen, resolve, invoke, Deferred.ofValue, callFunc, program, e1, hx, hy, show Sem.run P (Sem.program Sem.pure) w = .ok P w from rfl, hf, hnm, hbd]
  rw [e]
  exact Calls.mono hc (by rintro e w1 ⟨rfl, hb⟩; exact h _ hb)
end
def dstIn (n : Nat) (ops : Array Oper) : Bool := (List.range ops.size).all fun i => match ops[i]? with
  | some o => (match o.dst with
    | some s => decide (s < n)
    | none => false)
  | none => false
theorem dst_in {n : Nat} {ops : Array Oper} (h : dstIn n ops = true) (i : Nat) (o : Oper) (hi : ops[i]? = some o) : ∃ s, o.dst = some s ∧ s < n := by
  have hil : i < ops.size := (Array.getElem?_eq_some_iff.1 hi).1
  have h1 := List.all_eq_true.1 h i (List.mem_range.2 hil)
  rw [hi] at h1
  dsimp only at h1
  cases hs : o.dst with
  | none => rw [hs] at h1; cases h1
  | some s => rw [hs] at h1; exact ⟨s, rfl, by simpa using h1⟩

end Go.Proofs.Ytgkeblpjmfdhkaa

namespace Go.Proofs.Ytgkeblpjmfdhkaa
open Go.RowKit
set_option linter.unusedVariables false
set_option linter.unusedSimpArgs false

theorem exprT_big (d : Nat) (n : Nat) (r : List Nat) : exprT (d + 1) (n :: r) = exprS (exprT d) (atomT d) (atomT (d + 1)) (n :: r) := rfl

set_option maxHeartbeats 1000000 in
theorem t_expr_nil (D : Int) (a : Option Addr) (c : Nat) (w : World) : Calls Try.prog 40 #[.slice a 0 c, .int .i64 D] w fun e w' => e = .returned (.string (strB [120])) ∧ Below w.heap.size w w' := by
  go_enter Try.func40, Try.ntmps40
  go_wp2_with fail
  go_ret
  exact ⟨rfl, Below.refl _ _⟩

set_option maxRecDepth 100000 in
set_option maxHeartbeats 8000000 in
theorem t_expr_3 (d : Nat) (hd : d ≤ 9) (HE : Txt 40 (exprT d) d) (HA : Txt 78 (atomT d) d) (HB : Txt 78 (atomT (d + 1)) (d + 1)) (a : Option Addr) (l c n : Nat) (r : List Nat) (w : World) (h : RB w a l c (n :: r)) (hm : n % 10 = 3) :
    Calls Try.prog 40 #[.slice a l c, .int .i64 ((d : Int) + 1)] w fun e w' => e = .returned (.string (strB (exprT (d + 1) (n :: r)))) ∧ Below w.heap.size w w' := by
  have hD0 : decide ((d : Int) + 1 < 1) = false := decide_eq_false (by omega)
  obtain ⟨b, off, rfl, hb, q0, rfl, hn⟩ := h.first
  have hr0 : ((r.length : Int) + 1 == 0) = false := by simp; omega
  have hcap := h.cap
  have hsm := h.small
  have em1 : (n : Int) % 10 = 3 := by omega
  have em2 : (n : Int).tmod 10 = 3 := by rw [Int.tmod_eq_emod_of_nonneg (by omega)]; exact em1
  obtain ⟨a1, c1, h1, hr1⟩ := h.from_ 1 (by omega)
  rw [List.drop_one, List.tail_cons, Nat.add_sub_cancel] at h1
  rw [Nat.add_sub_cancel] at hr1
  have hr1 : ∀ W, Sem.run Try.prog (Instr.slice 22 (.slice (some ⟨b, off, none⟩) (r.length + 1) c) (some (.int .i64 1)) none none) W = .ok (.slice a1 r.length c1) W := hr1
  have lHEr : (exprT d r).length ≤ 20000000 := Nat.le_trans (txt_len d r (fun x hx => h.le x (List.mem_cons_of_mem _ hx))).1 (by have : 4 ^ d ≤ 4 ^ 9 := Nat.pow_le_pow_right (by omega) hd; omega)
  have lHAh : (atomT d (halfL (n :: r))).length ≤ 20000000 := Nat.le_trans (txt_len d (halfL (n :: r)) (fun x hx => h.le x (List.mem_of_mem_drop hx))).2 (by have : 4 ^ d ≤ 4 ^ 9 := Nat.pow_le_pow_right (by omega) hd; omega)
  have lHEh : (exprT d (halfL (n :: r))).length ≤ 20000000 := Nat.le_trans (txt_len d (halfL (n :: r)) (fun x hx => h.le x (List.mem_of_mem_drop hx))).1 (by have : 4 ^ d ≤ 4 ^ 9 := Nat.pow_le_pow_right (by omega) hd; omega)
  have T2 : ∀ W, Sem.run Try.prog (Op.stringOp .add ⟨#[105, 102, 32]⟩ (strB (exprT d r))) W = .ok (.string (strB ([105, 102, 32] ++ exprT d r))) W := run_plus ([105, 102, 32]) (exprT d r) rfl rfl rfl (by simp only [List.length_append, List.length_cons, List.length_nil]; omega)
  have T3 : ∀ W, Sem.run Try.prog (Op.stringOp .add (strB ([105, 102, 32] ++ exprT d r)) ⟨#[32, 116, 104, 101, 110, 32]⟩) W = .ok (.string (strB ([105, 102, 32] ++ exprT d r ++ [32, 116, 104, 101, 110, 32]))) W := run_plus ([105, 102, 32] ++ exprT d r) ([32, 116, 104, 101, 110, 32]) rfl rfl rfl (by simp only [List.length_append, List.length_cons, List.length_nil]; omega)
  have T4 : ∀ W, Sem.run Try.prog (Op.stringOp .add (strB ([105, 102, 32] ++ exprT d r ++ [32, 116, 104, 101, 110, 32])) (strB (atomT d (halfL (n :: r))))) W = .ok (.string (strB ([105, 102, 32] ++ exprT d r ++ [32, 116, 104, 101, 110, 32] ++ atomT d (halfL (n :: r))))) W := run_plus ([105, 102, 32] ++ exprT d r ++ [32, 116, 104, 101, 110, 32]) (atomT d (halfL (n :: r))) rfl rfl rfl (by simp only [List.length_append, List.length_cons, List.length_nil]; omega)
  have T5 : ∀ W, Sem.run Try.prog (Op.stringOp .add (strB ([105, 102, 32] ++ exprT d r ++ [32, 116, 104, 101, 110, 32] ++ atomT d (halfL (n :: r)))) ⟨#[32, 101, 108, 115, 101, 32]⟩) W = .ok (.string (strB ([105, 102, 32] ++ exprT d r ++ [32, 116, 104, 101, 110, 32] ++ atomT d (halfL (n :: r)) ++ [32, 101, 108, 115, 101, 32]))) W := run_plus ([105, 102, 32] ++ exprT d r ++ [32, 116, 104, 101, 110, 32] ++ atomT d (halfL (n :: r))) ([32, 101, 108, 115, 101, 32]) rfl rfl rfl (by simp only [List.length_append, List.length_cons, List.length_nil]; omega)
  have T6 : ∀ W, Sem.run Try.prog (Op.stringOp .add (strB ([105, 102, 32] ++ exprT d r ++ [32, 116, 104, 101, 110, 32] ++ atomT d (halfL (n :: r)) ++ [32, 101, 108, 115, 101, 32])) (strB (exprT d (halfL (n :: r))))) W = .ok (.string (strB ([105, 102, 32] ++ exprT d r ++ [32, 116, 104, 101, 110, 32] ++ atomT d (halfL (n :: r)) ++ [32, 101, 108, 115, 101, 32] ++ exprT d (halfL (n :: r))))) W := run_plus ([105, 102, 32] ++ exprT d r ++ [32, 116, 104, 101, 110, 32] ++ atomT d (halfL (n :: r)) ++ [32, 101, 108, 115, 101, 32]) (exprT d (halfL (n :: r))) rfl rfl rfl (by simp only [List.length_append, List.length_cons, List.length_nil]; omega)
  have e : exprT (d + 1) (n :: r) = [105, 102, 32] ++ exprT d r ++ [32, 116, 104, 101, 110, 32] ++ atomT d (halfL (n :: r)) ++ [32, 101, 108, 115, 101, 32] ++ exprT d (halfL (n :: r)) := by
    rw [exprT_big, exprS, if_neg (by omega), if_neg (by omega), if_pos (by omega)]
  rw [e]
  have HEr := Lib.hid (fun w' (hw : Below w.heap.size w w') => HE (d : Int) rfl _ _ _ _ w' (h1.under hw))
  have HAh := Lib.hid (fun w' a' c' (hq : RB w' a' ((halfL (n :: r))).length c' ((halfL (n :: r)))) => HA (d : Int) rfl _ _ _ _ w' hq)
  have HEh := Lib.hid (fun w' a' c' (hq : RB w' a' ((halfL (n :: r))).length c' ((halfL (n :: r)))) => HE (d : Int) rfl _ _ _ _ w' hq)
  have hHalf := Lib.hid (fun w' (hw : Below w.heap.size w w') => t_half _ _ _ _ w' (h.under hw))
  clear HE HA HB h h1 e hm lHEr lHAh lHEh 
  generalize [105, 102, 32] ++ exprT d r ++ [32, 116, 104, 101, 110, 32] ++ atomT d (halfL (n :: r)) ++ [32, 101, 108, 115, 101, 32] ++ exprT d (halfL (n :: r)) = S6 at *
  generalize [105, 102, 32] ++ exprT d r ++ [32, 116, 104, 101, 110, 32] ++ atomT d (halfL (n :: r)) ++ [32, 101, 108, 115, 101, 32] = S5 at *
  generalize [105, 102, 32] ++ exprT d r ++ [32, 116, 104, 101, 110, 32] ++ atomT d (halfL (n :: r)) = S4 at *
  generalize [105, 102, 32] ++ exprT d r ++ [32, 116, 104, 101, 110, 32] = S3 at *
  generalize [105, 102, 32] ++ exprT d r = S2 at *
  have HW := Lib.hid (Below.refl w.heap.size w)
  go_enter Try.func40, Try.ntmps40
  go_wp2_with (first
    | (go_at_call 40; (with_reducible refine (HEr.out _ HW.out).mono ?_); clear HEr; rintro e wz ⟨rfl, hbz⟩; replace HW := Lib.hid (HW.out.trans (hbz.mono HW.out.size)); clear hbz)
    | (go_at_call 78; (with_reducible refine (HAh.out _ _ _ HRB.out).mono ?_); clear HAh HRB; rintro e wz ⟨rfl, hbz⟩; replace HW := Lib.hid (HW.out.trans (hbz.mono HW.out.size)); clear hbz)
    | (go_at_call 40; (with_reducible refine (HEh.out _ _ _ HRB.out).mono ?_); clear HEh HRB; rintro e wz ⟨rfl, hbz⟩; replace HW := Lib.hid (HW.out.trans (hbz.mono HW.out.size)); clear hbz)
    | (go_at_call 77; (with_reducible refine (hHalf.out _ HW.out).mono ?_); rintro e wz ⟨hw, a3, c3, rfl, hrb⟩; have hw := hw.symm; subst hw; have HRB := Lib.hid hrb; clear hrb))
  go_ret
  exact ⟨rfl, HW.out⟩

set_option maxRecDepth 100000 in
set_option maxHeartbeats 8000000 in
theorem t_expr_5 (d : Nat) (hd : d ≤ 9) (HE : Txt 40 (exprT d) d) (HA : Txt 78 (atomT d) d) (HB : Txt 78 (atomT (d + 1)) (d + 1)) (a : Option Addr) (l c n : Nat) (r : List Nat) (w : World) (h : RB w a l c (n :: r)) (hm : n % 10 = 5) :
    Calls Try.prog 40 #[.slice a l c, .int .i64 ((d : Int) + 1)] w fun e w' => e = .returned (.string (strB (exprT (d + 1) (n :: r)))) ∧ Below w.heap.size w w' := by
  have hD0 : decide ((d : Int) + 1 < 1) = false := decide_eq_false (by omega)
  obtain ⟨b, off, rfl, hb, q0, rfl, hn⟩ := h.first
  have hr0 : ((r.length : Int) + 1 == 0) = false := by simp; omega
  have hcap := h.cap
  have hsm := h.small
  have em1 : (n : Int) % 10 = 5 := by omega
  have em2 : (n : Int).tmod 10 = 5 := by rw [Int.tmod_eq_emod_of_nonneg (by omega)]; exact em1
  obtain ⟨a1, c1, h1, hr1⟩ := h.from_ 1 (by omega)
  rw [List.drop_one, List.tail_cons, Nat.add_sub_cancel] at h1
  rw [Nat.add_sub_cancel] at hr1
  have hr1 : ∀ W, Sem.run Try.prog (Instr.slice 22 (.slice (some ⟨b, off, none⟩) (r.length + 1) c) (some (.int .i64 1)) none none) W = .ok (.slice a1 r.length c1) W := hr1
  have lHAr : (atomT d r).length ≤ 20000000 := Nat.le_trans (txt_len d r (fun x hx => h.le x (List.mem_cons_of_mem _ hx))).2 (by have : 4 ^ d ≤ 4 ^ 9 := Nat.pow_le_pow_right (by omega) hd; omega)
  have lHAh : (atomT d (halfL (n :: r))).length ≤ 20000000 := Nat.le_trans (txt_len d (halfL (n :: r)) (fun x hx => h.le x (List.mem_of_mem_drop hx))).2 (by have : 4 ^ d ≤ 4 ^ 9 := Nat.pow_le_pow_right (by omega) hd; omega)
  have T2 : ∀ W, Sem.run Try.prog (Op.stringOp .add (strB (atomT d r)) ⟨#[32]⟩) W = .ok (.string (strB (atomT d r ++ [32]))) W := run_plus (atomT d r) ([32]) rfl rfl rfl (by simp only [List.length_append, List.length_cons, List.length_nil]; omega)
  have T3 : ∀ W, Sem.run Try.prog (Op.stringOp .add (strB (atomT d r ++ [32])) (strB (atomT d (halfL (n :: r))))) W = .ok (.string (strB (atomT d r ++ [32] ++ atomT d (halfL (n :: r))))) W := run_plus (atomT d r ++ [32]) (atomT d (halfL (n :: r))) rfl rfl rfl (by simp only [List.length_append, List.length_cons, List.length_nil]; omega)
  have e : exprT (d + 1) (n :: r) = atomT d r ++ [32] ++ atomT d (halfL (n :: r)) := by
    rw [exprT_big, exprS, if_neg (by omega), if_neg (by omega), if_neg (by omega), if_neg (by omega), if_pos (by omega)]
  rw [e]
  have HAr := Lib.hid (fun w' (hw : Below w.heap.size w w') => HA (d : Int) rfl _ _ _ _ w' (h1.under hw))
  have HAh := Lib.hid (fun w' a' c' (hq : RB w' a' ((halfL (n :: r))).length c' ((halfL (n :: r)))) => HA (d : Int) rfl _ _ _ _ w' hq)
  have hHalf := Lib.hid (fun w' (hw : Below w.heap.size w w') => t_half _ _ _ _ w' (h.under hw))
  clear HE HA HB h h1 e hm lHAr lHAh 
  generalize atomT d r ++ [32] ++ atomT d (halfL (n :: r)) = S3 at *
  generalize atomT d r ++ [32] = S2 at *
  have HW := Lib.hid (Below.refl w.heap.size w)
  go_enter Try.func40, Try.ntmps40
  go_wp2_with (first
    | (go_at_call 78; (with_reducible refine (HAr.out _ HW.out).mono ?_); clear HAr; rintro e wz ⟨rfl, hbz⟩; replace HW := Lib.hid (HW.out.trans (hbz.mono HW.out.size)); clear hbz)
    | (go_at_call 78; (with_reducible refine (HAh.out _ _ _ HRB.out).mono ?_); clear HAh HRB; rintro e wz ⟨rfl, hbz⟩; replace HW := Lib.hid (HW.out.trans (hbz.mono HW.out.size)); clear hbz)
    | (go_at_call 77; (with_reducible refine (hHalf.out _ HW.out).mono ?_); rintro e wz ⟨hw, a3, c3, rfl, hrb⟩; have hw := hw.symm; subst hw; have HRB := Lib.hid hrb; clear hrb))
  go_ret
  exact ⟨rfl, HW.out⟩

set_option maxRecDepth 100000 in
set_option maxHeartbeats 8000000 in
theorem t_expr_6 (d : Nat) (hd : d ≤ 9) (HE : Txt 40 (exprT d) d) (HA : Txt 78 (atomT d) d) (HB : Txt 78 (atomT (d + 1)) (d + 1)) (a : Option Addr) (l c n : Nat) (r : List Nat) (w : World) (h : RB w a l c (n :: r)) (hm : n % 10 = 6) :
    Calls Try.prog 40 #[.slice a l c, .int .i64 ((d : Int) + 1)] w fun e w' => e = .returned (.string (strB (exprT (d + 1) (n :: r)))) ∧ Below w.heap.size w w' := by
  have hD0 : decide ((d : Int) + 1 < 1) = false := decide_eq_false (by omega)
  obtain ⟨b, off, rfl, hb, q0, rfl, hn⟩ := h.first
  have hr0 : ((r.length : Int) + 1 == 0) = false := by simp; omega
  have hcap := h.cap
  have hsm := h.small
  have em1 : (n : Int) % 10 = 6 := by omega
  have em2 : (n : Int).tmod 10 = 6 := by rw [Int.tmod_eq_emod_of_nonneg (by omega)]; exact em1
  obtain ⟨a1, c1, h1, hr1⟩ := h.from_ 1 (by omega)
  rw [List.drop_one, List.tail_cons, Nat.add_sub_cancel] at h1
  rw [Nat.add_sub_cancel] at hr1
  have hr1 : ∀ W, Sem.run Try.prog (Instr.slice 22 (.slice (some ⟨b, off, none⟩) (r.length + 1) c) (some (.int .i64 1)) none none) W = .ok (.slice a1 r.length c1) W := hr1
  have lHAr : (atomT d r).length ≤ 20000000 := Nat.le_trans (txt_len d r (fun x hx => h.le x (List.mem_cons_of_mem _ hx))).2 (by have : 4 ^ d ≤ 4 ^ 9 := Nat.pow_le_pow_right (by omega) hd; omega)
  have lHAh : (atomT d (halfL (n :: r))).length ≤ 20000000 := Nat.le_trans (txt_len d (halfL (n :: r)) (fun x hx => h.le x (List.mem_of_mem_drop hx))).2 (by have : 4 ^ d ≤ 4 ^ 9 := Nat.pow_le_pow_right (by omega) hd; omega)
  have T2 : ∀ W, Sem.run Try.prog (Op.stringOp .add (strB (atomT d r)) ⟨#[32]⟩) W = .ok (.string (strB (atomT d r ++ [32]))) W := run_plus (atomT d r) ([32]) rfl rfl rfl (by simp only [List.length_append, List.length_cons, List.length_nil]; omega)
  have T3 : ∀ W, Sem.run Try.prog (Op.stringOp .add (strB (atomT d r ++ [32])) (strB (atomT d (halfL (n :: r))))) W = .ok (.string (strB (atomT d r ++ [32] ++ atomT d (halfL (n :: r))))) W := run_plus (atomT d r ++ [32]) (atomT d (halfL (n :: r))) rfl rfl rfl (by simp only [List.length_append, List.length_cons, List.length_nil]; omega)
  have e : exprT (d + 1) (n :: r) = atomT d r ++ [32] ++ atomT d (halfL (n :: r)) := by
    rw [exprT_big, exprS, if_neg (by omega), if_neg (by omega), if_neg (by omega), if_neg (by omega), if_pos (by omega)]
  rw [e]
  have HAr := Lib.hid (fun w' (hw : Below w.heap.size w w') => HA (d : Int) rfl _ _ _ _ w' (h1.under hw))
  have HAh := Lib.hid (fun w' a' c' (hq : RB w' a' ((halfL (n :: r))).length c' ((halfL (n :: r)))) => HA (d : Int) rfl _ _ _ _ w' hq)
  have hHalf := Lib.hid (fun w' (hw : Below w.heap.size w w') => t_half _ _ _ _ w' (h.under hw))
  clear HE HA HB h h1 e hm lHAr lHAh 
  generalize atomT d r ++ [32] ++ atomT d (halfL (n :: r)) = S3 at *
  generalize atomT d r ++ [32] = S2 at *
  have HW := Lib.hid (Below.refl w.heap.size w)
  go_enter Try.func40, Try.ntmps40
  go_wp2_with (first
    | (go_at_call 78; (with_reducible refine (HAr.out _ HW.out).mono ?_); clear HAr; rintro e wz ⟨rfl, hbz⟩; replace HW := Lib.hid (HW.out.trans (hbz.mono HW.out.size)); clear hbz)
    | (go_at_call 78; (with_reducible refine (HAh.out _ _ _ HRB.out).mono ?_); clear HAh HRB; rintro e wz ⟨rfl, hbz⟩; replace HW := Lib.hid (HW.out.trans (hbz.mono HW.out.size)); clear hbz)
    | (go_at_call 77; (with_reducible refine (hHalf.out _ HW.out).mono ?_); rintro e wz ⟨hw, a3, c3, rfl, hrb⟩; have hw := hw.symm; subst hw; have HRB := Lib.hid hrb; clear hrb))
  go_ret
  exact ⟨rfl, HW.out⟩

set_option maxRecDepth 100000 in
set_option maxHeartbeats 8000000 in
theorem t_expr_7 (d : Nat) (hd : d ≤ 9) (HE : Txt 40 (exprT d) d) (HA : Txt 78 (atomT d) d) (HB : Txt 78 (atomT (d + 1)) (d + 1)) (a : Option Addr) (l c n : Nat) (r : List Nat) (w : World) (h : RB w a l c (n :: r)) (hm : n % 10 = 7) :
    Calls Try.prog 40 #[.slice a l c, .int .i64 ((d : Int) + 1)] w fun e w' => e = .returned (.string (strB (exprT (d + 1) (n :: r)))) ∧ Below w.heap.size w w' := by
  have hD0 : decide ((d : Int) + 1 < 1) = false := decide_eq_false (by omega)
  obtain ⟨b, off, rfl, hb, q0, rfl, hn⟩ := h.first
  have hr0 : ((r.length : Int) + 1 == 0) = false := by simp; omega
  have hcap := h.cap
  have hsm := h.small
  have em1 : (n : Int) % 10 = 7 := by omega
  have em2 : (n : Int).tmod 10 = 7 := by rw [Int.tmod_eq_emod_of_nonneg (by omega)]; exact em1
  obtain ⟨a1, c1, h1, hr1⟩ := h.from_ 1 (by omega)
  rw [List.drop_one, List.tail_cons, Nat.add_sub_cancel] at h1
  rw [Nat.add_sub_cancel] at hr1
  have hr1 : ∀ W, Sem.run Try.prog (Instr.slice 22 (.slice (some ⟨b, off, none⟩) (r.length + 1) c) (some (.int .i64 1)) none none) W = .ok (.slice a1 r.length c1) W := hr1
  have lHAr : (atomT d r).length ≤ 20000000 := Nat.le_trans (txt_len d r (fun x hx => h.le x (List.mem_cons_of_mem _ hx))).2 (by have : 4 ^ d ≤ 4 ^ 9 := Nat.pow_le_pow_right (by omega) hd; omega)
  have lHAh : (atomT d (halfL (n :: r))).length ≤ 20000000 := Nat.le_trans (txt_len d (halfL (n :: r)) (fun x hx => h.le x (List.mem_of_mem_drop hx))).2 (by have : 4 ^ d ≤ 4 ^ 9 := Nat.pow_le_pow_right (by omega) hd; omega)
  have lHAhr : (atomT d (halfL r)).length ≤ 20000000 := Nat.le_trans (txt_len d (halfL r) (fun x hx => h.le x (List.mem_cons_of_mem _ (List.mem_of_mem_drop hx)))).2 (by have : 4 ^ d ≤ 4 ^ 9 := Nat.pow_le_pow_right (by omega) hd; omega)
  have T2 : ∀ W, Sem.run Try.prog (Op.stringOp .add (strB (atomT d r)) ⟨#[32]⟩) W = .ok (.string (strB (atomT d r ++ [32]))) W := run_plus (atomT d r) ([32]) rfl rfl rfl (by simp only [List.length_append, List.length_cons, List.length_nil]; omega)
  have T3 : ∀ W, Sem.run Try.prog (Op.stringOp .add (strB (atomT d r ++ [32])) (strB (atomT d (halfL (n :: r))))) W = .ok (.string (strB (atomT d r ++ [32] ++ atomT d (halfL (n :: r))))) W := run_plus (atomT d r ++ [32]) (atomT d (halfL (n :: r))) rfl rfl rfl (by simp only [List.length_append, List.length_cons, List.length_nil]; omega)
  have T4 : ∀ W, Sem.run Try.prog (Op.stringOp .add (strB (atomT d r ++ [32] ++ atomT d (halfL (n :: r)))) ⟨#[32]⟩) W = .ok (.string (strB (atomT d r ++ [32] ++ atomT d (halfL (n :: r)) ++ [32]))) W := run_plus (atomT d r ++ [32] ++ atomT d (halfL (n :: r))) ([32]) rfl rfl rfl (by simp only [List.length_append, List.length_cons, List.length_nil]; omega)
  have T5 : ∀ W, Sem.run Try.prog (Op.stringOp .add (strB (atomT d r ++ [32] ++ atomT d (halfL (n :: r)) ++ [32])) (strB (atomT d (halfL r)))) W = .ok (.string (strB (atomT d r ++ [32] ++ atomT d (halfL (n :: r)) ++ [32] ++ atomT d (halfL r)))) W := run_plus (atomT d r ++ [32] ++ atomT d (halfL (n :: r)) ++ [32]) (atomT d (halfL r)) rfl rfl rfl (by simp only [List.length_append, List.length_cons, List.length_nil]; omega)
  have e : exprT (d + 1) (n :: r) = atomT d r ++ [32] ++ atomT d (halfL (n :: r)) ++ [32] ++ atomT d (halfL r) := by
    rw [exprT_big, exprS, if_neg (by omega), if_neg (by omega), if_neg (by omega), if_neg (by omega), if_neg (by omega), if_pos (by omega)]
  rw [e]
  have HAr := Lib.hid (fun w' (hw : Below w.heap.size w w') => HA (d : Int) rfl _ _ _ _ w' (h1.under hw))
  have HAh := Lib.hid (fun w' a' c' (hq : RB w' a' ((halfL (n :: r))).length c' ((halfL (n :: r)))) => HA (d : Int) rfl _ _ _ _ w' hq)
  have HAhr := Lib.hid (fun w' a' c' (hq : RB w' a' ((halfL r)).length c' ((halfL r))) => HA (d : Int) rfl _ _ _ _ w' hq)
  have hHalf := Lib.hid (fun w' (hw : Below w.heap.size w w') => t_half _ _ _ _ w' (h.under hw))
  have hHalf2 := Lib.hid (fun w' (hw : Below w.heap.size w w') => t_half _ _ _ _ w' (h1.under hw))
  clear HE HA HB h h1 e hm lHAr lHAh lHAhr 
  generalize atomT d r ++ [32] ++ atomT d (halfL (n :: r)) ++ [32] ++ atomT d (halfL r) = S5 at *
  generalize atomT d r ++ [32] ++ atomT d (halfL (n :: r)) ++ [32] = S4 at *
  generalize atomT d r ++ [32] ++ atomT d (halfL (n :: r)) = S3 at *
  generalize atomT d r ++ [32] = S2 at *
  have HW := Lib.hid (Below.refl w.heap.size w)
  go_enter Try.func40, Try.ntmps40
  go_wp2_with (first
    | (go_at_call 78; (with_reducible refine (HAr.out _ HW.out).mono ?_); clear HAr; rintro e wz ⟨rfl, hbz⟩; replace HW := Lib.hid (HW.out.trans (hbz.mono HW.out.size)); clear hbz)
    | (go_at_call 78; (with_reducible refine (HAh.out _ _ _ HRB.out).mono ?_); clear HAh HRB; rintro e wz ⟨rfl, hbz⟩; replace HW := Lib.hid (HW.out.trans (hbz.mono HW.out.size)); clear hbz)
    | (go_at_call 78; (with_reducible refine (HAhr.out _ _ _ HRC.out).mono ?_); clear HAhr HRC; rintro e wz ⟨rfl, hbz⟩; replace HW := Lib.hid (HW.out.trans (hbz.mono HW.out.size)); clear hbz)
    | (go_at_call 77; (with_reducible refine (hHalf.out _ HW.out).mono ?_); rintro e wz ⟨hw, a3, c3, rfl, hrb⟩; have hw := hw.symm; subst hw; have HRB := Lib.hid hrb; clear hrb)
    | (go_at_call 77; (with_reducible refine (hHalf2.out _ HW.out).mono ?_); rintro e wz ⟨hw, a4, c4, rfl, hrb⟩; have hw := hw.symm; subst hw; have HRC := Lib.hid hrb; clear hrb))
  go_ret
  exact ⟨rfl, HW.out⟩

set_option maxRecDepth 100000 in
set_option maxHeartbeats 8000000 in
theorem t_expr_8 (d : Nat) (hd : d ≤ 9) (HE : Txt 40 (exprT d) d) (HA : Txt 78 (atomT d) d) (HB : Txt 78 (atomT (d + 1)) (d + 1)) (a : Option Addr) (l c n : Nat) (r : List Nat) (w : World) (h : RB w a l c (n :: r)) (hm : n % 10 = 8) :
    Calls Try.prog 40 #[.slice a l c, .int .i64 ((d : Int) + 1)] w fun e w' => e = .returned (.string (strB (exprT (d + 1) (n :: r)))) ∧ Below w.heap.size w w' := by
  have hD0 : decide ((d : Int) + 1 < 1) = false := decide_eq_false (by omega)
  obtain ⟨b, off, rfl, hb, q0, rfl, hn⟩ := h.first
  have hr0 : ((r.length : Int) + 1 == 0) = false := by simp; omega
  have hcap := h.cap
  have hsm := h.small
  have em1 : (n : Int) % 10 = 8 := by omega
  have em2 : (n : Int).tmod 10 = 8 := by rw [Int.tmod_eq_emod_of_nonneg (by omega)]; exact em1
  obtain ⟨a1, c1, h1, hr1⟩ := h.from_ 1 (by omega)
  rw [List.drop_one, List.tail_cons, Nat.add_sub_cancel] at h1
  rw [Nat.add_sub_cancel] at hr1
  have hr1 : ∀ W, Sem.run Try.prog (Instr.slice 22 (.slice (some ⟨b, off, none⟩) (r.length + 1) c) (some (.int .i64 1)) none none) W = .ok (.slice a1 r.length c1) W := hr1
  have HB1 := Lib.hid (fun w' (hw : Below w.heap.size w w') => HB ((d : Int) + 1) (by omega) _ _ _ _ w' (h.under hw))
  have e : exprT (d + 1) (n :: r) = atomT (d + 1) (n :: r) := by rw [exprT_big, exprS, if_neg (by omega), if_neg (by omega), if_neg (by omega), if_neg (by omega), if_neg (by omega), if_neg (by omega)]
  rw [e]
  clear HE HA HB h h1 e hm
  go_enter Try.func40, Try.ntmps40
  go_wp2_with (go_at_call 78; refine (HB1.out _ (Below.refl _ w)).mono ?_; rintro e w1 ⟨rfl, hb1⟩; have HZ := Lib.hid hb1; clear hb1)
  go_ret
  exact ⟨rfl, HZ.out⟩

set_option maxRecDepth 100000 in
set_option maxHeartbeats 8000000 in
theorem t_expr_9 (d : Nat) (hd : d ≤ 9) (HE : Txt 40 (exprT d) d) (HA : Txt 78 (atomT d) d) (HB : Txt 78 (atomT (d + 1)) (d + 1)) (a : Option Addr) (l c n : Nat) (r : List Nat) (w : World) (h : RB w a l c (n :: r)) (hm : n % 10 = 9) :
    Calls Try.prog 40 #[.slice a l c, .int .i64 ((d : Int) + 1)] w fun e w' => e = .returned (.string (strB (exprT (d + 1) (n :: r)))) ∧ Below w.heap.size w w' := by
  have hD0 : decide ((d : Int) + 1 < 1) = false := decide_eq_false (by omega)
  obtain ⟨b, off, rfl, hb, q0, rfl, hn⟩ := h.first
  have hr0 : ((r.length : Int) + 1 == 0) = false := by simp; omega
  have hcap := h.cap
  have hsm := h.small
  have em1 : (n : Int) % 10 = 9 := by omega
  have em2 : (n : Int).tmod 10 = 9 := by rw [Int.tmod_eq_emod_of_nonneg (by omega)]; exact em1
  obtain ⟨a1, c1, h1, hr1⟩ := h.from_ 1 (by omega)
  rw [List.drop_one, List.tail_cons, Nat.add_sub_cancel] at h1
  rw [Nat.add_sub_cancel] at hr1
  have hr1 : ∀ W, Sem.run Try.prog (Instr.slice 22 (.slice (some ⟨b, off, none⟩) (r.length + 1) c) (some (.int .i64 1)) none none) W = .ok (.slice a1 r.length c1) W := hr1
  have HB1 := Lib.hid (fun w' (hw : Below w.heap.size w w') => HB ((d : Int) + 1) (by omega) _ _ _ _ w' (h.under hw))
  have e : exprT (d + 1) (n :: r) = atomT (d + 1) (n :: r) := by rw [exprT_big, exprS, if_neg (by omega), if_neg (by omega), if_neg (by omega), if_neg (by omega), if_neg (by omega), if_neg (by omega)]
  rw [e]
  clear HE HA HB h h1 e hm
  go_enter Try.func40, Try.ntmps40
  go_wp2_with (go_at_call 78; refine (HB1.out _ (Below.refl _ w)).mono ?_; rintro e w1 ⟨rfl, hb1⟩; have HZ := Lib.hid hb1; clear hb1)
  go_ret
  exact ⟨rfl, HZ.out⟩

end Go.Proofs.Ytgkeblpjmfdhkaa

namespace Go.Proofs.Ytgkeblpjmfdhkaa
open Go.RowKit
set_option linter.unusedVariables false
set_option linter.unusedSimpArgs false

theorem exprT_big_r0 (d : Nat) (n : Nat) (r : List Nat) : exprT (d + 1) (n :: r) = exprS (exprT d) (atomT d) (atomT (d + 1)) (n :: r) := rfl

def noDst0 (s : Nat) (ops : Array Oper) : Bool := (List.range ops.size).all fun i => match ops[i]? with
  | some o => decide (o.dst ≠ some s)
  | none => true
theorem no_dst0 {s : Nat} {ops : Array Oper} (h : noDst0 s ops = true) : ∀ (i : Nat) (o : Oper), ops[i]? = some o → o.dst ≠ some s := fun i o hi => by
  have h1 := List.all_eq_true.1 h i (List.mem_range.2 (Array.getElem?_eq_some_iff.1 hi).1)
  rw [hi] at h1
  simpa using h1

set_option maxRecDepth 100000 in
set_option maxHeartbeats 8000000 in
theorem t_expr_0 (d : Nat) (hd : d ≤ 9) (HE : Txt 40 (exprT d) d) (HA : Txt 78 (atomT d) d) (HB : Txt 78 (atomT (d + 1)) (d + 1)) (a : Option Addr) (l c n : Nat) (r : List Nat) (w : World) (h : RB w a l c (n :: r)) (hm : n % 10 = 0) :
    Calls Try.prog 40 #[.slice a l c, .int .i64 ((d : Int) + 1)] w fun e w' => e = .returned (.string (strB (exprT (d + 1) (n :: r)))) ∧ Below w.heap.size w w' := by
  have hD0 : decide ((d : Int) + 1 < 1) = false := decide_eq_false (by omega)
  have hwd : IntKind.i64.wrap (d : Int) = (d : Int) := IntWalk.i64_in _ (by omega)
  obtain ⟨b, off, rfl, hb, q0, rfl, hn⟩ := h.first
  have hr0 : ((r.length : Int) + 1 == 0) = false := by simp; omega
  have hcap := h.cap
  have hsm := h.small
  have em1 : (n : Int) % 10 = 0 := by omega
  have em2 : (n : Int).tmod 10 = 0 := by rw [Int.tmod_eq_emod_of_nonneg (by omega)]; exact em1
  obtain ⟨a1, c1, h1, hr1⟩ := h.from_ 1 (by omega)
  rw [List.drop_one, List.tail_cons, Nat.add_sub_cancel] at h1
  rw [Nat.add_sub_cancel] at hr1
  have hr1 : ∀ W, Sem.run Try.prog (Instr.slice 22 (.slice (some ⟨b, off, none⟩) (r.length + 1) c) (some (.int .i64 1)) none none) W = .ok (.slice a1 r.length c1) W := hr1
  have lHEr : (exprT d r).length ≤ 20000000 := Nat.le_trans (txt_len d r (fun x hx => h.le x (List.mem_cons_of_mem _ hx))).1 (by have : 4 ^ d ≤ 4 ^ 9 := Nat.pow_le_pow_right (by omega) hd; omega)
  have llmA := getD_len lmA_len (n / 10 % 3)
  have llmB := getD_len lmB_len (n / 30 % 3)
  obtain ⟨qj, hqj⟩ : ∃ q, n / 10 = q := ⟨_, rfl⟩
  have ej1 : (n : Int) / 10 = (qj : Int) := by omega
  have ej2 : (n : Int).tdiv 10 = (qj : Int) := by rw [Int.tdiv_eq_ediv_of_nonneg (by omega)]; exact ej1
  obtain ⟨j, hj⟩ : ∃ j, qj % 3 = j := ⟨_, rfl⟩
  have ej3 : (qj : Int) % 3 = (j : Int) := by omega
  have ej4 : (qj : Int).tmod 3 = (j : Int) := by rw [Int.tmod_eq_emod_of_nonneg (by omega)]; exact ej3
  have hj3 : j < 3 := by omega
  have ej5 : IntKind.i64.wrap ((n : Int).tdiv 10) = (qj : Int) := by rw [ej2]; exact IntWalk.i64_in _ (by omega)
  have ej6 : IntKind.i64.wrap (qj : Int) = (qj : Int) := IntWalk.i64_in _ (by omega)
  rw [hqj, hj] at llmA
  obtain ⟨qi, hqi⟩ : ∃ q, n / 30 = q := ⟨_, rfl⟩
  have ei1 : (n : Int) / 30 = (qi : Int) := by omega
  have ei2 : (n : Int).tdiv 30 = (qi : Int) := by rw [Int.tdiv_eq_ediv_of_nonneg (by omega)]; exact ei1
  obtain ⟨i, hi⟩ : ∃ j, qi % 3 = j := ⟨_, rfl⟩
  have ei3 : (qi : Int) % 3 = (i : Int) := by omega
  have ei4 : (qi : Int).tmod 3 = (i : Int) := by rw [Int.tmod_eq_emod_of_nonneg (by omega)]; exact ei3
  have hi3 : i < 3 := by omega
  have ei5 : IntKind.i64.wrap ((n : Int).tdiv 30) = (qi : Int) := by rw [ei2]; exact IntWalk.i64_in _ (by omega)
  have ei6 : IntKind.i64.wrap (qi : Int) = (qi : Int) := IntWalk.i64_in _ (by omega)
  rw [hqi, hi] at llmB
  have glmA : ∀ h : j < ([.string ⟨#[120]⟩, .string ⟨#[121]⟩, .string ⟨#[102]⟩] : List Value).length, ([.string ⟨#[120]⟩, .string ⟨#[121]⟩, .string ⟨#[102]⟩] : List Value)[j] = .string (strB (lmA.getD j [])) := fun h => by
    rw [List.getD_eq_getElem?_getD, List.getElem?_eq_getElem (show j < lmA.length from hj3)]
    have e9 : j = 0 ∨ j = 1 ∨ j = 2 := by omega
    rcases e9 with rfl | rfl | rfl <;> rfl
  have klmA : ([.string ⟨#[120]⟩, .string ⟨#[121]⟩, .string ⟨#[102]⟩] : List Value)[j]? = some (.string (strB (lmA.getD j []))) := by
    have e9 : j = 0 ∨ j = 1 ∨ j = 2 := by omega
    rcases e9 with rfl | rfl | rfl <;> rfl
  have dlmA : ∀ W : World, (W.alloc (.cells #[.string ⟨#[120]⟩, .string ⟨#[121]⟩, .string ⟨#[102]⟩] 9)).cell? ⟨W.heap.size, j, none⟩ = some (.string (strB (lmA.getD j []))) := fun W => tab_cell W lmA j hj3 (vs := [.string ⟨#[120]⟩, .string ⟨#[121]⟩, .string ⟨#[102]⟩]) rfl
  have glmB : ∀ h : i < ([.string ⟨#[]⟩, .string ⟨#[32, 103]⟩, .string ⟨#[32, 120, 32, 121]⟩] : List Value).length, ([.string ⟨#[]⟩, .string ⟨#[32, 103]⟩, .string ⟨#[32, 120, 32, 121]⟩] : List Value)[i] = .string (strB (lmB.getD i [])) := fun h => by
    rw [List.getD_eq_getElem?_getD, List.getElem?_eq_getElem (show i < lmB.length from hi3)]
    have e9 : i = 0 ∨ i = 1 ∨ i = 2 := by omega
    rcases e9 with rfl | rfl | rfl <;> rfl
  have klmB : ([.string ⟨#[]⟩, .string ⟨#[32, 103]⟩, .string ⟨#[32, 120, 32, 121]⟩] : List Value)[i]? = some (.string (strB (lmB.getD i []))) := by
    have e9 : i = 0 ∨ i = 1 ∨ i = 2 := by omega
    rcases e9 with rfl | rfl | rfl <;> rfl
  have dlmB : ∀ W : World, (W.alloc (.cells #[.string ⟨#[]⟩, .string ⟨#[32, 103]⟩, .string ⟨#[32, 120, 32, 121]⟩] 9)).cell? ⟨W.heap.size, i, none⟩ = some (.string (strB (lmB.getD i []))) := fun W => tab_cell W lmB i hi3 (vs := [.string ⟨#[]⟩, .string ⟨#[32, 103]⟩, .string ⟨#[32, 120, 32, 121]⟩]) rfl
  have T2 : ∀ W, Sem.run Try.prog (Op.stringOp .add ⟨#[92]⟩ (strB (lmA.getD j []))) W = .ok (.string (strB ([92] ++ lmA.getD j []))) W := run_plus ([92]) (lmA.getD j []) rfl rfl rfl (by simp only [List.length_append, List.length_cons, List.length_nil]; omega)
  have T3 : ∀ W, Sem.run Try.prog (Op.stringOp .add (strB ([92] ++ lmA.getD j [])) (strB (lmB.getD i []))) W = .ok (.string (strB ([92] ++ lmA.getD j [] ++ lmB.getD i []))) W := run_plus ([92] ++ lmA.getD j []) (lmB.getD i []) rfl rfl rfl (by simp only [List.length_append, List.length_cons, List.length_nil]; omega)
  have T4 : ∀ W, Sem.run Try.prog (Op.stringOp .add (strB ([92] ++ lmA.getD j [] ++ lmB.getD i [])) ⟨#[32, 45, 62, 32]⟩) W = .ok (.string (strB ([92] ++ lmA.getD j [] ++ lmB.getD i [] ++ [32, 45, 62, 32]))) W := run_plus ([92] ++ lmA.getD j [] ++ lmB.getD i []) ([32, 45, 62, 32]) rfl rfl rfl (by simp only [List.length_append, List.length_cons, List.length_nil]; omega)
  have T5 : ∀ W, Sem.run Try.prog (Op.stringOp .add (strB ([92] ++ lmA.getD j [] ++ lmB.getD i [] ++ [32, 45, 62, 32])) (strB (exprT d r))) W = .ok (.string (strB ([92] ++ lmA.getD j [] ++ lmB.getD i [] ++ [32, 45, 62, 32] ++ exprT d r))) W := run_plus ([92] ++ lmA.getD j [] ++ lmB.getD i [] ++ [32, 45, 62, 32]) (exprT d r) rfl rfl rfl (by simp only [List.length_append, List.length_cons, List.length_nil]; omega)
  have e : exprT (d + 1) (n :: r) = [92] ++ lmA.getD j [] ++ lmB.getD i [] ++ [32, 45, 62, 32] ++ exprT d r := by
    rw [exprT_big_r0, exprS, if_pos (by omega)]; rw [hqj, hj, hqi, hi]
  rw [e]
  have HEr := Lib.hid (fun w' (hw : Below w.heap.size w w') => HE (d : Int) rfl _ _ _ _ w' (h1.under hw))
  clear HE HA HB h h1 e hm lHEr llmA llmB
  clear hqj hj hqi hi
  generalize [92] ++ lmA.getD j [] ++ lmB.getD i [] ++ [32, 45, 62, 32] ++ exprT d r = S5 at *
  generalize [92] ++ lmA.getD j [] ++ lmB.getD i [] ++ [32, 45, 62, 32] = S4 at *
  generalize [92] ++ lmA.getD j [] ++ lmB.getD i [] = S3 at *
  generalize [92] ++ lmA.getD j [] = S2 at *
  generalize lmA.getD j [] = N_lmA at *
  generalize lmB.getD i [] = N_lmB at *
  have HW := Lib.hid (Below.refl w.heap.size w)
  go_enter Try.func40, Try.ntmps40
  go_wp2_with fail
  rename_i K9 hK9
  refine wp_region_typed (V := fun z => (([.tab 3 j (.string (strB N_lmA)), .val (.int .i64 (n : Int)), .val (.int .i64 (qj : Int)), .val (.int .i64 (j : Int)), .ptr j (.string (strB N_lmA)), .val (.string (strB N_lmA)), .val (.string (strB S2)), .tab 3 i (.string (strB N_lmB)), .val (.int .i64 (n : Int)), .val (.int .i64 (qi : Int)), .val (.int .i64 (i : Int)), .ptr i (.string (strB N_lmB)), .val (.string (strB N_lmB)), .val (.string (strB S3)), .val (.string (strB S4)), .val (.slice a1 r.length c1), .val (.int .i64 ((d : Int) + 1)), .val (.int .i64 (d : Int)), .val (.string (strB (exprT d r))), .val (.string (strB S5)), .val (.string (strB S5))] : List Kd).getD z (.val undef)).is) (by rfl) (fun z v w w' h hb => Kd.keep h hb) (by kernel_rfl) (dst_in (by kernel_rfl)) ?_ ?_
  · intro z o a w1 hi hb1 hrest hdep
    have hlt : z < 21 := (Array.getElem?_eq_some_iff.1 hi).1
    have ez : z = 0 ∨ z = 1 ∨ z = 2 ∨ z = 3 ∨ z = 4 ∨ z = 5 ∨ z = 6 ∨ z = 7 ∨ z = 8 ∨ z = 9 ∨ z = 10 ∨ z = 11 ∨ z = 12 ∨ z = 13 ∨ z = 14 ∨ z = 15 ∨ z = 16 ∨ z = 17 ∨ z = 18 ∨ z = 19 ∨ z = 20 := by omega
    rcases ez with rfl | rfl | rfl | rfl | rfl | rfl | rfl | rfl | rfl | rfl | rfl | rfl | rfl | rfl | rfl | rfl | rfl | rfl | rfl | rfl | rfl
    · -- 0
      obtain rfl := Option.some.inj hi
      exact wpOp_of rfl rfl (wp_run (v := .slice (some ⟨w1.heap.size, 0, none⟩) 3 3) (w' := w1.alloc (.cells #[.string ⟨#[120]⟩, .string ⟨#[121]⟩, .string ⟨#[102]⟩] 9)) (by simp only [execOp]; go_simp) ⟨_, rfl, ⟨w1.heap.size, rfl, by simp, dlmA w1⟩, (Below.refl _ w1).alloc (Nat.le_refl _) _⟩)
    · -- 1
      obtain rfl := Option.some.inj hi
      have e5 : a.eval (.tmp 5) = .int .i64 (n : Int) := eval_of ((hrest 5 (no_dst0 (by kernel_rfl))).trans rfl)
      have h5 : a.tmps[5]? = some (.int .i64 (n : Int)) := (hrest 5 (no_dst0 (by kernel_rfl))).trans rfl
      exact wpOp_of rfl rfl (wp_run (v := .int .i64 (n : Int)) (w' := w1) (by simp only [execOp]; go_simp) ⟨_, rfl, rfl, Below.refl _ w1⟩)
    · -- 2
      obtain rfl := Option.some.inj hi
      obtain ⟨u26, h26, g26⟩ := hdep ⟨1, .data⟩ (by simp) rfl _ 26 rfl rfl
      have g26 : u26 = .int .i64 (n : Int) := g26
      subst g26
      have e26 := eval_of h26
      exact wpOp_of rfl rfl (wp_run (v := .int .i64 (qj : Int)) (w' := w1) (by simp only [execOp, e26]; go_simp) ⟨_, rfl, rfl, Below.refl _ w1⟩)
    · -- 3
      obtain rfl := Option.some.inj hi
      obtain ⟨u27, h27, g27⟩ := hdep ⟨2, .data⟩ (by simp) rfl _ 27 rfl rfl
      have g27 : u27 = .int .i64 (qj : Int) := g27
      subst g27
      have e27 := eval_of h27
      exact wpOp_of rfl rfl (wp_run (v := .int .i64 (j : Int)) (w' := w1) (by simp only [execOp, e27]; go_simp) ⟨_, rfl, rfl, Below.refl _ w1⟩)
    · -- 4
      obtain rfl := Option.some.inj hi
      obtain ⟨u25, h25, g25⟩ := hdep ⟨0, .data⟩ (by simp) rfl _ 25 rfl rfl
      obtain ⟨b25, rfl, l25, c25⟩ := g25
      have e25 := eval_of h25
      obtain ⟨u28, h28, g28⟩ := hdep ⟨3, .data⟩ (by simp) rfl _ 28 rfl rfl
      have g28 : u28 = .int .i64 (j : Int) := g28
      subst g28
      have e28 := eval_of h28
      exact wpOp_of rfl rfl (wp_run (v := .pointer (some ⟨b25, j, none⟩)) (w' := w1) (by simp only [execOp, e25, e28]; go_simp; try (intro h9; omega)) ⟨_, rfl, ⟨b25, rfl, l25, c25⟩, Below.refl _ w1⟩)
    · -- 5
      obtain rfl := Option.some.inj hi
      obtain ⟨u29, h29, g29⟩ := hdep ⟨4, .data⟩ (by simp) rfl _ 29 rfl rfl
      obtain ⟨b29, rfl, l29, c29⟩ := g29
      have e29 := eval_of h29
      exact wpOp_of rfl rfl (wp_run (v := .string (strB N_lmA)) (w' := w1) (by simp only [execOp, e29]; go_simp) ⟨_, rfl, rfl, Below.refl _ w1⟩)
    · -- 6
      obtain rfl := Option.some.inj hi
      obtain ⟨u30, h30, g30⟩ := hdep ⟨5, .data⟩ (by simp) rfl _ 30 rfl rfl
      have g30 : u30 = .string (strB N_lmA) := g30
      subst g30
      have e30 := eval_of h30
      exact wpOp_of rfl rfl (wp_run (v := .string (strB S2)) (w' := w1) (by simp only [execOp, e30]; go_simp) ⟨_, rfl, rfl, Below.refl _ w1⟩)
    · -- 7
      obtain rfl := Option.some.inj hi
      exact wpOp_of rfl rfl (wp_run (v := .slice (some ⟨w1.heap.size, 0, none⟩) 3 3) (w' := w1.alloc (.cells #[.string ⟨#[]⟩, .string ⟨#[32, 103]⟩, .string ⟨#[32, 120, 32, 121]⟩] 9)) (by simp only [execOp]; go_simp) ⟨_, rfl, ⟨w1.heap.size, rfl, by simp, dlmB w1⟩, (Below.refl _ w1).alloc (Nat.le_refl _) _⟩)
    · -- 8
      obtain rfl := Option.some.inj hi
      have e5 : a.eval (.tmp 5) = .int .i64 (n : Int) := eval_of ((hrest 5 (no_dst0 (by kernel_rfl))).trans rfl)
      have h5 : a.tmps[5]? = some (.int .i64 (n : Int)) := (hrest 5 (no_dst0 (by kernel_rfl))).trans rfl
      exact wpOp_of rfl rfl (wp_run (v := .int .i64 (n : Int)) (w' := w1) (by simp only [execOp]; go_simp) ⟨_, rfl, rfl, Below.refl _ w1⟩)
    · -- 9
      obtain rfl := Option.some.inj hi
      obtain ⟨u33, h33, g33⟩ := hdep ⟨8, .data⟩ (by simp) rfl _ 33 rfl rfl
      have g33 : u33 = .int .i64 (n : Int) := g33
      subst g33
      have e33 := eval_of h33
      exact wpOp_of rfl rfl (wp_run (v := .int .i64 (qi : Int)) (w' := w1) (by simp only [execOp, e33]; go_simp) ⟨_, rfl, rfl, Below.refl _ w1⟩)
    · -- 10
      obtain rfl := Option.some.inj hi
      obtain ⟨u34, h34, g34⟩ := hdep ⟨9, .data⟩ (by simp) rfl _ 34 rfl rfl
      have g34 : u34 = .int .i64 (qi : Int) := g34
      subst g34
      have e34 := eval_of h34
      exact wpOp_of rfl rfl (wp_run (v := .int .i64 (i : Int)) (w' := w1) (by simp only [execOp, e34]; go_simp) ⟨_, rfl, rfl, Below.refl _ w1⟩)
    · -- 11
      obtain rfl := Option.some.inj hi
      obtain ⟨u32, h32, g32⟩ := hdep ⟨7, .data⟩ (by simp) rfl _ 32 rfl rfl
      obtain ⟨b32, rfl, l32, c32⟩ := g32
      have e32 := eval_of h32
      obtain ⟨u35, h35, g35⟩ := hdep ⟨10, .data⟩ (by simp) rfl _ 35 rfl rfl
      have g35 : u35 = .int .i64 (i : Int) := g35
      subst g35
      have e35 := eval_of h35
      exact wpOp_of rfl rfl (wp_run (v := .pointer (some ⟨b32, i, none⟩)) (w' := w1) (by simp only [execOp, e32, e35]; go_simp; try (intro h9; omega)) ⟨_, rfl, ⟨b32, rfl, l32, c32⟩, Below.refl _ w1⟩)
    · -- 12
      obtain rfl := Option.some.inj hi
      obtain ⟨u36, h36, g36⟩ := hdep ⟨11, .data⟩ (by simp) rfl _ 36 rfl rfl
      obtain ⟨b36, rfl, l36, c36⟩ := g36
      have e36 := eval_of h36
      exact wpOp_of rfl rfl (wp_run (v := .string (strB N_lmB)) (w' := w1) (by simp only [execOp, e36]; go_simp) ⟨_, rfl, rfl, Below.refl _ w1⟩)
    · -- 13
      obtain rfl := Option.some.inj hi
      obtain ⟨u31, h31, g31⟩ := hdep ⟨6, .data⟩ (by simp) rfl _ 31 rfl rfl
      have g31 : u31 = .string (strB S2) := g31
      subst g31
      have e31 := eval_of h31
      obtain ⟨u37, h37, g37⟩ := hdep ⟨12, .data⟩ (by simp) rfl _ 37 rfl rfl
      have g37 : u37 = .string (strB N_lmB) := g37
      subst g37
      have e37 := eval_of h37
      exact wpOp_of rfl rfl (wp_run (v := .string (strB S3)) (w' := w1) (by simp only [execOp, e31, e37]; go_simp) ⟨_, rfl, rfl, Below.refl _ w1⟩)
    · -- 14
      obtain rfl := Option.some.inj hi
      obtain ⟨u38, h38, g38⟩ := hdep ⟨13, .data⟩ (by simp) rfl _ 38 rfl rfl
      have g38 : u38 = .string (strB S3) := g38
      subst g38
      have e38 := eval_of h38
      exact wpOp_of rfl rfl (wp_run (v := .string (strB S4)) (w' := w1) (by simp only [execOp, e38]; go_simp) ⟨_, rfl, rfl, Below.refl _ w1⟩)
    · -- 15
      obtain rfl := Option.some.inj hi
      have e6 : a.eval (.tmp 6) = .slice a1 r.length c1 := eval_of ((hrest 6 (no_dst0 (by kernel_rfl))).trans rfl)
      have h6 : a.tmps[6]? = some (.slice a1 r.length c1) := (hrest 6 (no_dst0 (by kernel_rfl))).trans rfl
      exact wpOp_of rfl rfl (wp_run (v := .slice a1 r.length c1) (w' := w1) (by simp only [execOp]; go_simp) ⟨_, rfl, rfl, Below.refl _ w1⟩)
    · -- 16
      obtain rfl := Option.some.inj hi
      have e1 : a.eval (.tmp 1) = .int .i64 ((d : Int) + 1) := eval_of ((hrest 1 (no_dst0 (by kernel_rfl))).trans rfl)
      have h1 : a.tmps[1]? = some (.int .i64 ((d : Int) + 1)) := (hrest 1 (no_dst0 (by kernel_rfl))).trans rfl
      exact wpOp_of rfl rfl (wp_run (v := .int .i64 ((d : Int) + 1)) (w' := w1) (by simp only [execOp]; go_simp) ⟨_, rfl, rfl, Below.refl _ w1⟩)
    · -- 17
      obtain rfl := Option.some.inj hi
      obtain ⟨u41, h41, g41⟩ := hdep ⟨16, .data⟩ (by simp) rfl _ 41 rfl rfl
      have g41 : u41 = .int .i64 ((d : Int) + 1) := g41
      subst g41
      have e41 := eval_of h41
      exact wpOp_of rfl rfl (wp_run (v := .int .i64 (d : Int)) (w' := w1) (by simp only [execOp, e41]; go_simp) ⟨_, rfl, rfl, Below.refl _ w1⟩)
    · -- 18
      obtain rfl := Option.some.inj hi
      obtain ⟨u40, h40, g40⟩ := hdep ⟨15, .data⟩ (by simp) rfl _ 40 rfl rfl
      have g40 : u40 = .slice a1 r.length c1 := g40
      subst g40
      have e40 := eval_of h40
      obtain ⟨u42, h42, g42⟩ := hdep ⟨17, .data⟩ (by simp) rfl _ 42 rfl rfl
      have g42 : u42 = .int .i64 (d : Int) := g42
      subst g42
      have e42 := eval_of h42
      exact wpOp_of rfl rfl (wp_call2 _ _ Try.func40 (by decide) (by intro hh; cases hh) _ _ _ _ e40 e42 _ rfl (HEr.out w1 hb1) (fun w' hb => ⟨_, rfl, rfl, hb⟩))
    · -- 19
      obtain rfl := Option.some.inj hi
      obtain ⟨u39, h39, g39⟩ := hdep ⟨14, .data⟩ (by simp) rfl _ 39 rfl rfl
      have g39 : u39 = .string (strB S4) := g39
      subst g39
      have e39 := eval_of h39
      obtain ⟨u43, h43, g43⟩ := hdep ⟨18, .data⟩ (by simp) rfl _ 43 rfl rfl
      have g43 : u43 = .string (strB (exprT d r)) := g43
      subst g43
      have e43 := eval_of h43
      exact wpOp_of rfl rfl (wp_run (v := .string (strB S5)) (w' := w1) (by simp only [execOp, e39, e43]; go_simp) ⟨_, rfl, rfl, Below.refl _ w1⟩)
    · -- 20
      obtain rfl := Option.some.inj hi
      obtain ⟨u44, h44, g44⟩ := hdep ⟨19, .data⟩ (by simp) rfl _ 44 rfl rfl
      have g44 : u44 = .string (strB S5) := g44
      subst g44
      have e44 := eval_of h44
      exact wpOp_of rfl rfl (wp_run (v := .string (strB S5)) (w' := w1) (by simp only [execOp, e44]; go_simp) ⟨_, rfl, rfl, Below.refl _ w1⟩)
  · intro listed a w2 h hr
    have hl := all_listed (by kernel_rfl) h.lsize hr
    obtain ⟨v, h4, hv⟩ := h.done 20 _ 4 rfl rfl (hl 20 (by decide))
    have hv : v = .string (strB S5) := hv
    subst hv
    have hb := h.below
    have hdf : a.defers = [] := h.defers
    clear hl hr h
    refine hK9 _ _ (wp_ret ?_)
    show bodyPost Try.prog Try.f40 (fun e w' => e = .returned (.string (strB S5)) ∧ Below w.heap.size w w') Exit.ret a w2
    exact bodyPost_ret (v := .string (strB S5)) (by simp only [results, Try.results40]; go_simp) hdf ⟨rfl, hb⟩

end Go.Proofs.Ytgkeblpjmfdhkaa

namespace Go.Proofs.Ytgkeblpjmfdhkaa
open Go.RowKit
set_option linter.unusedVariables false
set_option linter.unusedSimpArgs false

theorem exprT_big_r1 (d : Nat) (n : Nat) (r : List Nat) : exprT (d + 1) (n :: r) = exprS (exprT d) (atomT d) (atomT (d + 1)) (n :: r) := rfl

def noDst1 (s : Nat) (ops : Array Oper) : Bool := (List.range ops.size).all fun i => match ops[i]? with
  | some o => decide (o.dst ≠ some s)
  | none => true
theorem no_dst1 {s : Nat} {ops : Array Oper} (h : noDst1 s ops = true) : ∀ (i : Nat) (o : Oper), ops[i]? = some o → o.dst ≠ some s := fun i o hi => by
  have h1 := List.all_eq_true.1 h i (List.mem_range.2 (Array.getElem?_eq_some_iff.1 hi).1)
  rw [hi] at h1
  simpa using h1

set_option maxRecDepth 100000 in
set_option maxHeartbeats 8000000 in
theorem t_expr_1 (d : Nat) (hd : d ≤ 9) (HE : Txt 40 (exprT d) d) (HA : Txt 78 (atomT d) d) (HB : Txt 78 (atomT (d + 1)) (d + 1)) (a : Option Addr) (l c n : Nat) (r : List Nat) (w : World) (h : RB w a l c (n :: r)) (hm : n % 10 = 1) :
    Calls Try.prog 40 #[.slice a l c, .int .i64 ((d : Int) + 1)] w fun e w' => e = .returned (.string (strB (exprT (d + 1) (n :: r)))) ∧ Below w.heap.size w w' := by
  have hD0 : decide ((d : Int) + 1 < 1) = false := decide_eq_false (by omega)
  have hwd : IntKind.i64.wrap (d : Int) = (d : Int) := IntWalk.i64_in _ (by omega)
  obtain ⟨b, off, rfl, hb, q0, rfl, hn⟩ := h.first
  have hr0 : ((r.length : Int) + 1 == 0) = false := by simp; omega
  have hcap := h.cap
  have hsm := h.small
  have em1 : (n : Int) % 10 = 1 := by omega
  have em2 : (n : Int).tmod 10 = 1 := by rw [Int.tmod_eq_emod_of_nonneg (by omega)]; exact em1
  obtain ⟨a1, c1, h1, hr1⟩ := h.from_ 1 (by omega)
  rw [List.drop_one, List.tail_cons, Nat.add_sub_cancel] at h1
  rw [Nat.add_sub_cancel] at hr1
  have hr1 : ∀ W, Sem.run Try.prog (Instr.slice 22 (.slice (some ⟨b, off, none⟩) (r.length + 1) c) (some (.int .i64 1)) none none) W = .ok (.slice a1 r.length c1) W := hr1
  have lHEr : (exprT d r).length ≤ 20000000 := Nat.le_trans (txt_len d r (fun x hx => h.le x (List.mem_cons_of_mem _ hx))).1 (by have : 4 ^ d ≤ 4 ^ 9 := Nat.pow_le_pow_right (by omega) hd; omega)
  have llmA := getD_len lmA_len (n / 10 % 3)
  have llmB := getD_len lmB_len (n / 30 % 3)
  obtain ⟨qj, hqj⟩ : ∃ q, n / 10 = q := ⟨_, rfl⟩
  have ej1 : (n : Int) / 10 = (qj : Int) := by omega
  have ej2 : (n : Int).tdiv 10 = (qj : Int) := by rw [Int.tdiv_eq_ediv_of_nonneg (by omega)]; exact ej1
  obtain ⟨j, hj⟩ : ∃ j, qj % 3 = j := ⟨_, rfl⟩
  have ej3 : (qj : Int) % 3 = (j : Int) := by omega
  have ej4 : (qj : Int).tmod 3 = (j : Int) := by rw [Int.tmod_eq_emod_of_nonneg (by omega)]; exact ej3
  have hj3 : j < 3 := by omega
  have ej5 : IntKind.i64.wrap ((n : Int).tdiv 10) = (qj : Int) := by rw [ej2]; exact IntWalk.i64_in _ (by omega)
  have ej6 : IntKind.i64.wrap (qj : Int) = (qj : Int) := IntWalk.i64_in _ (by omega)
  rw [hqj, hj] at llmA
  obtain ⟨qi, hqi⟩ : ∃ q, n / 30 = q := ⟨_, rfl⟩
  have ei1 : (n : Int) / 30 = (qi : Int) := by omega
  have ei2 : (n : Int).tdiv 30 = (qi : Int) := by rw [Int.tdiv_eq_ediv_of_nonneg (by omega)]; exact ei1
  obtain ⟨i, hi⟩ : ∃ j, qi % 3 = j := ⟨_, rfl⟩
  have ei3 : (qi : Int) % 3 = (i : Int) := by omega
  have ei4 : (qi : Int).tmod 3 = (i : Int) := by rw [Int.tmod_eq_emod_of_nonneg (by omega)]; exact ei3
  have hi3 : i < 3 := by omega
  have ei5 : IntKind.i64.wrap ((n : Int).tdiv 30) = (qi : Int) := by rw [ei2]; exact IntWalk.i64_in _ (by omega)
  have ei6 : IntKind.i64.wrap (qi : Int) = (qi : Int) := IntWalk.i64_in _ (by omega)
  rw [hqi, hi] at llmB
  have glmA : ∀ h : j < ([.string ⟨#[120]⟩, .string ⟨#[121]⟩, .string ⟨#[102]⟩] : List Value).length, ([.string ⟨#[120]⟩, .string ⟨#[121]⟩, .string ⟨#[102]⟩] : List Value)[j] = .string (strB (lmA.getD j [])) := fun h => by
    rw [List.getD_eq_getElem?_getD, List.getElem?_eq_getElem (show j < lmA.length from hj3)]
    have e9 : j = 0 ∨ j = 1 ∨ j = 2 := by omega
    rcases e9 with rfl | rfl | rfl <;> rfl
  have klmA : ([.string ⟨#[120]⟩, .string ⟨#[121]⟩, .string ⟨#[102]⟩] : List Value)[j]? = some (.string (strB (lmA.getD j []))) := by
    have e9 : j = 0 ∨ j = 1 ∨ j = 2 := by omega
    rcases e9 with rfl | rfl | rfl <;> rfl
  have dlmA : ∀ W : World, (W.alloc (.cells #[.string ⟨#[120]⟩, .string ⟨#[121]⟩, .string ⟨#[102]⟩] 9)).cell? ⟨W.heap.size, j, none⟩ = some (.string (strB (lmA.getD j []))) := fun W => tab_cell W lmA j hj3 (vs := [.string ⟨#[120]⟩, .string ⟨#[121]⟩, .string ⟨#[102]⟩]) rfl
  have glmB : ∀ h : i < ([.string ⟨#[]⟩, .string ⟨#[32, 103]⟩, .string ⟨#[32, 120, 32, 121]⟩] : List Value).length, ([.string ⟨#[]⟩, .string ⟨#[32, 103]⟩, .string ⟨#[32, 120, 32, 121]⟩] : List Value)[i] = .string (strB (lmB.getD i [])) := fun h => by
    rw [List.getD_eq_getElem?_getD, List.getElem?_eq_getElem (show i < lmB.length from hi3)]
    have e9 : i = 0 ∨ i = 1 ∨ i = 2 := by omega
    rcases e9 with rfl | rfl | rfl <;> rfl
  have klmB : ([.string ⟨#[]⟩, .string ⟨#[32, 103]⟩, .string ⟨#[32, 120, 32, 121]⟩] : List Value)[i]? = some (.string (strB (lmB.getD i []))) := by
    have e9 : i = 0 ∨ i = 1 ∨ i = 2 := by omega
    rcases e9 with rfl | rfl | rfl <;> rfl
  have dlmB : ∀ W : World, (W.alloc (.cells #[.string ⟨#[]⟩, .string ⟨#[32, 103]⟩, .string ⟨#[32, 120, 32, 121]⟩] 9)).cell? ⟨W.heap.size, i, none⟩ = some (.string (strB (lmB.getD i []))) := fun W => tab_cell W lmB i hi3 (vs := [.string ⟨#[]⟩, .string ⟨#[32, 103]⟩, .string ⟨#[32, 120, 32, 121]⟩]) rfl
  have T2 : ∀ W, Sem.run Try.prog (Op.stringOp .add ⟨#[92]⟩ (strB (lmA.getD j []))) W = .ok (.string (strB ([92] ++ lmA.getD j []))) W := run_plus ([92]) (lmA.getD j []) rfl rfl rfl (by simp only [List.length_append, List.length_cons, List.length_nil]; omega)
  have T3 : ∀ W, Sem.run Try.prog (Op.stringOp .add (strB ([92] ++ lmA.getD j [])) (strB (lmB.getD i []))) W = .ok (.string (strB ([92] ++ lmA.getD j [] ++ lmB.getD i []))) W := run_plus ([92] ++ lmA.getD j []) (lmB.getD i []) rfl rfl rfl (by simp only [List.length_append, List.length_cons, List.length_nil]; omega)
  have T4 : ∀ W, Sem.run Try.prog (Op.stringOp .add (strB ([92] ++ lmA.getD j [] ++ lmB.getD i [])) ⟨#[32, 45, 62, 32]⟩) W = .ok (.string (strB ([92] ++ lmA.getD j [] ++ lmB.getD i [] ++ [32, 45, 62, 32]))) W := run_plus ([92] ++ lmA.getD j [] ++ lmB.getD i []) ([32, 45, 62, 32]) rfl rfl rfl (by simp only [List.length_append, List.length_cons, List.length_nil]; omega)
  have T5 : ∀ W, Sem.run Try.prog (Op.stringOp .add (strB ([92] ++ lmA.getD j [] ++ lmB.getD i [] ++ [32, 45, 62, 32])) (strB (exprT d r))) W = .ok (.string (strB ([92] ++ lmA.getD j [] ++ lmB.getD i [] ++ [32, 45, 62, 32] ++ exprT d r))) W := run_plus ([92] ++ lmA.getD j [] ++ lmB.getD i [] ++ [32, 45, 62, 32]) (exprT d r) rfl rfl rfl (by simp only [List.length_append, List.length_cons, List.length_nil]; omega)
  have e : exprT (d + 1) (n :: r) = [92] ++ lmA.getD j [] ++ lmB.getD i [] ++ [32, 45, 62, 32] ++ exprT d r := by
    rw [exprT_big_r1, exprS, if_pos (by omega)]; rw [hqj, hj, hqi, hi]
  rw [e]
  have HEr := Lib.hid (fun w' (hw : Below w.heap.size w w') => HE (d : Int) rfl _ _ _ _ w' (h1.under hw))
  clear HE HA HB h h1 e hm lHEr llmA llmB
  clear hqj hj hqi hi
  generalize [92] ++ lmA.getD j [] ++ lmB.getD i [] ++ [32, 45, 62, 32] ++ exprT d r = S5 at *
  generalize [92] ++ lmA.getD j [] ++ lmB.getD i [] ++ [32, 45, 62, 32] = S4 at *
  generalize [92] ++ lmA.getD j [] ++ lmB.getD i [] = S3 at *
  generalize [92] ++ lmA.getD j [] = S2 at *
  generalize lmA.getD j [] = N_lmA at *
  generalize lmB.getD i [] = N_lmB at *
  have HW := Lib.hid (Below.refl w.heap.size w)
  go_enter Try.func40, Try.ntmps40
  go_wp2_with fail
  rename_i K9 hK9
  refine wp_region_typed (V := fun z => (([.tab 3 j (.string (strB N_lmA)), .val (.int .i64 (n : Int)), .val (.int .i64 (qj : Int)), .val (.int .i64 (j : Int)), .ptr j (.string (strB N_lmA)), .val (.string (strB N_lmA)), .val (.string (strB S2)), .tab 3 i (.string (strB N_lmB)), .val (.int .i64 (n : Int)), .val (.int .i64 (qi : Int)), .val (.int .i64 (i : Int)), .ptr i (.string (strB N_lmB)), .val (.string (strB N_lmB)), .val (.string (strB S3)), .val (.string (strB S4)), .val (.slice a1 r.length c1), .val (.int .i64 ((d : Int) + 1)), .val (.int .i64 (d : Int)), .val (.string (strB (exprT d r))), .val (.string (strB S5)), .val (.string (strB S5))] : List Kd).getD z (.val undef)).is) (by rfl) (fun z v w w' h hb => Kd.keep h hb) (by kernel_rfl) (dst_in (by kernel_rfl)) ?_ ?_
  · intro z o a w1 hi hb1 hrest hdep
    have hlt : z < 21 := (Array.getElem?_eq_some_iff.1 hi).1
    have ez : z = 0 ∨ z = 1 ∨ z = 2 ∨ z = 3 ∨ z = 4 ∨ z = 5 ∨ z = 6 ∨ z = 7 ∨ z = 8 ∨ z = 9 ∨ z = 10 ∨ z = 11 ∨ z = 12 ∨ z = 13 ∨ z = 14 ∨ z = 15 ∨ z = 16 ∨ z = 17 ∨ z = 18 ∨ z = 19 ∨ z = 20 := by omega
    rcases ez with rfl | rfl | rfl | rfl | rfl | rfl | rfl | rfl | rfl | rfl | rfl | rfl | rfl | rfl | rfl | rfl | rfl | rfl | rfl | rfl | rfl
    · -- 0
      obtain rfl := Option.some.inj hi
      exact wpOp_of rfl rfl (wp_run (v := .slice (some ⟨w1.heap.size, 0, none⟩) 3 3) (w' := w1.alloc (.cells #[.string ⟨#[120]⟩, .string ⟨#[121]⟩, .string ⟨#[102]⟩] 9)) (by simp only [execOp]; go_simp) ⟨_, rfl, ⟨w1.heap.size, rfl, by simp, dlmA w1⟩, (Below.refl _ w1).alloc (Nat.le_refl _) _⟩)
    · -- 1
      obtain rfl := Option.some.inj hi
      have e5 : a.eval (.tmp 5) = .int .i64 (n : Int) := eval_of ((hrest 5 (no_dst1 (by kernel_rfl))).trans rfl)
      have h5 : a.tmps[5]? = some (.int .i64 (n : Int)) := (hrest 5 (no_dst1 (by kernel_rfl))).trans rfl
      exact wpOp_of rfl rfl (wp_run (v := .int .i64 (n : Int)) (w' := w1) (by simp only [execOp]; go_simp) ⟨_, rfl, rfl, Below.refl _ w1⟩)
    · -- 2
      obtain rfl := Option.some.inj hi
      obtain ⟨u26, h26, g26⟩ := hdep ⟨1, .data⟩ (by simp) rfl _ 26 rfl rfl
      have g26 : u26 = .int .i64 (n : Int) := g26
      subst g26
      have e26 := eval_of h26
      exact wpOp_of rfl rfl (wp_run (v := .int .i64 (qj : Int)) (w' := w1) (by simp only [execOp, e26]; go_simp) ⟨_, rfl, rfl, Below.refl _ w1⟩)
    · -- 3
      obtain rfl := Option.some.inj hi
      obtain ⟨u27, h27, g27⟩ := hdep ⟨2, .data⟩ (by simp) rfl _ 27 rfl rfl
      have g27 : u27 = .int .i64 (qj : Int) := g27
      subst g27
      have e27 := eval_of h27
      exact wpOp_of rfl rfl (wp_run (v := .int .i64 (j : Int)) (w' := w1) (by simp only [execOp, e27]; go_simp) ⟨_, rfl, rfl, Below.refl _ w1⟩)
    · -- 4
      obtain rfl := Option.some.inj hi
      obtain ⟨u25, h25, g25⟩ := hdep ⟨0, .data⟩ (by simp) rfl _ 25 rfl rfl
      obtain ⟨b25, rfl, l25, c25⟩ := g25
      have e25 := eval_of h25
      obtain ⟨u28, h28, g28⟩ := hdep ⟨3, .data⟩ (by simp) rfl _ 28 rfl rfl
      have g28 : u28 = .int .i64 (j : Int) := g28
      subst g28
      have e28 := eval_of h28
      exact wpOp_of rfl rfl (wp_run (v := .pointer (some ⟨b25, j, none⟩)) (w' := w1) (by simp only [execOp, e25, e28]; go_simp; try (intro h9; omega)) ⟨_, rfl, ⟨b25, rfl, l25, c25⟩, Below.refl _ w1⟩)
    · -- 5
      obtain rfl := Option.some.inj hi
      obtain ⟨u29, h29, g29⟩ := hdep ⟨4, .data⟩ (by simp) rfl _ 29 rfl rfl
      obtain ⟨b29, rfl, l29, c29⟩ := g29
      have e29 := eval_of h29
      exact wpOp_of rfl rfl (wp_run (v := .string (strB N_lmA)) (w' := w1) (by simp only [execOp, e29]; go_simp) ⟨_, rfl, rfl, Below.refl _ w1⟩)
    · -- 6
      obtain rfl := Option.some.inj hi
      obtain ⟨u30, h30, g30⟩ := hdep ⟨5, .data⟩ (by simp) rfl _ 30 rfl rfl
      have g30 : u30 = .string (strB N_lmA) := g30
      subst g30
      have e30 := eval_of h30
      exact wpOp_of rfl rfl (wp_run (v := .string (strB S2)) (w' := w1) (by simp only [execOp, e30]; go_simp) ⟨_, rfl, rfl, Below.refl _ w1⟩)
    · -- 7
      obtain rfl := Option.some.inj hi
      exact wpOp_of rfl rfl (wp_run (v := .slice (some ⟨w1.heap.size, 0, none⟩) 3 3) (w' := w1.alloc (.cells #[.string ⟨#[]⟩, .string ⟨#[32, 103]⟩, .string ⟨#[32, 120, 32, 121]⟩] 9)) (by simp only [execOp]; go_simp) ⟨_, rfl, ⟨w1.heap.size, rfl, by simp, dlmB w1⟩, (Below.refl _ w1).alloc (Nat.le_refl _) _⟩)
    · -- 8
      obtain rfl := Option.some.inj hi
      have e5 : a.eval (.tmp 5) = .int .i64 (n : Int) := eval_of ((hrest 5 (no_dst1 (by kernel_rfl))).trans rfl)
      have h5 : a.tmps[5]? = some (.int .i64 (n : Int)) := (hrest 5 (no_dst1 (by kernel_rfl))).trans rfl
      exact wpOp_of rfl rfl (wp_run (v := .int .i64 (n : Int)) (w' := w1) (by simp only [execOp]; go_simp) ⟨_, rfl, rfl, Below.refl _ w1⟩)
    · -- 9
      obtain rfl := Option.some.inj hi
      obtain ⟨u33, h33, g33⟩ := hdep ⟨8, .data⟩ (by simp) rfl _ 33 rfl rfl
      have g33 : u33 = .int .i64 (n : Int) := g33
      subst g33
      have e33 := eval_of h33
      exact wpOp_of rfl rfl (wp_run (v := .int .i64 (qi : Int)) (w' := w1) (by simp only [execOp, e33]; go_simp) ⟨_, rfl, rfl, Below.refl _ w1⟩)
    · -- 10
      obtain rfl := Option.some.inj hi
      obtain ⟨u34, h34, g34⟩ := hdep ⟨9, .data⟩ (by simp) rfl _ 34 rfl rfl
      have g34 : u34 = .int .i64 (qi : Int) := g34
      subst g34
      have e34 := eval_of h34
      exact wpOp_of rfl rfl (wp_run (v := .int .i64 (i : Int)) (w' := w1) (by simp only [execOp, e34]; go_simp) ⟨_, rfl, rfl, Below.refl _ w1⟩)
    · -- 11
      obtain rfl := Option.some.inj hi
      obtain ⟨u32, h32, g32⟩ := hdep ⟨7, .data⟩ (by simp) rfl _ 32 rfl rfl
      obtain ⟨b32, rfl, l32, c32⟩ := g32
      have e32 := eval_of h32
      obtain ⟨u35, h35, g35⟩ := hdep ⟨10, .data⟩ (by simp) rfl _ 35 rfl rfl
      have g35 : u35 = .int .i64 (i : Int) := g35
      subst g35
      have e35 := eval_of h35
      exact wpOp_of rfl rfl (wp_run (v := .pointer (some ⟨b32, i, none⟩)) (w' := w1) (by simp only [execOp, e32, e35]; go_simp; try (intro h9; omega)) ⟨_, rfl, ⟨b32, rfl, l32, c32⟩, Below.refl _ w1⟩)
    · -- 12
      obtain rfl := Option.some.inj hi
      obtain ⟨u36, h36, g36⟩ := hdep ⟨11, .data⟩ (by simp) rfl _ 36 rfl rfl
      obtain ⟨b36, rfl, l36, c36⟩ := g36
      have e36 := eval_of h36
      exact wpOp_of rfl rfl (wp_run (v := .string (strB N_lmB)) (w' := w1) (by simp only [execOp, e36]; go_simp) ⟨_, rfl, rfl, Below.refl _ w1⟩)
    · -- 13
      obtain rfl := Option.some.inj hi
      obtain ⟨u31, h31, g31⟩ := hdep ⟨6, .data⟩ (by simp) rfl _ 31 rfl rfl
      have g31 : u31 = .string (strB S2) := g31
      subst g31
      have e31 := eval_of h31
      obtain ⟨u37, h37, g37⟩ := hdep ⟨12, .data⟩ (by simp) rfl _ 37 rfl rfl
      have g37 : u37 = .string (strB N_lmB) := g37
      subst g37
      have e37 := eval_of h37
      exact wpOp_of rfl rfl (wp_run (v := .string (strB S3)) (w' := w1) (by simp only [execOp, e31, e37]; go_simp) ⟨_, rfl, rfl, Below.refl _ w1⟩)
    · -- 14
      obtain rfl := Option.some.inj hi
      obtain ⟨u38, h38, g38⟩ := hdep ⟨13, .data⟩ (by simp) rfl _ 38 rfl rfl
      have g38 : u38 = .string (strB S3) := g38
      subst g38
      have e38 := eval_of h38
      exact wpOp_of rfl rfl (wp_run (v := .string (strB S4)) (w' := w1) (by simp only [execOp, e38]; go_simp) ⟨_, rfl, rfl, Below.refl _ w1⟩)
    · -- 15
      obtain rfl := Option.some.inj hi
      have e6 : a.eval (.tmp 6) = .slice a1 r.length c1 := eval_of ((hrest 6 (no_dst1 (by kernel_rfl))).trans rfl)
      have h6 : a.tmps[6]? = some (.slice a1 r.length c1) := (hrest 6 (no_dst1 (by kernel_rfl))).trans rfl
      exact wpOp_of rfl rfl (wp_run (v := .slice a1 r.length c1) (w' := w1) (by simp only [execOp]; go_simp) ⟨_, rfl, rfl, Below.refl _ w1⟩)
    · -- 16
      obtain rfl := Option.some.inj hi
      have e1 : a.eval (.tmp 1) = .int .i64 ((d : Int) + 1) := eval_of ((hrest 1 (no_dst1 (by kernel_rfl))).trans rfl)
      have h1 : a.tmps[1]? = some (.int .i64 ((d : Int) + 1)) := (hrest 1 (no_dst1 (by kernel_rfl))).trans rfl
      exact wpOp_of rfl rfl (wp_run (v := .int .i64 ((d : Int) + 1)) (w' := w1) (by simp only [execOp]; go_simp) ⟨_, rfl, rfl, Below.refl _ w1⟩)
    · -- 17
      obtain rfl := Option.some.inj hi
      obtain ⟨u41, h41, g41⟩ := hdep ⟨16, .data⟩ (by simp) rfl _ 41 rfl rfl
      have g41 : u41 = .int .i64 ((d : Int) + 1) := g41
      subst g41
      have e41 := eval_of h41
      exact wpOp_of rfl rfl (wp_run (v := .int .i64 (d : Int)) (w' := w1) (by simp only [execOp, e41]; go_simp) ⟨_, rfl, rfl, Below.refl _ w1⟩)
    · -- 18
      obtain rfl := Option.some.inj hi
      obtain ⟨u40, h40, g40⟩ := hdep ⟨15, .data⟩ (by simp) rfl _ 40 rfl rfl
      have g40 : u40 = .slice a1 r.length c1 := g40
      subst g40
      have e40 := eval_of h40
      obtain ⟨u42, h42, g42⟩ := hdep ⟨17, .data⟩ (by simp) rfl _ 42 rfl rfl
      have g42 : u42 = .int .i64 (d : Int) := g42
      subst g42
      have e42 := eval_of h42
      exact wpOp_of rfl rfl (wp_call2 _ _ Try.func40 (by decide) (by intro hh; cases hh) _ _ _ _ e40 e42 _ rfl (HEr.out w1 hb1) (fun w' hb => ⟨_, rfl, rfl, hb⟩))
    · -- 19
      obtain rfl := Option.some.inj hi
      obtain ⟨u39, h39, g39⟩ := hdep ⟨14, .data⟩ (by simp) rfl _ 39 rfl rfl
      have g39 : u39 = .string (strB S4) := g39
      subst g39
      have e39 := eval_of h39
      obtain ⟨u43, h43, g43⟩ := hdep ⟨18, .data⟩ (by simp) rfl _ 43 rfl rfl
      have g43 : u43 = .string (strB (exprT d r)) := g43
      subst g43
      have e43 := eval_of h43
      exact wpOp_of rfl rfl (wp_run (v := .string (strB S5)) (w' := w1) (by simp only [execOp, e39, e43]; go_simp) ⟨_, rfl, rfl, Below.refl _ w1⟩)
    · -- 20
      obtain rfl := Option.some.inj hi
      obtain ⟨u44, h44, g44⟩ := hdep ⟨19, .data⟩ (by simp) rfl _ 44 rfl rfl
      have g44 : u44 = .string (strB S5) := g44
      subst g44
      have e44 := eval_of h44
      exact wpOp_of rfl rfl (wp_run (v := .string (strB S5)) (w' := w1) (by simp only [execOp, e44]; go_simp) ⟨_, rfl, rfl, Below.refl _ w1⟩)
  · intro listed a w2 h hr
    have hl := all_listed (by kernel_rfl) h.lsize hr
    obtain ⟨v, h4, hv⟩ := h.done 20 _ 4 rfl rfl (hl 20 (by decide))
    have hv : v = .string (strB S5) := hv
    subst hv
    have hb := h.below
    have hdf : a.defers = [] := h.defers
    clear hl hr h
    refine hK9 _ _ (wp_ret ?_)
    show bodyPost Try.prog Try.f40 (fun e w' => e = .returned (.string (strB S5)) ∧ Below w.heap.size w w') Exit.ret a w2
    exact bodyPost_ret (v := .string (strB S5)) (by simp only [results, Try.results40]; go_simp) hdf ⟨rfl, hb⟩

end Go.Proofs.Ytgkeblpjmfdhkaa

namespace Go.Proofs.Ytgkeblpjmfdhkaa
open Go.RowKit
set_option linter.unusedVariables false
set_option linter.unusedSimpArgs false

theorem exprT_big_r2 (d : Nat) (n : Nat) (r : List Nat) : exprT (d + 1) (n :: r) = exprS (exprT d) (atomT d) (atomT (d + 1)) (n :: r) := rfl

def noDst2 (s : Nat) (ops : Array Oper) : Bool := (List.range ops.size).all fun i => match ops[i]? with
  | some o => decide (o.dst ≠ some s)
  | none => true
theorem no_dst2 {s : Nat} {ops : Array Oper} (h : noDst2 s ops = true) : ∀ (i : Nat) (o : Oper), ops[i]? = some o → o.dst ≠ some s := fun i o hi => by
  have h1 := List.all_eq_true.1 h i (List.mem_range.2 (Array.getElem?_eq_some_iff.1 hi).1)
  rw [hi] at h1
  simpa using h1

set_option maxRecDepth 100000 in
set_option maxHeartbeats 8000000 in
theorem t_expr_2 (d : Nat) (hd : d ≤ 9) (HE : Txt 40 (exprT d) d) (HA : Txt 78 (atomT d) d) (HB : Txt 78 (atomT (d + 1)) (d + 1)) (a : Option Addr) (l c n : Nat) (r : List Nat) (w : World) (h : RB w a l c (n :: r)) (hm : n % 10 = 2) :
    Calls Try.prog 40 #[.slice a l c, .int .i64 ((d : Int) + 1)] w fun e w' => e = .returned (.string (strB (exprT (d + 1) (n :: r)))) ∧ Below w.heap.size w w' := by
  have hD0 : decide ((d : Int) + 1 < 1) = false := decide_eq_false (by omega)
  have hwd : IntKind.i64.wrap (d : Int) = (d : Int) := IntWalk.i64_in _ (by omega)
  obtain ⟨b, off, rfl, hb, q0, rfl, hn⟩ := h.first
  have hr0 : ((r.length : Int) + 1 == 0) = false := by simp; omega
  have hcap := h.cap
  have hsm := h.small
  have em1 : (n : Int) % 10 = 2 := by omega
  have em2 : (n : Int).tmod 10 = 2 := by rw [Int.tmod_eq_emod_of_nonneg (by omega)]; exact em1
  obtain ⟨a1, c1, h1, hr1⟩ := h.from_ 1 (by omega)
  rw [List.drop_one, List.tail_cons, Nat.add_sub_cancel] at h1
  rw [Nat.add_sub_cancel] at hr1
  have hr1 : ∀ W, Sem.run Try.prog (Instr.slice 22 (.slice (some ⟨b, off, none⟩) (r.length + 1) c) (some (.int .i64 1)) none none) W = .ok (.slice a1 r.length c1) W := hr1
  have lHEr : (exprT d r).length ≤ 20000000 := Nat.le_trans (txt_len d r (fun x hx => h.le x (List.mem_cons_of_mem _ hx))).1 (by have : 4 ^ d ≤ 4 ^ 9 := Nat.pow_le_pow_right (by omega) hd; omega)
  have lHEh : (exprT d (halfL (n :: r))).length ≤ 20000000 := Nat.le_trans (txt_len d (halfL (n :: r)) (fun x hx => h.le x (List.mem_of_mem_drop hx))).1 (by have : 4 ^ d ≤ 4 ^ 9 := Nat.pow_le_pow_right (by omega) hd; omega)
  have lltA := getD_len ltA_len (n / 10 % 3)
  obtain ⟨qj, hqj⟩ : ∃ q, n / 10 = q := ⟨_, rfl⟩
  have ej1 : (n : Int) / 10 = (qj : Int) := by omega
  have ej2 : (n : Int).tdiv 10 = (qj : Int) := by rw [Int.tdiv_eq_ediv_of_nonneg (by omega)]; exact ej1
  obtain ⟨j, hj⟩ : ∃ j, qj % 3 = j := ⟨_, rfl⟩
  have ej3 : (qj : Int) % 3 = (j : Int) := by omega
  have ej4 : (qj : Int).tmod 3 = (j : Int) := by rw [Int.tmod_eq_emod_of_nonneg (by omega)]; exact ej3
  have hj3 : j < 3 := by omega
  have ej5 : IntKind.i64.wrap ((n : Int).tdiv 10) = (qj : Int) := by rw [ej2]; exact IntWalk.i64_in _ (by omega)
  have ej6 : IntKind.i64.wrap (qj : Int) = (qj : Int) := IntWalk.i64_in _ (by omega)
  rw [hqj, hj] at lltA
  have gltA : ∀ h : j < ([.string ⟨#[105, 100, 32, 120]⟩, .string ⟨#[121]⟩, .string ⟨#[102, 32, 120, 32, 121]⟩] : List Value).length, ([.string ⟨#[105, 100, 32, 120]⟩, .string ⟨#[121]⟩, .string ⟨#[102, 32, 120, 32, 121]⟩] : List Value)[j] = .string (strB (ltA.getD j [])) := fun h => by
    rw [List.getD_eq_getElem?_getD, List.getElem?_eq_getElem (show j < ltA.length from hj3)]
    have e9 : j = 0 ∨ j = 1 ∨ j = 2 := by omega
    rcases e9 with rfl | rfl | rfl <;> rfl
  have kltA : ([.string ⟨#[105, 100, 32, 120]⟩, .string ⟨#[121]⟩, .string ⟨#[102, 32, 120, 32, 121]⟩] : List Value)[j]? = some (.string (strB (ltA.getD j []))) := by
    have e9 : j = 0 ∨ j = 1 ∨ j = 2 := by omega
    rcases e9 with rfl | rfl | rfl <;> rfl
  have dltA : ∀ W : World, (W.alloc (.cells #[.string ⟨#[105, 100, 32, 120]⟩, .string ⟨#[121]⟩, .string ⟨#[102, 32, 120, 32, 121]⟩] 9)).cell? ⟨W.heap.size, j, none⟩ = some (.string (strB (ltA.getD j []))) := fun W => tab_cell W ltA j hj3 (vs := [.string ⟨#[105, 100, 32, 120]⟩, .string ⟨#[121]⟩, .string ⟨#[102, 32, 120, 32, 121]⟩]) rfl
  have T2 : ∀ W, Sem.run Try.prog (Op.stringOp .add ⟨#[108, 101, 116, 32]⟩ (strB (ltA.getD j []))) W = .ok (.string (strB ([108, 101, 116, 32] ++ ltA.getD j []))) W := run_plus ([108, 101, 116, 32]) (ltA.getD j []) rfl rfl rfl (by simp only [List.length_append, List.length_cons, List.length_nil]; omega)
  have T3 : ∀ W, Sem.run Try.prog (Op.stringOp .add (strB ([108, 101, 116, 32] ++ ltA.getD j [])) ⟨#[32, 61, 32]⟩) W = .ok (.string (strB ([108, 101, 116, 32] ++ ltA.getD j [] ++ [32, 61, 32]))) W := run_plus ([108, 101, 116, 32] ++ ltA.getD j []) ([32, 61, 32]) rfl rfl rfl (by simp only [List.length_append, List.length_cons, List.length_nil]; omega)
  have T4 : ∀ W, Sem.run Try.prog (Op.stringOp .add (strB ([108, 101, 116, 32] ++ ltA.getD j [] ++ [32, 61, 32])) (strB (exprT d r))) W = .ok (.string (strB ([108, 101, 116, 32] ++ ltA.getD j [] ++ [32, 61, 32] ++ exprT d r))) W := run_plus ([108, 101, 116, 32] ++ ltA.getD j [] ++ [32, 61, 32]) (exprT d r) rfl rfl rfl (by simp only [List.length_append, List.length_cons, List.length_nil]; omega)
  have T5 : ∀ W, Sem.run Try.prog (Op.stringOp .add (strB ([108, 101, 116, 32] ++ ltA.getD j [] ++ [32, 61, 32] ++ exprT d r)) ⟨#[32, 105, 110, 32]⟩) W = .ok (.string (strB ([108, 101, 116, 32] ++ ltA.getD j [] ++ [32, 61, 32] ++ exprT d r ++ [32, 105, 110, 32]))) W := run_plus ([108, 101, 116, 32] ++ ltA.getD j [] ++ [32, 61, 32] ++ exprT d r) ([32, 105, 110, 32]) rfl rfl rfl (by simp only [List.length_append, List.length_cons, List.length_nil]; omega)
  have T6 : ∀ W, Sem.run Try.prog (Op.stringOp .add (strB ([108, 101, 116, 32] ++ ltA.getD j [] ++ [32, 61, 32] ++ exprT d r ++ [32, 105, 110, 32])) (strB (exprT d (halfL (n :: r))))) W = .ok (.string (strB ([108, 101, 116, 32] ++ ltA.getD j [] ++ [32, 61, 32] ++ exprT d r ++ [32, 105, 110, 32] ++ exprT d (halfL (n :: r))))) W := run_plus ([108, 101, 116, 32] ++ ltA.getD j [] ++ [32, 61, 32] ++ exprT d r ++ [32, 105, 110, 32]) (exprT d (halfL (n :: r))) rfl rfl rfl (by simp only [List.length_append, List.length_cons, List.length_nil]; omega)
  have e : exprT (d + 1) (n :: r) = [108, 101, 116, 32] ++ ltA.getD j [] ++ [32, 61, 32] ++ exprT d r ++ [32, 105, 110, 32] ++ exprT d (halfL (n :: r)) := by
    rw [exprT_big_r2, exprS, if_neg (by omega), if_pos (by omega)]; rw [hqj, hj]
  rw [e]
  have HEr := Lib.hid (fun w' (hw : Below w.heap.size w w') => HE (d : Int) rfl _ _ _ _ w' (h1.under hw))
  have HEh := Lib.hid (fun w' a' c' (hq : RB w' a' ((halfL (n :: r))).length c' ((halfL (n :: r)))) => HE (d : Int) rfl _ _ _ _ w' hq)
  have hHalf := Lib.hid (fun w' (hw : Below w.heap.size w w') => t_half _ _ _ _ w' (h.under hw))
  clear HE HA HB h h1 e hm lHEr lHEh lltA
  clear hqj hj
  generalize [108, 101, 116, 32] ++ ltA.getD j [] ++ [32, 61, 32] ++ exprT d r ++ [32, 105, 110, 32] ++ exprT d (halfL (n :: r)) = S6 at *
  generalize [108, 101, 116, 32] ++ ltA.getD j [] ++ [32, 61, 32] ++ exprT d r ++ [32, 105, 110, 32] = S5 at *
  generalize [108, 101, 116, 32] ++ ltA.getD j [] ++ [32, 61, 32] ++ exprT d r = S4 at *
  generalize [108, 101, 116, 32] ++ ltA.getD j [] ++ [32, 61, 32] = S3 at *
  generalize [108, 101, 116, 32] ++ ltA.getD j [] = S2 at *
  generalize ltA.getD j [] = N_ltA at *
  have HW := Lib.hid (Below.refl w.heap.size w)
  go_enter Try.func40, Try.ntmps40
  go_wp2_with fail
  rename_i K9 hK9
  refine wp_region_typed (V := fun z => (([.tab 3 j (.string (strB N_ltA)), .val (.int .i64 (n : Int)), .val (.int .i64 (qj : Int)), .val (.int .i64 (j : Int)), .ptr j (.string (strB N_ltA)), .val (.string (strB N_ltA)), .val (.string (strB S2)), .val (.string (strB S3)), .val (.slice a1 r.length c1), .val (.int .i64 ((d : Int) + 1)), .val (.int .i64 (d : Int)), .val (.string (strB (exprT d r))), .val (.string (strB S4)), .val (.string (strB S5)), .val (.slice (some ⟨b, off, none⟩) (r.length + 1) c), .sl (halfL (n :: r)), .val (.int .i64 ((d : Int) + 1)), .val (.int .i64 (d : Int)), .val (.string (strB (exprT d (halfL (n :: r))))), .val (.string (strB S6)), .val (.string (strB S6))] : List Kd).getD z (.val undef)).is) (by rfl) (fun z v w w' h hb => Kd.keep h hb) (by kernel_rfl) (dst_in (by kernel_rfl)) ?_ ?_
  · intro z o a w1 hi hb1 hrest hdep
    have hlt : z < 21 := (Array.getElem?_eq_some_iff.1 hi).1
    have ez : z = 0 ∨ z = 1 ∨ z = 2 ∨ z = 3 ∨ z = 4 ∨ z = 5 ∨ z = 6 ∨ z = 7 ∨ z = 8 ∨ z = 9 ∨ z = 10 ∨ z = 11 ∨ z = 12 ∨ z = 13 ∨ z = 14 ∨ z = 15 ∨ z = 16 ∨ z = 17 ∨ z = 18 ∨ z = 19 ∨ z = 20 := by omega
    rcases ez with rfl | rfl | rfl | rfl | rfl | rfl | rfl | rfl | rfl | rfl | rfl | rfl | rfl | rfl | rfl | rfl | rfl | rfl | rfl | rfl | rfl
    · -- 0
      obtain rfl := Option.some.inj hi
      exact wpOp_of rfl rfl (wp_run (v := .slice (some ⟨w1.heap.size, 0, none⟩) 3 3) (w' := w1.alloc (.cells #[.string ⟨#[105, 100, 32, 120]⟩, .string ⟨#[121]⟩, .string ⟨#[102, 32, 120, 32, 121]⟩] 9)) (by simp only [execOp]; go_simp) ⟨_, rfl, ⟨w1.heap.size, rfl, by simp, dltA w1⟩, (Below.refl _ w1).alloc (Nat.le_refl _) _⟩)
    · -- 1
      obtain rfl := Option.some.inj hi
      have e5 : a.eval (.tmp 5) = .int .i64 (n : Int) := eval_of ((hrest 5 (no_dst2 (by kernel_rfl))).trans rfl)
      have h5 : a.tmps[5]? = some (.int .i64 (n : Int)) := (hrest 5 (no_dst2 (by kernel_rfl))).trans rfl
      exact wpOp_of rfl rfl (wp_run (v := .int .i64 (n : Int)) (w' := w1) (by simp only [execOp]; go_simp) ⟨_, rfl, rfl, Below.refl _ w1⟩)
    · -- 2
      obtain rfl := Option.some.inj hi
      obtain ⟨u48, h48, g48⟩ := hdep ⟨1, .data⟩ (by simp) rfl _ 48 rfl rfl
      have g48 : u48 = .int .i64 (n : Int) := g48
      subst g48
      have e48 := eval_of h48
      exact wpOp_of rfl rfl (wp_run (v := .int .i64 (qj : Int)) (w' := w1) (by simp only [execOp, e48]; go_simp) ⟨_, rfl, rfl, Below.refl _ w1⟩)
    · -- 3
      obtain rfl := Option.some.inj hi
      obtain ⟨u49, h49, g49⟩ := hdep ⟨2, .data⟩ (by simp) rfl _ 49 rfl rfl
      have g49 : u49 = .int .i64 (qj : Int) := g49
      subst g49
      have e49 := eval_of h49
      exact wpOp_of rfl rfl (wp_run (v := .int .i64 (j : Int)) (w' := w1) (by simp only [execOp, e49]; go_simp) ⟨_, rfl, rfl, Below.refl _ w1⟩)
    · -- 4
      obtain rfl := Option.some.inj hi
      obtain ⟨u47, h47, g47⟩ := hdep ⟨0, .data⟩ (by simp) rfl _ 47 rfl rfl
      obtain ⟨b47, rfl, l47, c47⟩ := g47
      have e47 := eval_of h47
      obtain ⟨u50, h50, g50⟩ := hdep ⟨3, .data⟩ (by simp) rfl _ 50 rfl rfl
      have g50 : u50 = .int .i64 (j : Int) := g50
      subst g50
      have e50 := eval_of h50
      exact wpOp_of rfl rfl (wp_run (v := .pointer (some ⟨b47, j, none⟩)) (w' := w1) (by simp only [execOp, e47, e50]; go_simp; try (intro h9; omega)) ⟨_, rfl, ⟨b47, rfl, l47, c47⟩, Below.refl _ w1⟩)
    · -- 5
      obtain rfl := Option.some.inj hi
      obtain ⟨u51, h51, g51⟩ := hdep ⟨4, .data⟩ (by simp) rfl _ 51 rfl rfl
      obtain ⟨b51, rfl, l51, c51⟩ := g51
      have e51 := eval_of h51
      exact wpOp_of rfl rfl (wp_run (v := .string (strB N_ltA)) (w' := w1) (by simp only [execOp, e51]; go_simp) ⟨_, rfl, rfl, Below.refl _ w1⟩)
    · -- 6
      obtain rfl := Option.some.inj hi
      obtain ⟨u52, h52, g52⟩ := hdep ⟨5, .data⟩ (by simp) rfl _ 52 rfl rfl
      have g52 : u52 = .string (strB N_ltA) := g52
      subst g52
      have e52 := eval_of h52
      exact wpOp_of rfl rfl (wp_run (v := .string (strB S2)) (w' := w1) (by simp only [execOp, e52]; go_simp) ⟨_, rfl, rfl, Below.refl _ w1⟩)
    · -- 7
      obtain rfl := Option.some.inj hi
      obtain ⟨u53, h53, g53⟩ := hdep ⟨6, .data⟩ (by simp) rfl _ 53 rfl rfl
      have g53 : u53 = .string (strB S2) := g53
      subst g53
      have e53 := eval_of h53
      exact wpOp_of rfl rfl (wp_run (v := .string (strB S3)) (w' := w1) (by simp only [execOp, e53]; go_simp) ⟨_, rfl, rfl, Below.refl _ w1⟩)
    · -- 8
      obtain rfl := Option.some.inj hi
      have e6 : a.eval (.tmp 6) = .slice a1 r.length c1 := eval_of ((hrest 6 (no_dst2 (by kernel_rfl))).trans rfl)
      have h6 : a.tmps[6]? = some (.slice a1 r.length c1) := (hrest 6 (no_dst2 (by kernel_rfl))).trans rfl
      exact wpOp_of rfl rfl (wp_run (v := .slice a1 r.length c1) (w' := w1) (by simp only [execOp]; go_simp) ⟨_, rfl, rfl, Below.refl _ w1⟩)
    · -- 9
      obtain rfl := Option.some.inj hi
      have e1 : a.eval (.tmp 1) = .int .i64 ((d : Int) + 1) := eval_of ((hrest 1 (no_dst2 (by kernel_rfl))).trans rfl)
      have h1 : a.tmps[1]? = some (.int .i64 ((d : Int) + 1)) := (hrest 1 (no_dst2 (by kernel_rfl))).trans rfl
      exact wpOp_of rfl rfl (wp_run (v := .int .i64 ((d : Int) + 1)) (w' := w1) (by simp only [execOp]; go_simp) ⟨_, rfl, rfl, Below.refl _ w1⟩)
    · -- 10
      obtain rfl := Option.some.inj hi
      obtain ⟨u56, h56, g56⟩ := hdep ⟨9, .data⟩ (by simp) rfl _ 56 rfl rfl
      have g56 : u56 = .int .i64 ((d : Int) + 1) := g56
      subst g56
      have e56 := eval_of h56
      exact wpOp_of rfl rfl (wp_run (v := .int .i64 (d : Int)) (w' := w1) (by simp only [execOp, e56]; go_simp) ⟨_, rfl, rfl, Below.refl _ w1⟩)
    · -- 11
      obtain rfl := Option.some.inj hi
      obtain ⟨u55, h55, g55⟩ := hdep ⟨8, .data⟩ (by simp) rfl _ 55 rfl rfl
      have g55 : u55 = .slice a1 r.length c1 := g55
      subst g55
      have e55 := eval_of h55
      obtain ⟨u57, h57, g57⟩ := hdep ⟨10, .data⟩ (by simp) rfl _ 57 rfl rfl
      have g57 : u57 = .int .i64 (d : Int) := g57
      subst g57
      have e57 := eval_of h57
      exact wpOp_of rfl rfl (wp_call2 _ _ Try.func40 (by decide) (by intro hh; cases hh) _ _ _ _ e55 e57 _ rfl (HEr.out w1 hb1) (fun w' hb => ⟨_, rfl, rfl, hb⟩))
    · -- 12
      obtain rfl := Option.some.inj hi
      obtain ⟨u54, h54, g54⟩ := hdep ⟨7, .data⟩ (by simp) rfl _ 54 rfl rfl
      have g54 : u54 = .string (strB S3) := g54
      subst g54
      have e54 := eval_of h54
      obtain ⟨u58, h58, g58⟩ := hdep ⟨11, .data⟩ (by simp) rfl _ 58 rfl rfl
      have g58 : u58 = .string (strB (exprT d r)) := g58
      subst g58
      have e58 := eval_of h58
      exact wpOp_of rfl rfl (wp_run (v := .string (strB S4)) (w' := w1) (by simp only [execOp, e54, e58]; go_simp) ⟨_, rfl, rfl, Below.refl _ w1⟩)
    · -- 13
      obtain rfl := Option.some.inj hi
      obtain ⟨u59, h59, g59⟩ := hdep ⟨12, .data⟩ (by simp) rfl _ 59 rfl rfl
      have g59 : u59 = .string (strB S4) := g59
      subst g59
      have e59 := eval_of h59
      exact wpOp_of rfl rfl (wp_run (v := .string (strB S5)) (w' := w1) (by simp only [execOp, e59]; go_simp) ⟨_, rfl, rfl, Below.refl _ w1⟩)
    · -- 14
      obtain rfl := Option.some.inj hi
      have e0 : a.eval (.tmp 0) = .slice (some ⟨b, off, none⟩) (r.length + 1) c := eval_of ((hrest 0 (no_dst2 (by kernel_rfl))).trans rfl)
      have h0 : a.tmps[0]? = some (.slice (some ⟨b, off, none⟩) (r.length + 1) c) := (hrest 0 (no_dst2 (by kernel_rfl))).trans rfl
      exact wpOp_of rfl rfl (wp_run (v := .slice (some ⟨b, off, none⟩) (r.length + 1) c) (w' := w1) (by simp only [execOp]; go_simp) ⟨_, rfl, rfl, Below.refl _ w1⟩)
    · -- 15
      obtain rfl := Option.some.inj hi
      obtain ⟨u61, h61, g61⟩ := hdep ⟨14, .data⟩ (by simp) rfl _ 61 rfl rfl
      have g61 : u61 = .slice (some ⟨b, off, none⟩) (r.length + 1) c := g61
      subst g61
      have e61 := eval_of h61
      exact wpOp_of rfl rfl (wp_call1 _ _ Try.func77 (by decide) (by intro hh; cases hh) _ _ e61 _ rfl (B := fun v w' => w' = w1 ∧ ∃ a' c', v = .slice a' (halfL (n :: r)).length c' ∧ RB w1 a' (halfL (n :: r)).length c' (halfL (n :: r))) ((hHalf.out w1 hb1).mono (by rintro e w2 ⟨hw, a4, c4, rfl, hr⟩; exact ⟨_, rfl, hw, a4, c4, rfl, hr⟩)) (fun v w' hq => by obtain ⟨rfl, hq2⟩ := hq; exact ⟨v, rfl, hq2, Below.refl _ _⟩))
    · -- 16
      obtain rfl := Option.some.inj hi
      have e1 : a.eval (.tmp 1) = .int .i64 ((d : Int) + 1) := eval_of ((hrest 1 (no_dst2 (by kernel_rfl))).trans rfl)
      have h1 : a.tmps[1]? = some (.int .i64 ((d : Int) + 1)) := (hrest 1 (no_dst2 (by kernel_rfl))).trans rfl
      exact wpOp_of rfl rfl (wp_run (v := .int .i64 ((d : Int) + 1)) (w' := w1) (by simp only [execOp]; go_simp) ⟨_, rfl, rfl, Below.refl _ w1⟩)
    · -- 17
      obtain rfl := Option.some.inj hi
      obtain ⟨u63, h63, g63⟩ := hdep ⟨16, .data⟩ (by simp) rfl _ 63 rfl rfl
      have g63 : u63 = .int .i64 ((d : Int) + 1) := g63
      subst g63
      have e63 := eval_of h63
      exact wpOp_of rfl rfl (wp_run (v := .int .i64 (d : Int)) (w' := w1) (by simp only [execOp, e63]; go_simp) ⟨_, rfl, rfl, Below.refl _ w1⟩)
    · -- 18
      obtain rfl := Option.some.inj hi
      obtain ⟨u62, h62, g62⟩ := hdep ⟨15, .data⟩ (by simp) rfl _ 62 rfl rfl
      obtain ⟨a3, c3, rfl, rb3⟩ := g62
      have e62 := eval_of h62
      obtain ⟨u64, h64, g64⟩ := hdep ⟨17, .data⟩ (by simp) rfl _ 64 rfl rfl
      have g64 : u64 = .int .i64 (d : Int) := g64
      subst g64
      have e64 := eval_of h64
      exact wpOp_of rfl rfl (wp_call2 _ _ Try.func40 (by decide) (by intro hh; cases hh) _ _ _ _ e62 e64 _ rfl (HEh.out w1 _ _ rb3) (fun w' hb => ⟨_, rfl, rfl, hb⟩))
    · -- 19
      obtain rfl := Option.some.inj hi
      obtain ⟨u60, h60, g60⟩ := hdep ⟨13, .data⟩ (by simp) rfl _ 60 rfl rfl
      have g60 : u60 = .string (strB S5) := g60
      subst g60
      have e60 := eval_of h60
      obtain ⟨u65, h65, g65⟩ := hdep ⟨18, .data⟩ (by simp) rfl _ 65 rfl rfl
      have g65 : u65 = .string (strB (exprT d (halfL (n :: r)))) := g65
      subst g65
      have e65 := eval_of h65
      exact wpOp_of rfl rfl (wp_run (v := .string (strB S6)) (w' := w1) (by simp only [execOp, e60, e65]; go_simp) ⟨_, rfl, rfl, Below.refl _ w1⟩)
    · -- 20
      obtain rfl := Option.some.inj hi
      obtain ⟨u66, h66, g66⟩ := hdep ⟨19, .data⟩ (by simp) rfl _ 66 rfl rfl
      have g66 : u66 = .string (strB S6) := g66
      subst g66
      have e66 := eval_of h66
      exact wpOp_of rfl rfl (wp_run (v := .string (strB S6)) (w' := w1) (by simp only [execOp, e66]; go_simp) ⟨_, rfl, rfl, Below.refl _ w1⟩)
  · intro listed a w2 h hr
    have hl := all_listed (by kernel_rfl) h.lsize hr
    obtain ⟨v, h4, hv⟩ := h.done 20 _ 4 rfl rfl (hl 20 (by decide))
    have hv : v = .string (strB S6) := hv
    subst hv
    have hb := h.below
    have hdf : a.defers = [] := h.defers
    clear hl hr h
    refine hK9 _ _ (wp_ret ?_)
    show bodyPost Try.prog Try.f40 (fun e w' => e = .returned (.string (strB S6)) ∧ Below w.heap.size w w') Exit.ret a w2
    exact bodyPost_ret (v := .string (strB S6)) (by simp only [results, Try.results40]; go_simp) hdf ⟨rfl, hb⟩

end Go.Proofs.Ytgkeblpjmfdhkaa

namespace Go.Proofs.Ytgkeblpjmfdhkaa
open Go.RowKit
set_option linter.unusedVariables false
set_option linter.unusedSimpArgs false

theorem exprT_big_r4 (d : Nat) (n : Nat) (r : List Nat) : exprT (d + 1) (n :: r) = exprS (exprT d) (atomT d) (atomT (d + 1)) (n :: r) := rfl

def noDst4 (s : Nat) (ops : Array Oper) : Bool := (List.range ops.size).all fun i => match ops[i]? with
  | some o => decide (o.dst ≠ some s)
  | none => true
theorem no_dst4 {s : Nat} {ops : Array Oper} (h : noDst4 s ops = true) : ∀ (i : Nat) (o : Oper), ops[i]? = some o → o.dst ≠ some s := fun i o hi => by
  have h1 := List.all_eq_true.1 h i (List.mem_range.2 (Array.getElem?_eq_some_iff.1 hi).1)
  rw [hi] at h1
  simpa using h1

set_option maxRecDepth 100000 in
set_option maxHeartbeats 8000000 in
theorem t_expr_4 (d : Nat) (hd : d ≤ 9) (HE : Txt 40 (exprT d) d) (HA : Txt 78 (atomT d) d) (HB : Txt 78 (atomT (d + 1)) (d + 1)) (a : Option Addr) (l c n : Nat) (r : List Nat) (w : World) (h : RB w a l c (n :: r)) (hm : n % 10 = 4) :
    Calls Try.prog 40 #[.slice a l c, .int .i64 ((d : Int) + 1)] w fun e w' => e = .returned (.string (strB (exprT (d + 1) (n :: r)))) ∧ Below w.heap.size w w' := by
  have hD0 : decide ((d : Int) + 1 < 1) = false := decide_eq_false (by omega)
  have hwd : IntKind.i64.wrap (d : Int) = (d : Int) := IntWalk.i64_in _ (by omega)
  obtain ⟨b, off, rfl, hb, q0, rfl, hn⟩ := h.first
  have hr0 : ((r.length : Int) + 1 == 0) = false := by simp; omega
  have hcap := h.cap
  have hsm := h.small
  have em1 : (n : Int) % 10 = 4 := by omega
  have em2 : (n : Int).tmod 10 = 4 := by rw [Int.tmod_eq_emod_of_nonneg (by omega)]; exact em1
  obtain ⟨a1, c1, h1, hr1⟩ := h.from_ 1 (by omega)
  rw [List.drop_one, List.tail_cons, Nat.add_sub_cancel] at h1
  rw [Nat.add_sub_cancel] at hr1
  have hr1 : ∀ W, Sem.run Try.prog (Instr.slice 22 (.slice (some ⟨b, off, none⟩) (r.length + 1) c) (some (.int .i64 1)) none none) W = .ok (.slice a1 r.length c1) W := hr1
  have lHEr : (exprT d r).length ≤ 20000000 := Nat.le_trans (txt_len d r (fun x hx => h.le x (List.mem_cons_of_mem _ hx))).1 (by have : 4 ^ d ≤ 4 ^ 9 := Nat.pow_le_pow_right (by omega) hd; omega)
  have lHEh : (exprT d (halfL (n :: r))).length ≤ 20000000 := Nat.le_trans (txt_len d (halfL (n :: r)) (fun x hx => h.le x (List.mem_of_mem_drop hx))).1 (by have : 4 ^ d ≤ 4 ^ 9 := Nat.pow_le_pow_right (by omega) hd; omega)
  have lcaA := getD_len caA_len (n / 10 % 3)
  have lcaB := getD_len caB_len (n / 30 % 3)
  obtain ⟨qj, hqj⟩ : ∃ q, n / 10 = q := ⟨_, rfl⟩
  have ej1 : (n : Int) / 10 = (qj : Int) := by omega
  have ej2 : (n : Int).tdiv 10 = (qj : Int) := by rw [Int.tdiv_eq_ediv_of_nonneg (by omega)]; exact ej1
  obtain ⟨j, hj⟩ : ∃ j, qj % 3 = j := ⟨_, rfl⟩
  have ej3 : (qj : Int) % 3 = (j : Int) := by omega
  have ej4 : (qj : Int).tmod 3 = (j : Int) := by rw [Int.tmod_eq_emod_of_nonneg (by omega)]; exact ej3
  have hj3 : j < 3 := by omega
  have ej5 : IntKind.i64.wrap ((n : Int).tdiv 10) = (qj : Int) := by rw [ej2]; exact IntWalk.i64_in _ (by omega)
  have ej6 : IntKind.i64.wrap (qj : Int) = (qj : Int) := IntWalk.i64_in _ (by omega)
  rw [hqj, hj] at lcaA
  obtain ⟨qi, hqi⟩ : ∃ q, n / 30 = q := ⟨_, rfl⟩
  have ei1 : (n : Int) / 30 = (qi : Int) := by omega
  have ei2 : (n : Int).tdiv 30 = (qi : Int) := by rw [Int.tdiv_eq_ediv_of_nonneg (by omega)]; exact ei1
  obtain ⟨i, hi⟩ : ∃ j, qi % 3 = j := ⟨_, rfl⟩
  have ei3 : (qi : Int) % 3 = (i : Int) := by omega
  have ei4 : (qi : Int).tmod 3 = (i : Int) := by rw [Int.tmod_eq_emod_of_nonneg (by omega)]; exact ei3
  have hi3 : i < 3 := by omega
  have ei5 : IntKind.i64.wrap ((n : Int).tdiv 30) = (qi : Int) := by rw [ei2]; exact IntWalk.i64_in _ (by omega)
  have ei6 : IntKind.i64.wrap (qi : Int) = (qi : Int) := IntWalk.i64_in _ (by omega)
  rw [hqi, hi] at lcaB
  have gcaA : ∀ h : j < ([.string ⟨#[67, 111, 110, 115, 32, 120, 32, 121, 32, 45, 62, 32]⟩, .string ⟨#[83, 111, 109, 101, 32, 120, 32, 45, 62, 32]⟩, .string ⟨#[78, 105, 108, 32, 45, 62, 32]⟩] : List Value).length, ([.string ⟨#[67, 111, 110, 115, 32, 120, 32, 121, 32, 45, 62, 32]⟩, .string ⟨#[83, 111, 109, 101, 32, 120, 32, 45, 62, 32]⟩, .string ⟨#[78, 105, 108, 32, 45, 62, 32]⟩] : List Value)[j] = .string (strB (caA.getD j [])) := fun h => by
    rw [List.getD_eq_getElem?_getD, List.getElem?_eq_getElem (show j < caA.length from hj3)]
    have e9 : j = 0 ∨ j = 1 ∨ j = 2 := by omega
    rcases e9 with rfl | rfl | rfl <;> rfl
  have kcaA : ([.string ⟨#[67, 111, 110, 115, 32, 120, 32, 121, 32, 45, 62, 32]⟩, .string ⟨#[83, 111, 109, 101, 32, 120, 32, 45, 62, 32]⟩, .string ⟨#[78, 105, 108, 32, 45, 62, 32]⟩] : List Value)[j]? = some (.string (strB (caA.getD j []))) := by
    have e9 : j = 0 ∨ j = 1 ∨ j = 2 := by omega
    rcases e9 with rfl | rfl | rfl <;> rfl
  have dcaA : ∀ W : World, (W.alloc (.cells #[.string ⟨#[67, 111, 110, 115, 32, 120, 32, 121, 32, 45, 62, 32]⟩, .string ⟨#[83, 111, 109, 101, 32, 120, 32, 45, 62, 32]⟩, .string ⟨#[78, 105, 108, 32, 45, 62, 32]⟩] 9)).cell? ⟨W.heap.size, j, none⟩ = some (.string (strB (caA.getD j []))) := fun W => tab_cell W caA j hj3 (vs := [.string ⟨#[67, 111, 110, 115, 32, 120, 32, 121, 32, 45, 62, 32]⟩, .string ⟨#[83, 111, 109, 101, 32, 120, 32, 45, 62, 32]⟩, .string ⟨#[78, 105, 108, 32, 45, 62, 32]⟩]) rfl
  have gcaB : ∀ h : i < ([.string ⟨#[]⟩, .string ⟨#[59, 32, 78, 111, 110, 101, 32, 45, 62, 32, 121]⟩, .string ⟨#[59, 32, 78, 105, 108, 32, 45, 62, 32, 102, 32, 120]⟩] : List Value).length, ([.string ⟨#[]⟩, .string ⟨#[59, 32, 78, 111, 110, 101, 32, 45, 62, 32, 121]⟩, .string ⟨#[59, 32, 78, 105, 108, 32, 45, 62, 32, 102, 32, 120]⟩] : List Value)[i] = .string (strB (caB.getD i [])) := fun h => by
    rw [List.getD_eq_getElem?_getD, List.getElem?_eq_getElem (show i < caB.length from hi3)]
    have e9 : i = 0 ∨ i = 1 ∨ i = 2 := by omega
    rcases e9 with rfl | rfl | rfl <;> rfl
  have kcaB : ([.string ⟨#[]⟩, .string ⟨#[59, 32, 78, 111, 110, 101, 32, 45, 62, 32, 121]⟩, .string ⟨#[59, 32, 78, 105, 108, 32, 45, 62, 32, 102, 32, 120]⟩] : List Value)[i]? = some (.string (strB (caB.getD i []))) := by
    have e9 : i = 0 ∨ i = 1 ∨ i = 2 := by omega
    rcases e9 with rfl | rfl | rfl <;> rfl
  have dcaB : ∀ W : World, (W.alloc (.cells #[.string ⟨#[]⟩, .string ⟨#[59, 32, 78, 111, 110, 101, 32, 45, 62, 32, 121]⟩, .string ⟨#[59, 32, 78, 105, 108, 32, 45, 62, 32, 102, 32, 120]⟩] 9)).cell? ⟨W.heap.size, i, none⟩ = some (.string (strB (caB.getD i []))) := fun W => tab_cell W caB i hi3 (vs := [.string ⟨#[]⟩, .string ⟨#[59, 32, 78, 111, 110, 101, 32, 45, 62, 32, 121]⟩, .string ⟨#[59, 32, 78, 105, 108, 32, 45, 62, 32, 102, 32, 120]⟩]) rfl
  have T2 : ∀ W, Sem.run Try.prog (Op.stringOp .add ⟨#[99, 97, 115, 101, 32]⟩ (strB (exprT d r))) W = .ok (.string (strB ([99, 97, 115, 101, 32] ++ exprT d r))) W := run_plus ([99, 97, 115, 101, 32]) (exprT d r) rfl rfl rfl (by simp only [List.length_append, List.length_cons, List.length_nil]; omega)
  have T3 : ∀ W, Sem.run Try.prog (Op.stringOp .add (strB ([99, 97, 115, 101, 32] ++ exprT d r)) ⟨#[32, 111, 102, 32, 123]⟩) W = .ok (.string (strB ([99, 97, 115, 101, 32] ++ exprT d r ++ [32, 111, 102, 32, 123]))) W := run_plus ([99, 97, 115, 101, 32] ++ exprT d r) ([32, 111, 102, 32, 123]) rfl rfl rfl (by simp only [List.length_append, List.length_cons, List.length_nil]; omega)
  have T4 : ∀ W, Sem.run Try.prog (Op.stringOp .add (strB ([99, 97, 115, 101, 32] ++ exprT d r ++ [32, 111, 102, 32, 123])) (strB (caA.getD j []))) W = .ok (.string (strB ([99, 97, 115, 101, 32] ++ exprT d r ++ [32, 111, 102, 32, 123] ++ caA.getD j []))) W := run_plus ([99, 97, 115, 101, 32] ++ exprT d r ++ [32, 111, 102, 32, 123]) (caA.getD j []) rfl rfl rfl (by simp only [List.length_append, List.length_cons, List.length_nil]; omega)
  have T5 : ∀ W, Sem.run Try.prog (Op.stringOp .add (strB ([99, 97, 115, 101, 32] ++ exprT d r ++ [32, 111, 102, 32, 123] ++ caA.getD j [])) (strB (exprT d (halfL (n :: r))))) W = .ok (.string (strB ([99, 97, 115, 101, 32] ++ exprT d r ++ [32, 111, 102, 32, 123] ++ caA.getD j [] ++ exprT d (halfL (n :: r))))) W := run_plus ([99, 97, 115, 101, 32] ++ exprT d r ++ [32, 111, 102, 32, 123] ++ caA.getD j []) (exprT d (halfL (n :: r))) rfl rfl rfl (by simp only [List.length_append, List.length_cons, List.length_nil]; omega)
  have T6 : ∀ W, Sem.run Try.prog (Op.stringOp .add (strB ([99, 97, 115, 101, 32] ++ exprT d r ++ [32, 111, 102, 32, 123] ++ caA.getD j [] ++ exprT d (halfL (n :: r)))) (strB (caB.getD i []))) W = .ok (.string (strB ([99, 97, 115, 101, 32] ++ exprT d r ++ [32, 111, 102, 32, 123] ++ caA.getD j [] ++ exprT d (halfL (n :: r)) ++ caB.getD i []))) W := run_plus ([99, 97, 115, 101, 32] ++ exprT d r ++ [32, 111, 102, 32, 123] ++ caA.getD j [] ++ exprT d (halfL (n :: r))) (caB.getD i []) rfl rfl rfl (by simp only [List.length_append, List.length_cons, List.length_nil]; omega)
  have T7 : ∀ W, Sem.run Try.prog (Op.stringOp .add (strB ([99, 97, 115, 101, 32] ++ exprT d r ++ [32, 111, 102, 32, 123] ++ caA.getD j [] ++ exprT d (halfL (n :: r)) ++ caB.getD i [])) ⟨#[125]⟩) W = .ok (.string (strB ([99, 97, 115, 101, 32] ++ exprT d r ++ [32, 111, 102, 32, 123] ++ caA.getD j [] ++ exprT d (halfL (n :: r)) ++ caB.getD i [] ++ [125]))) W := run_plus ([99, 97, 115, 101, 32] ++ exprT d r ++ [32, 111, 102, 32, 123] ++ caA.getD j [] ++ exprT d (halfL (n :: r)) ++ caB.getD i []) ([125]) rfl rfl rfl (by simp only [List.length_append, List.length_cons, List.length_nil]; omega)
  have e : exprT (d + 1) (n :: r) = [99, 97, 115, 101, 32] ++ exprT d r ++ [32, 111, 102, 32, 123] ++ caA.getD j [] ++ exprT d (halfL (n :: r)) ++ caB.getD i [] ++ [125] := by
    rw [exprT_big_r4, exprS, if_neg (by omega), if_neg (by omega), if_neg (by omega), if_pos (by omega)]; rw [hqj, hj, hqi, hi]
  rw [e]
  have HEr := Lib.hid (fun w' (hw : Below w.heap.size w w') => HE (d : Int) rfl _ _ _ _ w' (h1.under hw))
  have HEh := Lib.hid (fun w' a' c' (hq : RB w' a' ((halfL (n :: r))).length c' ((halfL (n :: r)))) => HE (d : Int) rfl _ _ _ _ w' hq)
  have hHalf := Lib.hid (fun w' (hw : Below w.heap.size w w') => t_half _ _ _ _ w' (h.under hw))
  clear HE HA HB h h1 e hm lHEr lHEh lcaA lcaB
  clear hqj hj hqi hi
  generalize [99, 97, 115, 101, 32] ++ exprT d r ++ [32, 111, 102, 32, 123] ++ caA.getD j [] ++ exprT d (halfL (n :: r)) ++ caB.getD i [] ++ [125] = S7 at *
  generalize [99, 97, 115, 101, 32] ++ exprT d r ++ [32, 111, 102, 32, 123] ++ caA.getD j [] ++ exprT d (halfL (n :: r)) ++ caB.getD i [] = S6 at *
  generalize [99, 97, 115, 101, 32] ++ exprT d r ++ [32, 111, 102, 32, 123] ++ caA.getD j [] ++ exprT d (halfL (n :: r)) = S5 at *
  generalize [99, 97, 115, 101, 32] ++ exprT d r ++ [32, 111, 102, 32, 123] ++ caA.getD j [] = S4 at *
  generalize [99, 97, 115, 101, 32] ++ exprT d r ++ [32, 111, 102, 32, 123] = S3 at *
  generalize [99, 97, 115, 101, 32] ++ exprT d r = S2 at *
  generalize caA.getD j [] = N_caA at *
  generalize caB.getD i [] = N_caB at *
  have HW := Lib.hid (Below.refl w.heap.size w)
  go_enter Try.func40, Try.ntmps40
  go_wp2_with fail
  rename_i K9 hK9
  refine wp_region_typed (V := fun z => (([.val (.slice a1 r.length c1), .val (.int .i64 ((d : Int) + 1)), .val (.int .i64 (d : Int)), .val (.string (strB (exprT d r))), .val (.string (strB S2)), .val (.string (strB S3)), .tab 3 j (.string (strB N_caA)), .val (.int .i64 (n : Int)), .val (.int .i64 (qj : Int)), .val (.int .i64 (j : Int)), .ptr j (.string (strB N_caA)), .val (.string (strB N_caA)), .val (.string (strB S4)), .val (.slice (some ⟨b, off, none⟩) (r.length + 1) c), .sl (halfL (n :: r)), .val (.int .i64 ((d : Int) + 1)), .val (.int .i64 (d : Int)), .val (.string (strB (exprT d (halfL (n :: r))))), .val (.string (strB S5)), .tab 3 i (.string (strB N_caB)), .val (.int .i64 (n : Int)), .val (.int .i64 (qi : Int)), .val (.int .i64 (i : Int)), .ptr i (.string (strB N_caB)), .val (.string (strB N_caB)), .val (.string (strB S6)), .val (.string (strB S7)), .val (.string (strB S7))] : List Kd).getD z (.val undef)).is) (by rfl) (fun z v w w' h hb => Kd.keep h hb) (by kernel_rfl) (dst_in (by kernel_rfl)) ?_ ?_
  · intro z o a w1 hi hb1 hrest hdep
    have hlt : z < 28 := (Array.getElem?_eq_some_iff.1 hi).1
    have ez : z = 0 ∨ z = 1 ∨ z = 2 ∨ z = 3 ∨ z = 4 ∨ z = 5 ∨ z = 6 ∨ z = 7 ∨ z = 8 ∨ z = 9 ∨ z = 10 ∨ z = 11 ∨ z = 12 ∨ z = 13 ∨ z = 14 ∨ z = 15 ∨ z = 16 ∨ z = 17 ∨ z = 18 ∨ z = 19 ∨ z = 20 ∨ z = 21 ∨ z = 22 ∨ z = 23 ∨ z = 24 ∨ z = 25 ∨ z = 26 ∨ z = 27 := by omega
    rcases ez with rfl | rfl | rfl | rfl | rfl | rfl | rfl | rfl | rfl | rfl | rfl | rfl | rfl | rfl | rfl | rfl | rfl | rfl | rfl | rfl | rfl | rfl | rfl | rfl | rfl | rfl | rfl | rfl
    · -- 0
      obtain rfl := Option.some.inj hi
      have e6 : a.eval (.tmp 6) = .slice a1 r.length c1 := eval_of ((hrest 6 (no_dst4 (by kernel_rfl))).trans rfl)
      have h6 : a.tmps[6]? = some (.slice a1 r.length c1) := (hrest 6 (no_dst4 (by kernel_rfl))).trans rfl
      exact wpOp_of rfl rfl (wp_run (v := .slice a1 r.length c1) (w' := w1) (by simp only [execOp]; go_simp) ⟨_, rfl, rfl, Below.refl _ w1⟩)
    · -- 1
      obtain rfl := Option.some.inj hi
      have e1 : a.eval (.tmp 1) = .int .i64 ((d : Int) + 1) := eval_of ((hrest 1 (no_dst4 (by kernel_rfl))).trans rfl)
      have h1 : a.tmps[1]? = some (.int .i64 ((d : Int) + 1)) := (hrest 1 (no_dst4 (by kernel_rfl))).trans rfl
      exact wpOp_of rfl rfl (wp_run (v := .int .i64 ((d : Int) + 1)) (w' := w1) (by simp only [execOp]; go_simp) ⟨_, rfl, rfl, Below.refl _ w1⟩)
    · -- 2
      obtain rfl := Option.some.inj hi
      obtain ⟨u91, h91, g91⟩ := hdep ⟨1, .data⟩ (by simp) rfl _ 91 rfl rfl
      have g91 : u91 = .int .i64 ((d : Int) + 1) := g91
      subst g91
      have e91 := eval_of h91
      exact wpOp_of rfl rfl (wp_run (v := .int .i64 (d : Int)) (w' := w1) (by simp only [execOp, e91]; go_simp) ⟨_, rfl, rfl, Below.refl _ w1⟩)
    · -- 3
      obtain rfl := Option.some.inj hi
      obtain ⟨u90, h90, g90⟩ := hdep ⟨0, .data⟩ (by simp) rfl _ 90 rfl rfl
      have g90 : u90 = .slice a1 r.length c1 := g90
      subst g90
      have e90 := eval_of h90
      obtain ⟨u92, h92, g92⟩ := hdep ⟨2, .data⟩ (by simp) rfl _ 92 rfl rfl
      have g92 : u92 = .int .i64 (d : Int) := g92
      subst g92
      have e92 := eval_of h92
      exact wpOp_of rfl rfl (wp_call2 _ _ Try.func40 (by decide) (by intro hh; cases hh) _ _ _ _ e90 e92 _ rfl (HEr.out w1 hb1) (fun w' hb => ⟨_, rfl, rfl, hb⟩))
    · -- 4
      obtain rfl := Option.some.inj hi
      obtain ⟨u93, h93, g93⟩ := hdep ⟨3, .data⟩ (by simp) rfl _ 93 rfl rfl
      have g93 : u93 = .string (strB (exprT d r)) := g93
      subst g93
      have e93 := eval_of h93
      exact wpOp_of rfl rfl (wp_run (v := .string (strB S2)) (w' := w1) (by simp only [execOp, e93]; go_simp) ⟨_, rfl, rfl, Below.refl _ w1⟩)
    · -- 5
      obtain rfl := Option.some.inj hi
      obtain ⟨u94, h94, g94⟩ := hdep ⟨4, .data⟩ (by simp) rfl _ 94 rfl rfl
      have g94 : u94 = .string (strB S2) := g94
      subst g94
      have e94 := eval_of h94
      exact wpOp_of rfl rfl (wp_run (v := .string (strB S3)) (w' := w1) (by simp only [execOp, e94]; go_simp) ⟨_, rfl, rfl, Below.refl _ w1⟩)
    · -- 6
      obtain rfl := Option.some.inj hi
      exact wpOp_of rfl rfl (wp_run (v := .slice (some ⟨w1.heap.size, 0, none⟩) 3 3) (w' := w1.alloc (.cells #[.string ⟨#[67, 111, 110, 115, 32, 120, 32, 121, 32, 45, 62, 32]⟩, .string ⟨#[83, 111, 109, 101, 32, 120, 32, 45, 62, 32]⟩, .string ⟨#[78, 105, 108, 32, 45, 62, 32]⟩] 9)) (by simp only [execOp]; go_simp) ⟨_, rfl, ⟨w1.heap.size, rfl, by simp, dcaA w1⟩, (Below.refl _ w1).alloc (Nat.le_refl _) _⟩)
    · -- 7
      obtain rfl := Option.some.inj hi
      have e5 : a.eval (.tmp 5) = .int .i64 (n : Int) := eval_of ((hrest 5 (no_dst4 (by kernel_rfl))).trans rfl)
      have h5 : a.tmps[5]? = some (.int .i64 (n : Int)) := (hrest 5 (no_dst4 (by kernel_rfl))).trans rfl
      exact wpOp_of rfl rfl (wp_run (v := .int .i64 (n : Int)) (w' := w1) (by simp only [execOp]; go_simp) ⟨_, rfl, rfl, Below.refl _ w1⟩)
    · -- 8
      obtain rfl := Option.some.inj hi
      obtain ⟨u97, h97, g97⟩ := hdep ⟨7, .data⟩ (by simp) rfl _ 97 rfl rfl
      have g97 : u97 = .int .i64 (n : Int) := g97
      subst g97
      have e97 := eval_of h97
      exact wpOp_of rfl rfl (wp_run (v := .int .i64 (qj : Int)) (w' := w1) (by simp only [execOp, e97]; go_simp) ⟨_, rfl, rfl, Below.refl _ w1⟩)
    · -- 9
      obtain rfl := Option.some.inj hi
      obtain ⟨u98, h98, g98⟩ := hdep ⟨8, .data⟩ (by simp) rfl _ 98 rfl rfl
      have g98 : u98 = .int .i64 (qj : Int) := g98
      subst g98
      have e98 := eval_of h98
      exact wpOp_of rfl rfl (wp_run (v := .int .i64 (j : Int)) (w' := w1) (by simp only [execOp, e98]; go_simp) ⟨_, rfl, rfl, Below.refl _ w1⟩)
    · -- 10
      obtain rfl := Option.some.inj hi
      obtain ⟨u96, h96, g96⟩ := hdep ⟨6, .data⟩ (by simp) rfl _ 96 rfl rfl
      obtain ⟨b96, rfl, l96, c96⟩ := g96
      have e96 := eval_of h96
      obtain ⟨u99, h99, g99⟩ := hdep ⟨9, .data⟩ (by simp) rfl _ 99 rfl rfl
      have g99 : u99 = .int .i64 (j : Int) := g99
      subst g99
      have e99 := eval_of h99
      exact wpOp_of rfl rfl (wp_run (v := .pointer (some ⟨b96, j, none⟩)) (w' := w1) (by simp only [execOp, e96, e99]; go_simp; try (intro h9; omega)) ⟨_, rfl, ⟨b96, rfl, l96, c96⟩, Below.refl _ w1⟩)
    · -- 11
      obtain rfl := Option.some.inj hi
      obtain ⟨u100, h100, g100⟩ := hdep ⟨10, .data⟩ (by simp) rfl _ 100 rfl rfl
      obtain ⟨b100, rfl, l100, c100⟩ := g100
      have e100 := eval_of h100
      exact wpOp_of rfl rfl (wp_run (v := .string (strB N_caA)) (w' := w1) (by simp only [execOp, e100]; go_simp) ⟨_, rfl, rfl, Below.refl _ w1⟩)
    · -- 12
      obtain rfl := Option.some.inj hi
      obtain ⟨u95, h95, g95⟩ := hdep ⟨5, .data⟩ (by simp) rfl _ 95 rfl rfl
      have g95 : u95 = .string (strB S3) := g95
      subst g95
      have e95 := eval_of h95
      obtain ⟨u101, h101, g101⟩ := hdep ⟨11, .data⟩ (by simp) rfl _ 101 rfl rfl
      have g101 : u101 = .string (strB N_caA) := g101
      subst g101
      have e101 := eval_of h101
      exact wpOp_of rfl rfl (wp_run (v := .string (strB S4)) (w' := w1) (by simp only [execOp, e95, e101]; go_simp) ⟨_, rfl, rfl, Below.refl _ w1⟩)
    · -- 13
      obtain rfl := Option.some.inj hi
      have e0 : a.eval (.tmp 0) = .slice (some ⟨b, off, none⟩) (r.length + 1) c := eval_of ((hrest 0 (no_dst4 (by kernel_rfl))).trans rfl)
      have h0 : a.tmps[0]? = some (.slice (some ⟨b, off, none⟩) (r.length + 1) c) := (hrest 0 (no_dst4 (by kernel_rfl))).trans rfl
      exact wpOp_of rfl rfl (wp_run (v := .slice (some ⟨b, off, none⟩) (r.length + 1) c) (w' := w1) (by simp only [execOp]; go_simp) ⟨_, rfl, rfl, Below.refl _ w1⟩)
    · -- 14
      obtain rfl := Option.some.inj hi
      obtain ⟨u103, h103, g103⟩ := hdep ⟨13, .data⟩ (by simp) rfl _ 103 rfl rfl
      have g103 : u103 = .slice (some ⟨b, off, none⟩) (r.length + 1) c := g103
      subst g103
      have e103 := eval_of h103
      exact wpOp_of rfl rfl (wp_call1 _ _ Try.func77 (by decide) (by intro hh; cases hh) _ _ e103 _ rfl (B := fun v w' => w' = w1 ∧ ∃ a' c', v = .slice a' (halfL (n :: r)).length c' ∧ RB w1 a' (halfL (n :: r)).length c' (halfL (n :: r))) ((hHalf.out w1 hb1).mono (by rintro e w2 ⟨hw, a4, c4, rfl, hr⟩; exact ⟨_, rfl, hw, a4, c4, rfl, hr⟩)) (fun v w' hq => by obtain ⟨rfl, hq2⟩ := hq; exact ⟨v, rfl, hq2, Below.refl _ _⟩))
    · -- 15
      obtain rfl := Option.some.inj hi
      have e1 : a.eval (.tmp 1) = .int .i64 ((d : Int) + 1) := eval_of ((hrest 1 (no_dst4 (by kernel_rfl))).trans rfl)
      have h1 : a.tmps[1]? = some (.int .i64 ((d : Int) + 1)) := (hrest 1 (no_dst4 (by kernel_rfl))).trans rfl
      exact wpOp_of rfl rfl (wp_run (v := .int .i64 ((d : Int) + 1)) (w' := w1) (by simp only [execOp]; go_simp) ⟨_, rfl, rfl, Below.refl _ w1⟩)
    · -- 16
      obtain rfl := Option.some.inj hi
      obtain ⟨u105, h105, g105⟩ := hdep ⟨15, .data⟩ (by simp) rfl _ 105 rfl rfl
      have g105 : u105 = .int .i64 ((d : Int) + 1) := g105
      subst g105
      have e105 := eval_of h105
      exact wpOp_of rfl rfl (wp_run (v := .int .i64 (d : Int)) (w' := w1) (by simp only [execOp, e105]; go_simp) ⟨_, rfl, rfl, Below.refl _ w1⟩)
    · -- 17
      obtain rfl := Option.some.inj hi
      obtain ⟨u104, h104, g104⟩ := hdep ⟨14, .data⟩ (by simp) rfl _ 104 rfl rfl
      obtain ⟨a3, c3, rfl, rb3⟩ := g104
      have e104 := eval_of h104
      obtain ⟨u106, h106, g106⟩ := hdep ⟨16, .data⟩ (by simp) rfl _ 106 rfl rfl
      have g106 : u106 = .int .i64 (d : Int) := g106
      subst g106
      have e106 := eval_of h106
      exact wpOp_of rfl rfl (wp_call2 _ _ Try.func40 (by decide) (by intro hh; cases hh) _ _ _ _ e104 e106 _ rfl (HEh.out w1 _ _ rb3) (fun w' hb => ⟨_, rfl, rfl, hb⟩))
    · -- 18
      obtain rfl := Option.some.inj hi
      obtain ⟨u102, h102, g102⟩ := hdep ⟨12, .data⟩ (by simp) rfl _ 102 rfl rfl
      have g102 : u102 = .string (strB S4) := g102
      subst g102
      have e102 := eval_of h102
      obtain ⟨u107, h107, g107⟩ := hdep ⟨17, .data⟩ (by simp) rfl _ 107 rfl rfl
      have g107 : u107 = .string (strB (exprT d (halfL (n :: r)))) := g107
      subst g107
      have e107 := eval_of h107
      exact wpOp_of rfl rfl (wp_run (v := .string (strB S5)) (w' := w1) (by simp only [execOp, e102, e107]; go_simp) ⟨_, rfl, rfl, Below.refl _ w1⟩)
    · -- 19
      obtain rfl := Option.some.inj hi
      exact wpOp_of rfl rfl (wp_run (v := .slice (some ⟨w1.heap.size, 0, none⟩) 3 3) (w' := w1.alloc (.cells #[.string ⟨#[]⟩, .string ⟨#[59, 32, 78, 111, 110, 101, 32, 45, 62, 32, 121]⟩, .string ⟨#[59, 32, 78, 105, 108, 32, 45, 62, 32, 102, 32, 120]⟩] 9)) (by simp only [execOp]; go_simp) ⟨_, rfl, ⟨w1.heap.size, rfl, by simp, dcaB w1⟩, (Below.refl _ w1).alloc (Nat.le_refl _) _⟩)
    · -- 20
      obtain rfl := Option.some.inj hi
      have e5 : a.eval (.tmp 5) = .int .i64 (n : Int) := eval_of ((hrest 5 (no_dst4 (by kernel_rfl))).trans rfl)
      have h5 : a.tmps[5]? = some (.int .i64 (n : Int)) := (hrest 5 (no_dst4 (by kernel_rfl))).trans rfl
      exact wpOp_of rfl rfl (wp_run (v := .int .i64 (n : Int)) (w' := w1) (by simp only [execOp]; go_simp) ⟨_, rfl, rfl, Below.refl _ w1⟩)
    · -- 21
      obtain rfl := Option.some.inj hi
      obtain ⟨u110, h110, g110⟩ := hdep ⟨20, .data⟩ (by simp) rfl _ 110 rfl rfl
      have g110 : u110 = .int .i64 (n : Int) := g110
      subst g110
      have e110 := eval_of h110
      exact wpOp_of rfl rfl (wp_run (v := .int .i64 (qi : Int)) (w' := w1) (by simp only [execOp, e110]; go_simp) ⟨_, rfl, rfl, Below.refl _ w1⟩)
    · -- 22
      obtain rfl := Option.some.inj hi
      obtain ⟨u111, h111, g111⟩ := hdep ⟨21, .data⟩ (by simp) rfl _ 111 rfl rfl
      have g111 : u111 = .int .i64 (qi : Int) := g111
      subst g111
      have e111 := eval_of h111
      exact wpOp_of rfl rfl (wp_run (v := .int .i64 (i : Int)) (w' := w1) (by simp only [execOp, e111]; go_simp) ⟨_, rfl, rfl, Below.refl _ w1⟩)
    · -- 23
      obtain rfl := Option.some.inj hi
      obtain ⟨u109, h109, g109⟩ := hdep ⟨19, .data⟩ (by simp) rfl _ 109 rfl rfl
      obtain ⟨b109, rfl, l109, c109⟩ := g109
      have e109 := eval_of h109
      obtain ⟨u112, h112, g112⟩ := hdep ⟨22, .data⟩ (by simp) rfl _ 112 rfl rfl
      have g112 : u112 = .int .i64 (i : Int) := g112
      subst g112
      have e112 := eval_of h112
      exact wpOp_of rfl rfl (wp_run (v := .pointer (some ⟨b109, i, none⟩)) (w' := w1) (by simp only [execOp, e109, e112]; go_simp; try (intro h9; omega)) ⟨_, rfl, ⟨b109, rfl, l109, c109⟩, Below.refl _ w1⟩)
    · -- 24
      obtain rfl := Option.some.inj hi
      obtain ⟨u113, h113, g113⟩ := hdep ⟨23, .data⟩ (by simp) rfl _ 113 rfl rfl
      obtain ⟨b113, rfl, l113, c113⟩ := g113
      have e113 := eval_of h113
      exact wpOp_of rfl rfl (wp_run (v := .string (strB N_caB)) (w' := w1) (by simp only [execOp, e113]; go_simp) ⟨_, rfl, rfl, Below.refl _ w1⟩)
    · -- 25
      obtain rfl := Option.some.inj hi
      obtain ⟨u108, h108, g108⟩ := hdep ⟨18, .data⟩ (by simp) rfl _ 108 rfl rfl
      have g108 : u108 = .string (strB S5) := g108
      subst g108
      have e108 := eval_of h108
      obtain ⟨u114, h114, g114⟩ := hdep ⟨24, .data⟩ (by simp) rfl _ 114 rfl rfl
      have g114 : u114 = .string (strB N_caB) := g114
      subst g114
      have e114 := eval_of h114
      exact wpOp_of rfl rfl (wp_run (v := .string (strB S6)) (w' := w1) (by simp only [execOp, e108, e114]; go_simp) ⟨_, rfl, rfl, Below.refl _ w1⟩)
    · -- 26
      obtain rfl := Option.some.inj hi
      obtain ⟨u115, h115, g115⟩ := hdep ⟨25, .data⟩ (by simp) rfl _ 115 rfl rfl
      have g115 : u115 = .string (strB S6) := g115
      subst g115
      have e115 := eval_of h115
      exact wpOp_of rfl rfl (wp_run (v := .string (strB S7)) (w' := w1) (by simp only [execOp, e115]; go_simp) ⟨_, rfl, rfl, Below.refl _ w1⟩)
    · -- 27
      obtain rfl := Option.some.inj hi
      obtain ⟨u116, h116, g116⟩ := hdep ⟨26, .data⟩ (by simp) rfl _ 116 rfl rfl
      have g116 : u116 = .string (strB S7) := g116
      subst g116
      have e116 := eval_of h116
      exact wpOp_of rfl rfl (wp_run (v := .string (strB S7)) (w' := w1) (by simp only [execOp, e116]; go_simp) ⟨_, rfl, rfl, Below.refl _ w1⟩)
  · intro listed a w2 h hr
    have hl := all_listed (by kernel_rfl) h.lsize hr
    obtain ⟨v, h4, hv⟩ := h.done 27 _ 4 rfl rfl (hl 27 (by decide))
    have hv : v = .string (strB S7) := hv
    subst hv
    have hb := h.below
    have hdf : a.defers = [] := h.defers
    clear hl hr h
    refine hK9 _ _ (wp_ret ?_)
    show bodyPost Try.prog Try.f40 (fun e w' => e = .returned (.string (strB S7)) ∧ Below w.heap.size w w') Exit.ret a w2
    exact bodyPost_ret (v := .string (strB S7)) (by simp only [results, Try.results40]; go_simp) hdf ⟨rfl, hb⟩

end Go.Proofs.Ytgkeblpjmfdhkaa
