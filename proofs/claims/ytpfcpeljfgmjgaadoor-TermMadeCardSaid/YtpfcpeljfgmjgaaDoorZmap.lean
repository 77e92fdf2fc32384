/- Laws on maps that a call made: look-ups and stores with the answer known; moved worlds. No program. -/
import Derived.Test.YtpfcpeljfgmjgaaDoorBase
import Derived.DeepKeys4
import Derived.Maps.OwnSet
import Derived.Maps.OwnOps
import Derived.StringKeys
namespace Go.Proofs.YtpfcpeljfgmjgaaDoor
open Go.RowKit Go.Maps
set_option linter.unusedVariables false
set_option linter.unusedSimpArgs false

theorem ownsMap_agree {w w' : World} {P : Program} {k : TypeId} {R : Value → Option (DataW Unit × List MemPlace)} {b n : Nat} {D : DataW Unit} (h : w.ownsMap P k R b n D) (hb : w'.heap[b]? = w.heap[b]?) : w'.ownsMap P k R b n D := by
  obtain ⟨es, clock, h1, r⟩ := h
  exact ⟨es, clock, hb.trans h1, r⟩
theorem ownsMap_lt {w : World} {P : Program} {k : TypeId} {R : Value → Option (DataW Unit × List MemPlace)} {b n : Nat} {D : DataW Unit} (h : w.ownsMap P k R b n D) : b < w.heap.size := by
  obtain ⟨es, clock, h1, r⟩ := h
  exact (Array.getElem?_eq_some_iff.1 h1).1

/-! ### Maps at a step of a region that draws its order -/
section
variable {P : Program} {w : World} {ops : Array Oper} {o : Oper} {a : Act} {K : Act → World → Prop} {Q : Exit → Act → World → Prop} {E : Prop}
theorem look_at {t k e : TypeId} {q : IntKind} (KK : Keyed P k) (ht : P.underlying t = some (.map k e)) (he : P.underlying e = some (.int q)) (hz : (zeroValue e).run P w = .ok (.int q 0) w) {b n : Nat} {D : DataW Unit}
    (hown : w.ownsMap P k (plainElem P e) b n D) {key : Value} {kl : Lit} (hkey : keyOf P k key = some kl) {v : Bool} (hv : Maps.has D kl = v) {c : Int} (hc : D.atKey kl (.lit (.int q 0)) = .lit (.int q c)) :
    Sem.run P (Instr.lookup t (.map (some b)) key true) w = .ok (.tuple #[.int q c, .bool v]) w := by
  obtain ⟨u, ps, hrun, hu⟩ := hown.look_ok KK ht hz (plainElem_int he (by cases q <;> decide)) hkey
  obtain ⟨c', rfl, hc', _⟩ := plainElem_int_inv he hu
  have e1 := congrArg Prod.fst hc'
  simp only at e1
  rw [hc] at e1
  have e2 : c = c' := by cases e1; rfl
  subst e2
  rw [hv] at hrun
  exact hrun
theorem wp_lookup_int (m x : Operand) (t : TypeId) (hop : o.op = Op.lookup t m x true)
    (k e : TypeId) (q : IntKind) (KK : Keyed P k) (ht : P.underlying t = some (.map k e)) (he : P.underlying e = some (.int q)) (hz : (zeroValue e).run P w = .ok (.int q 0) w) (b n : Nat) (D : DataW Unit)
    (hm : a.eval m = .map (some b)) (hown : w.ownsMap P k (plainElem P e) b n D) (key : Value) (kl : Lit) (hx : a.eval x = key) (hkey : keyOf P k key = some kl) (v : Bool) (hv : Maps.has D kl = v) (c : Int) (hc : D.atKey kl (.lit (.int q 0)) = .lit (.int q c))
    (h : K (a.put o.dst (.tuple #[.int q c, .bool v])) w) : Oper.wp P o a w K Q := by
  obtain ⟨u, ps, hrun, hu⟩ := hown.look_ok KK ht hz (plainElem_int he (by cases q <;> decide)) hkey
  obtain ⟨c', rfl, hc', _⟩ := plainElem_int_inv he hu
  have e1 := congrArg Prod.fst hc'
  simp only at e1
  rw [hc] at e1
  have e2 : c = c' := by cases e1; rfl
  subst e2
  unfold Oper.wp
  simp [execOp, hop, hm, hx, hrun, Result.andThen, hv]
  exact h
theorem step_lookup_int (hgd : o.guard = none) (m x : Operand) (t : TypeId) (hop : o.op = Op.lookup t m x true)
    (k e : TypeId) (q : IntKind) (KK : Keyed P k) (ht : P.underlying t = some (.map k e)) (he : P.underlying e = some (.int q)) (hz : (zeroValue e).run P w = .ok (.int q 0) w) (b n : Nat) (D : DataW Unit)
    (hm : a.eval m = .map (some b)) (hown : w.ownsMap P k (plainElem P e) b n D) (key : Value) (kl : Lit) (hx : a.eval x = key) (hkey : keyOf P k key = some kl) (v : Bool) (hv : Maps.has D kl = v) (c : Int) (hc : D.atKey kl (.lit (.int q 0)) = .lit (.int q c))
    (h : K (a.put o.dst (.tuple #[.int q c, .bool v])) w) : if Region.wanted o (yielded ops a.tmps) = true then Oper.wp P o a w K Q else E := by
  rw [if_pos (by simp [Region.wanted, hgd])]
  exact wp_lookup_int m x t hop k e q KK ht he hz b n D hm hown key kl hx hkey v hv c hc h
theorem wp_mapUpdate_own (m x v : Operand) (t : TypeId) (hop : o.op = Op.mapUpdate t m x v)
    (k e : TypeId) (KK : Keyed P k) (ht : P.underlying t = some (.map k e)) (R : Value → Option (DataW Unit × List MemPlace)) (b n : Nat) (D : DataW Unit)
    (hm : a.eval m = .map (some b)) (hown : w.ownsMap P k R b n D) (hn : n < maxLen) (key val : Value) (kl : Lit) (hx : a.eval x = key) (hv : a.eval v = val) (hkey : keyOf P k key = some kl)
    (d : DataW Unit) (ps : List MemPlace) (hval : R val = some (d, ps))
    (h : ∀ w', w'.ownsMap P k R b (n + 1) (D.put kl d) → w.grownBy w' (some b) → w'.heap.size = w.heap.size → K (a.put o.dst undef) w') : Oper.wp P o a w K Q := by
  obtain ⟨w', hrun, r1, r2⟩ := hown.store KK ht hn hkey hval
  unfold Oper.wp
  simp [execOp, hop, hm, hx, hv, hrun, Result.andThen]
  refine h w' r1 r2.grown ?_
  obtain ⟨_, _, _, _, _, rfl⟩ := r2
  simp [ChangeMaps.setBlock]
theorem step_mapUpdate_own (hgd : o.guard = none) (m x v : Operand) (t : TypeId) (hop : o.op = Op.mapUpdate t m x v)
    (k e : TypeId) (KK : Keyed P k) (ht : P.underlying t = some (.map k e)) (R : Value → Option (DataW Unit × List MemPlace)) (b n : Nat) (D : DataW Unit)
    (hm : a.eval m = .map (some b)) (hown : w.ownsMap P k R b n D) (hn : n < maxLen) (key val : Value) (kl : Lit) (hx : a.eval x = key) (hv : a.eval v = val) (hkey : keyOf P k key = some kl)
    (d : DataW Unit) (ps : List MemPlace) (hval : R val = some (d, ps))
    (h : ∀ w', w'.ownsMap P k R b (n + 1) (D.put kl d) → w.grownBy w' (some b) → w'.heap.size = w.heap.size → K (a.put o.dst undef) w') : if Region.wanted o (yielded ops a.tmps) = true then Oper.wp P o a w K Q else E := by
  rw [if_pos (by simp [Region.wanted, hgd])]
  exact wp_mapUpdate_own m x v t hop k e KK ht R b n D hm hown hn key val kl hx hv hkey d ps hval h
end
theorem look_plain {P : Program} {w : World} {t k e : TypeId} {q : IntKind} (KK : Keyed P k) (ht : P.underlying t = some (.map k e)) (he : P.underlying e = some (.int q)) (hz : (zeroValue e).run P w = .ok (.int q 0) w) {b n : Nat} {D : DataW Unit}
    (hown : w.ownsMap P k (plainElem P e) b n D) {key : Value} {kl : Lit} (hkey : keyOf P k key = some kl) {c : Int} (hc : D.atKey kl (.lit (.int q 0)) = .lit (.int q c)) :
    Sem.run P (Instr.lookup t (.map (some b)) key false) w = .ok (.int q c) w := by
  obtain ⟨c', hrun, hat, _⟩ := hown.lookup_int KK ht he hz hkey
  rw [hc] at hat
  have e2 : c = c' := by cases hat; rfl
  subst e2
  exact hrun

end Go.Proofs.YtpfcpeljfgmjgaaDoor
