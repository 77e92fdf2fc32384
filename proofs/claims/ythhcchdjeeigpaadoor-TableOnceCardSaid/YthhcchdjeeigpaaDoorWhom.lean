/- Who is next, by picks. No program. -/
import Derived.Test.YthhcchdjeeigpaaDoorPickm
namespace Go.Proofs.YthhcchdjeeigpaaDoor
set_option linter.unusedVariables false
set_option linter.unusedSimpArgs false

/-- Who is next. -/
def whoN (picks : List Int) (tm : Nat) (last : Int) (en : List Bool) : Nat :=
  if tm < picks.length then (on 0 en).getD (picks.getD tm 0 % ((on 0 en).length : Int)).toNat 0 else (behindI en last).toNat

theorem behindI_mem (en : List Bool) (last : Int) (h : on 0 en ≠ []) : ∃ x : Nat, x ∈ on 0 en ∧ behindI en last = x := by
  unfold behindI
  cases hf : (on 0 en).find? (fun x : Nat => decide (last < (x : Int))) with
  | some x => exact ⟨x, List.mem_of_find?_eq_some hf, rfl⟩
  | none =>
    cases hq : on 0 en with
    | nil => exact absurd hq h
    | cons a l => exact ⟨a, by simp, by simp⟩
theorem whoN_mem (picks : List Int) (tm : Nat) (last : Int) (en : List Bool) (h : on 0 en ≠ []) : whoN picks tm last en ∈ on 0 en := by
  unfold whoN
  split
  · have hl : 0 < (on 0 en).length := List.length_pos_iff.2 h
    generalize picks.getD tm 0 = x
    have h1 := Int.emod_nonneg x (show ((on 0 en).length : Int) ≠ 0 by omega)
    have h2 := Int.emod_lt_of_pos x (show (0 : Int) < ((on 0 en).length : Int) by omega)
    generalize x % ((on 0 en).length : Int) = y at *
    rw [List.getD_eq_getElem?_getD, List.getElem?_eq_getElem (show y.toNat < (on 0 en).length by omega)]
    simp
  · obtain ⟨x, hx, e⟩ := behindI_mem en last h
    rw [e]; simpa using hx
theorem whoN_en {picks : List Int} {tm : Nat} {last : Int} {en : List Bool} (h : on 0 en ≠ []) : whoN picks tm last en < en.length ∧ en.getD (whoN picks tm last en) false = true := by
  have := on_range _ _ _ (whoN_mem picks tm last en h)
  simp at this ⊢; exact ⟨this.1, this.2⟩


end Go.Proofs.YthhcchdjeeigpaaDoor
