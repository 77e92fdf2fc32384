/- Package parse's typeDeep, isTooDeep, Deep. slices.IndexFunc, slices.ContainsFunc at types and isTooDeep; slices.Min. Package parse's tooDeep. A drawn region by an invariant over the operations that are done. Package parse's begins: a map literal whose operations come up in any order, by an invariant. -/
import Derived.Test.YtjfogodfpmfhhaaZBD
import Derived.Test.YtjfogodfpmfhhaaZAD
import Derived.Test.YtjfogodfpmfhhaaZDD
import Derived.Test.YtjfogodfpmfhhaaZGD
import Derived.OrdersHeld
import Derived.StillTail
namespace Go.Proofs.Ytjfogodfpmfhhaa
open Go.RowKit Go.Maps
set_option linter.unusedVariables false
set_option linter.unusedSimpArgs false

theorem flatC_at {α : Type} {k : Nat} {f : α → List Cl} (hk : ∀ x, (f x).length = k) : ∀ (l : List α) (i : Nat) (x : α), l[i]? = some x → ∀ j, j < k → (l.flatMap f)[i * k + j]? = (f x)[j]?
  | q :: r, 0, x, hx, j, hj => by
    simp at hx; subst hx
    rw [List.flatMap_cons, List.getElem?_append_left (by rw [hk]; omega)]; simp
  | q :: r, i + 1, x, hx, j, hj => by
    have ih := flatC_at hk r i x (by simpa using hx) j hj
    rw [List.flatMap_cons, List.getElem?_append_right (by rw [hk, Nat.add_mul]; omega), hk, ← ih]
    congr 1
    rw [Nat.add_mul]; omega
/-- The i-th thing behind a slice, cell by cell. -/
theorem InC.elem {α : Type} {S : Nat → Prop} {w : World} {k m cp : Nat} {f : α → List Cl} (hk : ∀ x, (f x).length = k) {l : List α} {a : Option Addr} (h : InC S w (.s l.length k (l.flatMap f)) (.slice a m cp)) {i : Nat} {x : α} (hx : l[i]? = some x) :
    ∃ (b off : Nat) (us : List Value), a = some ⟨b, off, none⟩ ∧ b < w.heap.size ∧ IsV S w (f x) (.agg us.toArray) ∧ ∀ (j : Nat) (u : Value), us[j]? = some u → w.cell? ⟨b, off + (i * k + j), none⟩ = some u := by
  have hi : i < l.length := (List.getElem?_eq_some_iff.1 hx).1
  obtain ⟨_, h2 | ⟨b, off, us, h2, h3, h4, h5, h6⟩⟩ := h.at_
  · omega
  · have hul : us.length = l.length * k := by rw [h5.1, flatC_len hk]
    have hik : i * k + k ≤ l.length * k := by have := Nat.mul_le_mul_right k (show i + 1 ≤ l.length from hi); rw [Nat.add_mul] at this; omega
    have hg : ∀ j, j < k → ((us.drop (i * k)).take k)[j]? = us[i * k + j]? := fun j hj => by
      rw [List.getElem?_take, if_pos hj, List.getElem?_drop]
    have hl2 : ((us.drop (i * k)).take k).length = k := by rw [List.length_take, List.length_drop]; omega
    refine ⟨b, off, (us.drop (i * k)).take k, h2, h4, ⟨_, rfl, ?_, fun j c u h7 h8 => ?_⟩, fun j u hu => ?_⟩
    · rw [hk, hl2]
    · have hj : j < k := by have := (List.getElem?_eq_some_iff.1 h7).1; rwa [hk] at this
      rw [hg j hj] at h8
      exact h5.2 (i * k + j) c u (by rw [flatC_at hk l i x hx j hj]; exact h7) h8
    · have hj : j < k := by have := (List.getElem?_eq_some_iff.1 hu).1; omega
      rw [hg j hj] at hu
      exact h6 _ _ hu
theorem Ty.deeps_mem : ∀ {l : List Ty} {x : Ty}, x ∈ l → x.deep ≤ Ty.deeps l
  | y :: r, x, h => by
    simp only [Ty.deeps]
    rcases List.mem_cons.1 h with rfl | h
    · omega
    · have := Ty.deeps_mem h; omega
end Go.Proofs.Ytjfogodfpmfhhaa

namespace Go.Proofs.Ytjfogodfpmfhhaa
open Go.RowKit Go.Maps
set_option linter.unusedVariables false
set_option linter.unusedSimpArgs false

end Go.Proofs.Ytjfogodfpmfhhaa

namespace Go.Proofs.Ytjfogodfpmfhhaa
open Go.RowKit Go.Maps
set_option linter.unusedVariables false
set_option linter.unusedSimpArgs false

end Go.Proofs.Ytjfogodfpmfhhaa

namespace Go.Proofs.Ytjfogodfpmfhhaa
open Go
set_option linter.unusedVariables false
set_option linter.unusedSimpArgs false

section
variable {P : Program} {ops : Array Oper} {Q : Exit → Act → World → Prop} {md : Region.Mode}

end

end Go.Proofs.Ytjfogodfpmfhhaa

namespace Go.Proofs.Ytjfogodfpmfhhaa
open Go.RowKit Go.Maps
set_option linter.unusedVariables false
set_option linter.unusedSimpArgs false

section
variable {P : Program} {w : World} {ops : Array Oper} {o : Oper} {a : Act} {K : Act → World → Prop} {Q : Exit → Act → World → Prop} {i : Nat}
end

end Go.Proofs.Ytjfogodfpmfhhaa
