/- Package parse's lams: a range over slices.Backward. Package parse's leaf; seesAtom. Package parse's reader: tuple. Package parse's reader: the map of beginnings; seesAtom. Package parse's reader: atom. Package parse's reader: lam. Package parse's reader: bind. -/
import Derived.Test.YtgkeblpjmfdhkaaZCM
import Derived.RangeFuncNested
import Derived.RangeFuncBound
import Derived.RangeFuncCalls
import Derived.RangeFuncLeaves
import Derived.RangeFuncWrites
import Derived.RangeFuncBox
import Derived.Shelf.Abstract
import Derived.Shelf.RegionOpen
import Derived.WalkKit
import Derived.OwnWalkIn
import Derived.TacticsInMore
import Derived.LoopNIn
import Derived.LoopIn
import Derived.Deep.RegionWith
import Derived.Test.YtgkeblpjmfdhkaaZDM
import Derived.Deep.RegionHeld3
namespace Go.Proofs.Ytgkeblpjmfdhkaa
open Go.RowKit Go.Shelf
attribute [local go_sem] Oper.semAt_some
set_option linter.unusedVariables false
set_option linter.unusedSimpArgs false

/-- What a round keeps: all cells below n₀ but one block's. -/
def KpB (n₀ B : Nat) (w w' : World) : Prop := ∀ k, k < n₀ → k ≠ B → w'.heap[k]? = w.heap[k]?
theorem Box.own {w w' : World} {row : Option Nat} {b : Nat} {t : TypeId} {cs : List Value} (h : Box w b t cs) (hg : w.grownBy w' row) (hr : ∀ r, row = some r → ∃ o : Obj, w.heap[r]? = some o ∧ o.isCells = false) : Box w' b t cs :=
  (hg.block b h.lt fun e => by obtain ⟨o, ho, hc⟩ := hr b e.symm; rw [h] at ho; cases ho; cases hc).trans h
end Go.Proofs.Ytgkeblpjmfdhkaa

namespace Go.Proofs.Ytgkeblpjmfdhkaa
open Go.RowKit Go.Maps
set_option linter.unusedVariables false
set_option linter.unusedSimpArgs false

end Go.Proofs.Ytgkeblpjmfdhkaa

namespace Go.Proofs.Ytgkeblpjmfdhkaa
open Go.RowKit Go.Maps
set_option linter.unusedVariables false
set_option linter.unusedSimpArgs false

theorem tupEx_ne {p : Int} {l : List Ex} (h : l.length ≠ 1) : tupEx p l = .mk 8 p [] 0 l [] := by
  unfold tupEx
  split
  · exact absurd rfl h
  · rfl

end Go.Proofs.Ytgkeblpjmfdhkaa

namespace Go.Proofs.Ytgkeblpjmfdhkaa
open Go.RowKit Go.Maps
set_option linter.unusedVariables false
set_option linter.unusedSimpArgs false

end Go.Proofs.Ytgkeblpjmfdhkaa

namespace Go.Proofs.Ytgkeblpjmfdhkaa
open Go.RowKit Go.Maps
set_option linter.unusedVariables false
set_option linter.unusedSimpArgs false

end Go.Proofs.Ytgkeblpjmfdhkaa

namespace Go.Proofs.Ytgkeblpjmfdhkaa
open Go.RowKit Go.Maps
set_option linter.unusedVariables false
set_option linter.unusedSimpArgs false

end Go.Proofs.Ytgkeblpjmfdhkaa

namespace Go.Proofs.Ytgkeblpjmfdhkaa
open Go.RowKit Go.Maps
set_option linter.unusedVariables false
set_option linter.unusedSimpArgs false

theorem IsV.of_bd {S : Nat → Prop} {w : World} {s : By} {p : Int} {x : Ex} {us : List Value} (h : IsV S w (exC x) (.agg us.toArray)) {vs : List Value} (hv : vs = .string (strB s) :: .int .i64 p :: us) : IsV S w (bdC ⟨s, p, x⟩) (.agg vs.toArray) := by
  subst hv
  exact ⟨_, rfl, InS.cons (.v _) (InS.cons (.v _) (by simpa [Value.cells] using h.cells))⟩
end Go.Proofs.Ytgkeblpjmfdhkaa
