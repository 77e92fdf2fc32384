/- The statements' programs by numbers: Source tells some text that is empty or ends a line. (Premise: what Expr tells.) The statements' expr, atom, Expr: their texts, whatever the numbers. How a slice of integers, of bools, that came in as an argument is read. How a slice of slices of bytes that came in as an argument is read. -/
import Derived.Test.YtgkeblpjmfdhkaaZJR
import Derived.Deep.RegionWith
import Derived.Deep.CutRange
import Derived.Test.YtgkeblpjmfdhkaaZKR
import Derived.Test.YtgkeblpjmfdhkaaZAR
import Derived.ProofKit
import Derived.OpenShut
import Derived.Lib.SmallJoins
import Derived.Deep.Grids
import Derived.Deep.Matrix
namespace Go.Proofs.Ytgkeblpjmfdhkaa
open Go.RowKit
set_option linter.unusedVariables false
set_option linter.unusedSimpArgs false

end Go.Proofs.Ytgkeblpjmfdhkaa

namespace Go.Proofs.Ytgkeblpjmfdhkaa
open Go.RowKit
set_option linter.unusedVariables false
set_option linter.unusedSimpArgs false

end Go.Proofs.Ytgkeblpjmfdhkaa

namespace Go.Proofs.Ytgkeblpjmfdhkaa
open Go.RowKit Go.WideShapes Go.ChangeShapes

theorem RowF.of_cells {α : Type} {f : α → Value} {d : α} {w : World} {x : Addr} {len cap : Nat} {zs : List α} (hl : len ≤ cap) (hz : zs.length = cap) (hcell : ∀ i, i < zs.length → w.cell? (x.add i) = some (f (zs.getD i d))) :
    RowF f d 0 w.heap.size w (some x) len (zs.take len) := by
  refine ⟨by simp; omega, ?_⟩
  by_cases h0 : len = 0
  · exact .inl h0
  · obtain ⟨b, off, spot⟩ := x
    have hc := hcell 0 (by omega)
    have hspot : spot = none := by simpa [Addr.add] using World.cell?_spot hc
    subst hspot
    refine .inr ⟨b, off, rfl, Nat.zero_le _, World.block_lt_of_cell? _ _ hc, fun i hi => ?_⟩
    have := hcell i (by omega)
    rw [Addr.add_lit] at this
    rw [this]
    simp [List.getD, hi]

end Go.Proofs.Ytgkeblpjmfdhkaa

namespace Go.Proofs.Ytgkeblpjmfdhkaa
open Go.RowKit Go.WideShapes Go.ChangeShapes
set_option linter.unusedVariables false

end Go.Proofs.Ytgkeblpjmfdhkaa
