/- How a struct of three cells that came in as an argument is read. -/
import Derived.Test.YtimnhfppondnaaaOpen
namespace Go.Proofs.Ytimnhfppondnaaa
open Go.RowKit Go.WideShapes Go.ChangeShapes

theorem three_of {l : List Value} (h : (Array.mk l).size = 3) : ∃ c0 c1 c2, l = [c0, c1, c2] := by
  have h : l.length = 3 := h
  match l, h with
  | [c0, c1, c2], _ => exact ⟨c0, c1, c2, rfl⟩

end Go.Proofs.Ytimnhfppondnaaa
