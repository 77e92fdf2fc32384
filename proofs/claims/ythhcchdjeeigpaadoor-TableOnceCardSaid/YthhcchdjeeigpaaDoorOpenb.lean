/- The table of math/bits, off the row's condition. -/
import Derived.Test.YthhcchdjeeigpaaDoorRows
import Derived.Test.YthhcchdjeeigpaaDoorOpen
import Derived.Test.YthhcchdjeeigpaaDoorBits
import Derived.Lib.LaidTab
import Derived.LaidMore
import Derived.Stop.Joined
namespace Go.Proofs.YthhcchdjeeigpaaDoor
open Go.RowKit

theorem tab_global : Tryd.prog.globalNamed "math/bits.deBruijn64tab" = some 0 := by kernel_rfl
theorem tab_type : (Tryd.prog.globals[0]?).map (·.type) = some 173 := by kernel_rfl

theorem tab_of_laid {W : World} (h : laidMetH Tryd.prog [("math/bits.deBruijn64tab", Rows.laid_math_bits_deBruijn64tab)] W) : Tab W := by
  rw [MakeChecks.laidMetH_plain _ _ _ (by kernel_rfl)] at h
  have h' : laidMet Tryd.prog [("math/bits.deBruijn64tab", Lib.tabData .u8 (Lib.deBruijn64tab.map fun n : Nat => (n : Int)))] W := h
  have ht := Lib.tabIs_of_head tab_global tab_type Tryd.underlying173 Tryd.underlying5 (by kernel_rfl) (by kernel_rfl) h'
  intro j hj
  rw [ht.cell tab_global j (by simpa using hj)]
  simp [List.getD, hj]

end Go.Proofs.YthhcchdjeeigpaaDoor
