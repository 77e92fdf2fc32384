/- Words for the ways through Step. -/
import Derived.Test.YthhcchdjeeigpaaDoorMem
import Derived.Test.YthhcchdjeeigpaaDoorCfresh
import Derived.Laws.Tables
namespace Go.Proofs.YthhcchdjeeigpaaDoor
open Go.RowKit
set_option linter.unusedVariables false
set_option linter.unusedSimpArgs false

/-- Behind the task's store, ahead of the way out. -/
def AtEnd (w : World) (g : Nat) (up : List Nat) (cs : List Value) (s6 : Value) (wx : World) : Prop :=
  Own wx g up ∧ Box wx w.heap.size 87 cs ∧ Box wx (w.heap.size + 1) 87 [.int .i64 0, .int .i64 0, .int .i64 0, .int .i64 0, .int .i64 0, .int .i64 0, .int .i64 0, .int .i64 0, .bool false, .int .i64 0] ∧ Below w.heap.size w wx

theorem Tryd.taskSize : (Tryd.prog.info? 87).map (·.size) = some 10 := by kernel_rfl
theorem Two.own {b1 b2 g : Nat} {w w' : World} {p : List Nat} (h : Two b1 b2 w w') (ho : Own w g p) (h1 : g ≠ b1) (h2 : g ≠ b2) : Own w' g p := ho.agree (h.block g ho.1 h1 h2) h.size
theorem Own.drew1 {w : World} {g : Nat} {p : List Nat} (h : Own w g p) : Own w.drew g p := h

end Go.Proofs.YthhcchdjeeigpaaDoor
