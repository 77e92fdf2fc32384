/- A block that is new. -/
import Derived.Test.YthhcchdjeeigpaaDoorCinto
namespace Go.Proofs.YthhcchdjeeigpaaDoor
open Go.RowKit
set_option linter.unusedVariables false
set_option linter.unusedSimpArgs false

/-- Behind the change of a cell. -/
def AfterInto (g tb : Nat) (up : List Nat) (w : World) (k x y st u v ww r res : Nat) (s8 : Value) (wx : World) : Prop :=
  s8 = .bool false ∧ Own wx g up ∧ Box wx tb 87 [.int .i64 (k : Int), .int .i64 (x : Int), .int .i64 (y : Int), .int .i64 (st : Int), .int .i64 (u : Int), .int .i64 (v : Int), .int .i64 (ww : Int), .int .i64 (r : Int), .bool false, .int .i64 (res : Int)] ∧ Two g tb w wx
theorem Two.fresh {w w' : World} {g b : Nat} {o : Obj} (h : Two g w.heap.size (w.alloc o).drew w') : Two g b w w' :=
  ⟨h.os, h.tape, h.output, Nat.le_trans (by simp) h.size, fun k hk h1 h2 => (h.block k (by show k < (w.alloc o).heap.size; simp; omega) h1 (by omega)).trans (Below.heap_alloc w o k hk)⟩

end Go.Proofs.YthhcchdjeeigpaaDoor
