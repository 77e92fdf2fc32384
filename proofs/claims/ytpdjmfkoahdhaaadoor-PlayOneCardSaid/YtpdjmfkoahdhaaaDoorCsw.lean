/- Words for the ways through Step. -/
import Derived.Test.YtpdjmfkoahdhaaaDoorCfresh
import Derived.Laws.Tables
namespace Go.Proofs.YtpdjmfkoahdhaaaDoor
open Go.RowKit
set_option linter.unusedVariables false
set_option linter.unusedSimpArgs false

/-- Behind the task's store, ahead of the way out. -/
def AtEnd (w : World) (g : Nat) (up : List Nat) (cs : List Value) (s6 : Value) (wx : World) : Prop :=
  Own wx g up ∧ Box wx w.heap.size 72 cs ∧ Box wx (w.heap.size + 1) 72 [.int .i64 0, .int .i64 0, .int .i64 0, .int .i64 0, .int .i64 0, .int .i64 0, .int .i64 0, .int .i64 0, .bool false, .int .i64 0] ∧ Below w.heap.size w wx

theorem Tryd.taskSize : (Tryd.prog.info? 72).map (·.size) = some 10 := by kernel_rfl
theorem Two.own {b1 b2 g : Nat} {w w' : World} {p : List Nat} (h : Two b1 b2 w w') (ho : Own w g p) (h1 : g ≠ b1) (h2 : g ≠ b2) : Own w' g p := ho.agree (h.block g ho.1 h1 h2) h.size
/-- The store of a whole struct into a block of its own: the world behind it, by what it holds. -/
theorem wpList_store_box {P : Program} {ops : Array Oper} {rest : List Oper} {o : Oper} {a : Act} {w : World} {Q : Exit → Act → World → Prop} (hgd : o.guard = none) (ty : TypeId) (x y : Operand) (ho : o.op = .store ty x y)
    (g : Nat) (cells : List Value) (hx : a.eval x = .pointer (some ⟨g, 0, none⟩)) (hy : a.eval y = .agg cells.toArray) (t : TypeId) (old : List Value) (hg : Box w g t old) (hi : (P.info? ty).map (·.size) = some cells.length)
    (hold : old.length = cells.length) (h1 : ∀ v ∈ cells, v.oneCell' = true)
    (h : ∀ w', Box w' g t cells → Two g g w w' → wpList P ops Q rest (a.put o.dst undef) w') : wpList P ops Q (o :: rest) a w := by
  refine wpList_store_row hgd ty x y ho g cells.toArray hx hy t old.toArray hg (by simpa using hi) (by simpa using hold) (Array.all_eq_true_iff_forall_mem.2 (fun v hv => h1 v (by simpa using hv))) (h _ ?_ ?_)
  · exact setRow_heap w g _ _ t (0, 0) hg
  · refine ⟨?_, ?_, ?_, ?_, ?_⟩
    all_goals unfold World.setRow
    · rfl
    · rfl
    · rfl
    · simp
    · intro k hk h1 _
      simp [Array.getElem?_setIfInBounds, Array.getElem?_modify, Ne.symm h1]
theorem Own.drew1 {w : World} {g : Nat} {p : List Nat} (h : Own w g p) : Own w.drew g p := h

end Go.Proofs.YtpdjmfkoahdhaaaDoor
