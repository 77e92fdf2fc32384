/- What single operations leave, each by itself. -/
import Derived.Test.YtdbjmonboecfgaaGty
import Derived.Test.YtdbjmonboecfgaaGgr
namespace Go.Proofs.Ytdbjmonboecfgaa
open Go Go.RowKit
set_option linter.unusedVariables false
set_option linter.unusedSimpArgs false

section
variable {ev : Operand → Value} {o : Oper} {w : World} {x y z : Operand} {v u : Value}
theorem xmove (ho : o.op = .move x) (h : ev x = v) : (execOp ev o).run Try.prog w = .ok (.value v) w := by
  unfold execOp
  rw [ho]
  simp only [h]
  rfl
theorem xassign (ho : o.op = .assign x) (h : ev x = v) : (execOp ev o).run Try.prog w = .ok (.value v) w := by
  unfold execOp
  rw [ho]
  simp only [h]
  rfl
theorem xpick {c : Bool} (ho : o.op = .pick x y z) (h : ev x = .bool c) (h1 : ev y = v) (h2 : ev z = u) : (execOp ev o).run Try.prog w = .ok (.value (if c then v else u)) w := by
  unfold execOp
  rw [ho]
  simp only [h, h1, h2]
  rfl
theorem xnot {c : Bool} {t : TypeId} (ho : o.op = .unOp .not t x) (h : ev x = .bool c) : (execOp ev o).run Try.prog w = .ok (.value (.bool !c)) w := by
  unfold execOp
  rw [ho]
  simp only [h]
  rfl
theorem xeqb {c d : Bool} (ho : o.op = .binOp .eql 4 x y 4) (h : ev x = .bool c) (h1 : ev y = .bool d) : (execOp ev o).run Try.prog w = .ok (.value (.bool (c == d))) w := by
  unfold execOp
  rw [ho]
  simp only [h, h1]
  go_simp
theorem xeqi {c d : Int} (ho : o.op = .binOp .eql 3 x y 3) (h : ev x = .int .i64 c) (h1 : ev y = .int .i64 d) : (execOp ev o).run Try.prog w = .ok (.value (.bool (c == d))) w := by
  unfold execOp
  rw [ho]
  simp only [h, h1]
  go_simp
theorem xlen {s : Option Addr} {l c : Nat} (ho : o.op = Op.call { callee := .builtin .len, args := #[x], argTypes := #[23] }) (h : ev x = .slice s l c) : (execOp ev o).run Try.prog w = .ok (.value (.int .i64 l)) w := by
  unfold execOp
  rw [ho]
  simp only [h]
  go_simp
theorem xload {p : Addr} {c : Value} (ho : o.op = .load 3 x) (h : ev x = .pointer (some p)) (h1 : w.cell? p = some c) : (execOp ev o).run Try.prog w = .ok (.value c) w := by
  unfold execOp
  rw [ho]
  simp only [h]
  go_simp
theorem xindex {p : Nat} {k m : Nat} (ho : o.op = .indexAddr 26 x y) (h : ev x = .slice (some ⟨p, 0, none⟩) k k) (h1 : ev y = .int .i64 (m : Int)) (hm : m < k) : (execOp ev o).run Try.prog w = .ok (.value (.pointer (some ⟨p, m, none⟩))) w := by
  unfold execOp
  rw [ho]
  simp only [h, h1]
  go_simp
end

end Go.Proofs.Ytdbjmonboecfgaa
