/- Package parse's reader: names. Rows of things that grow by append: each thing's own memory stays. What a call of the reader's tells. Package parse's row at api.Type. Package parse's row at api.Expr. Package parse's row at api.Con. Package parse's row at api.Alt. The end of a call of the reader's: its result lies in a block of its own (Nb). Package parse's bracket at api.Type. Package parse's bracket at api.Expr. Package parse's reader: variable, tupleType. -/
import Derived.Test.YtjfogodfpmfhhaaZBD
import Derived.Laws.OwnMore
namespace Go.Proofs.Ytjfogodfpmfhhaa
open Go.RowKit Go.Maps
set_option linter.unusedVariables false
set_option linter.unusedSimpArgs false

theorem Try.zstrInfo : (Try.prog.info? 9).map (fun i => (i.zero, i.size, i.bytes)) = some (some (.string ⟨#[]⟩), 1, 16) := by kernel_rfl
end Go.Proofs.Ytjfogodfpmfhhaa

namespace Go.Proofs.Ytjfogodfpmfhhaa
open Go.RowKit Go.Maps
set_option linter.unusedVariables false
set_option linter.unusedSimpArgs false

theorem IsV.cn {S : Nat → Prop} {w : World} {v : Value} {x : Cn} (h : IsV S w (cnC x) v) : ∃ (a : Option Addr) (cp : Nat), v = .agg #[.string (strB x.s), .int .i64 x.p, .slice a x.args.length cp] ∧ InC S w (.s x.args.length 4 (tysC x.args)) (.slice a x.args.length cp) := by
  obtain ⟨us, rfl, h⟩ := h
  unfold cnC at h
  obtain ⟨u0, r0, rfl, l0⟩ := three_cons (n := 2) h.1
  obtain ⟨u1, r1, rfl, l1⟩ := three_cons (n := 1) l0
  obtain ⟨u2, r2, rfl, l2⟩ := three_cons (n := 0) l1
  obtain rfl := List.eq_nil_of_length_eq_zero l2
  obtain rfl := h.head.val
  obtain rfl := h.tail.head.val
  obtain ⟨a, cp, rfl, _, _⟩ := h.tail.tail.head.slice
  exact ⟨a, cp, rfl, h.tail.tail.head⟩
end Go.Proofs.Ytjfogodfpmfhhaa

namespace Go.Proofs.Ytjfogodfpmfhhaa
open Go.RowKit Go.Maps
set_option linter.unusedVariables false
set_option linter.unusedSimpArgs false

theorem Try.zinfoT : (Try.prog.info? 63).map (fun i => (i.zero, i.size, i.bytes)) = some (some (.agg #[.int .i64 0, .int .i64 0, .string ⟨#[]⟩, .slice none 0 0]), 4, 56) := by kernel_rfl

end Go.Proofs.Ytjfogodfpmfhhaa

namespace Go.Proofs.Ytjfogodfpmfhhaa
open Go.RowKit Go.Maps
set_option linter.unusedVariables false
set_option linter.unusedSimpArgs false

end Go.Proofs.Ytjfogodfpmfhhaa

namespace Go.Proofs.Ytjfogodfpmfhhaa
open Go.RowKit Go.Maps
set_option linter.unusedVariables false
set_option linter.unusedSimpArgs false

end Go.Proofs.Ytjfogodfpmfhhaa

namespace Go.Proofs.Ytjfogodfpmfhhaa
open Go.RowKit Go.Maps
set_option linter.unusedVariables false
set_option linter.unusedSimpArgs false

end Go.Proofs.Ytjfogodfpmfhhaa

namespace Go.Proofs.Ytjfogodfpmfhhaa
open Go.RowKit Go.Maps
set_option linter.unusedVariables false
set_option linter.unusedSimpArgs false

end Go.Proofs.Ytjfogodfpmfhhaa

namespace Go.Proofs.Ytjfogodfpmfhhaa
open Go.RowKit Go.Maps
set_option linter.unusedVariables false
set_option linter.unusedSimpArgs false

end Go.Proofs.Ytjfogodfpmfhhaa

namespace Go.Proofs.Ytjfogodfpmfhhaa
open Go.RowKit Go.Maps
set_option linter.unusedVariables false
set_option linter.unusedSimpArgs false

end Go.Proofs.Ytjfogodfpmfhhaa

namespace Go.Proofs.Ytjfogodfpmfhhaa
open Go.RowKit Go.Maps
set_option linter.unusedVariables false
set_option linter.unusedSimpArgs false

theorem Try.zstrKeyed : Keyed Try.prog 9 := string_keyed Try.underlying9
theorem str_key {s : By} (h : s.length ≤ 1000000) : ∃ l, keyOf Try.prog 9 (.string (strB s)) = some l :=
  ⟨_, Go.WideMaps.keyOf_string_mk Try.underlying9 (by rw [strB_size]; unfold maxLen; omega)⟩
end Go.Proofs.Ytjfogodfpmfhhaa
