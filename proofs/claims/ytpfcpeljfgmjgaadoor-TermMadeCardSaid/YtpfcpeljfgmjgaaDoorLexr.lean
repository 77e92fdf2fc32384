/- Contracts of package lex: row, isWord, kind, Name, Con, and of the statements' own word, row, Name, Con. -/
import Derived.Test.YtpfcpeljfgmjgaaDoorLexp
namespace Go.Proofs.YtpfcpeljfgmjgaaDoor
open Go.RowKit
set_option linter.unusedVariables false
set_option linter.unusedSimpArgs false

theorem byte_le (c : UInt8) : c.toNat ≤ 255 := by have := c.toNat_lt; omega
theorem drop_at (s : ByteArray) (k : Nat) (h : k < s.size) : s.data.toList.drop k = s[k] :: s.data.toList.drop (k + 1) := by
  rw [List.drop_eq_getElem_cons (by simpa using h)]; rfl
theorem rowL_step {p : Nat → Bool} (s : ByteArray) (k : Nat) (h : k < s.size) (hp : p s[k].toNat = true) : (rowL p (s.data.toList.drop k)).length = (rowL p (s.data.toList.drop (k + 1))).length + 1 := by
  rw [drop_at s k h]; conv => lhs; unfold rowL
  rw [if_pos hp]; rfl
theorem rowL_stop {p : Nat → Bool} (s : ByteArray) (k : Nat) (h : k < s.size) (hp : p s[k].toNat = false) : (rowL p (s.data.toList.drop k)).length = 0 := by
  rw [drop_at s k h]; unfold rowL
  rw [if_neg (by rw [hp]; simp)]; rfl
theorem ret_i64 {a b : Int} (h : a = b) : Ending.returned (.int .i64 a) = .returned (.int .i64 b) := by rw [h]

end Go.Proofs.YtpfcpeljfgmjgaaDoor
