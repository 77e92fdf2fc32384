/- Contracts of package lex: nameToken, signToken, intToken, strings.HasPrefix, strings.Clone. -/
import Derived.Test.YtpfcpeljfgmjgaaDoorLexk
import Derived.Lib.BufferWrite
import Derived.Lib.UnsafeStr
import Derived.Laws.MakeOwn
import Derived.Laws.Strings3
namespace Go.Proofs.YtpfcpeljfgmjgaaDoor
open Go.RowKit
set_option linter.unusedVariables false
set_option linter.unusedSimpArgs false

/-- A token as a value. -/
def tokV (k : Int) (p : Int) (s : ByteArray) (n : Int) : Value := .agg #[.int .i64 k, .int .i64 p, .string s, .int .i64 n]
def twV (k : Int) (s : ByteArray) (n w : Int) : Value := .tuple #[tokV k 0 s n, .int .i64 w]
def noTok : Value := twV 0 ⟨#[]⟩ 0 0
theorem ret_tw {k k' n n' w w' : Int} {s s' : ByteArray} (h1 : k = k') (h2 : s = s') (h3 : n = n') (h4 : w = w') : Ending.returned (twV k s n w) = .returned (twV k' s' n' w') := by rw [h1, h2, h3, h4]

theorem ret_of {a b : Value} (h : a = b) : Ending.returned a = .returned b := by rw [h]
/-! ### Numbers of digits -/
def stepN (n : Nat) (c : UInt8) : Nat := n * 10 + (c.toNat - 48)
theorem numL_le_app (b : By) : ∀ n : Nat, n ≤ b.foldl stepN n := by
  induction b with
  | nil => intro n; exact Nat.le_refl _
  | cons c r ih => intro n; exact Nat.le_trans (by unfold stepN; omega) (ih (stepN n c))
theorem numL_take (l : By) (k : Nat) : numL (l.take k) ≤ numL l := by
  have : numL l = (l.drop k).foldl stepN (numL (l.take k)) := by
    show l.foldl stepN 0 = (l.drop k).foldl stepN ((l.take k).foldl stepN 0)
    rw [← List.foldl_append, List.take_append_drop]
  rw [this]; exact numL_le_app _ _
theorem take_snoc (s : ByteArray) (k : Nat) (h : k < s.size) : s.data.toList.take (k + 1) = s.data.toList.take k ++ [s[k]] := by
  rw [List.take_succ_eq_append_getElem (by simpa using h)]; rfl
theorem numL_snoc (s : ByteArray) (k : Nat) (h : k < s.size) : numL (s.data.toList.take (k + 1)) = numL (s.data.toList.take k) * 10 + (s[k].toNat - 48) := by
  rw [take_snoc s k h]; unfold numL; rw [List.foldl_append]; rfl
theorem all_at {p : Nat → Bool} (s : ByteArray) (ha : s.data.toList.all (fun c => p c.toNat) = true) (k : Nat) (h : k < s.size) : p s[k].toNat = true :=
  List.all_eq_true.1 ha _ (by
    have : s[k] = s.data.toList[k]'(by simpa using h) := rfl
    rw [this]; exact List.getElem_mem _)
def badInt (s : ByteArray) : Prop := (1 < s.size ∧ (s.data.toList.headD 0).toNat = 48) ∨ 2147483647 < numL s.data.toList
instance decBadInt (s : ByteArray) : Decidable (badInt s) := by unfold badInt; infer_instance

end Go.Proofs.YtpfcpeljfgmjgaaDoor
