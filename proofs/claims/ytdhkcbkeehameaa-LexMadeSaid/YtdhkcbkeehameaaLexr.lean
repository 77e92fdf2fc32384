/- Contracts of package lex: row, isWord, kind, Name, Con, and of the statements' own word, row, Name, Con. -/
import Derived.Test.YtdhkcbkeehameaaLexp
namespace Go.Proofs.Ytdhkcbkeehameaa
open Go.RowKit
set_option linter.unusedVariables false
set_option linter.unusedSimpArgs false

theorem byte_le (c : UInt8) : c.toNat ≤ 255 := by have := c.toNat_lt; omega
theorem drop_at (s : ByteArray) (k : Nat) (h : k < s.size) : s.data.toList.drop k = s[k] :: s.data.toList.drop (k + 1) := by
  rw [List.drop_eq_getElem_cons (by simpa using h)]; rfl
theorem rowL_step {p : Nat → Bool} (s : ByteArray) (k : Nat) (h : k < s.size) (hp : p s[k].toNat = true) : (rowL p (s.data.toList.drop k)).length = (rowL p (s.data.toList.drop (k + 1))).length + 1 := by
  rw [drop_at s k h]; conv => lhs; unfold rowL
  rw [if_pos hp]; rfl
theorem rowL_stop {p : Nat → Bool} (s : ByteArray) (k : Nat) (h : k < s.size) (hp : p s[k].toNat = false) : (rowL p (s.data.toList.drop k)).length = 0 := by
  rw [drop_at s k h]; unfold rowL
  rw [if_neg (by rw [hp]; simp)]; rfl
theorem ret_i64 {a b : Int} (h : a = b) : Ending.returned (.int .i64 a) = .returned (.int .i64 b) := by rw [h]

set_option maxHeartbeats 1000000 in
theorem row_isInLine (s : ByteArray) (w : World) (hs : s.size ≤ maxLen) :
    Calls Try.prog 33 #[.string s, .func (.func 34) #[] #[]] w fun e w' => e = .returned (.int .i64 ((rowL noNl s.data.toList).length : Nat)) ∧ w' = w := by
  unfold maxLen at hs
  go_enter Try.func33, Try.ntmps33
  go_wp2
  go_loop [8] (fun i => ∃ k : Nat, k ≤ s.size ∧ i = .int .i64 k ∧ (rowL noNl s.data.toList).length = k + (rowL noNl (s.data.toList.drop k)).length) (fun i => s.size - (intOf i).toNat)
  case atStart => exact ⟨0, Nat.zero_le _, rfl, by simp⟩
  case round =>
    obtain ⟨k, hk, rfl, hr⟩ := hrel
    have HR := Lib.hid hr
    clear hr
    by_cases hlt : k < s.size
    · have hb : s[k].toNat ≤ 255 := byte_le _
      cases hp : noNl s[k].toNat
      · go_wp2_with (go_at_call 34; refine (p_isInLine _ _ hb).mono ?_; rw [hp]; rintro e w' ⟨rfl, rfl⟩)
        go_ret
        exact ⟨ret_i64 (by rw [HR.out, rowL_stop s k hlt hp]; simp), rfl⟩
      · go_wp2_with (go_at_call 34; refine (p_isInLine _ _ hb).mono ?_; rw [hp]; rintro e w' ⟨rfl, rfl⟩)
        go_round
        case rel => exact ⟨k + 1, by omega, by go_num, by rw [HR.out, rowL_step s k hlt hp]; omega⟩
        case measure => simp [intOf]; omega
    · go_wp2
      go_ret
      exact ⟨ret_i64 (by rw [HR.out, List.drop_of_length_le (by simp; omega)]; simp [rowL]; omega), rfl⟩

set_option maxHeartbeats 1000000 in
theorem row_isOfName (s : ByteArray) (w : World) (hs : s.size ≤ maxLen) :
    Calls Try.prog 33 #[.string s, .func (.func 37) #[] #[]] w fun e w' => e = .returned (.int .i64 ((rowL resN s.data.toList).length : Nat)) ∧ w' = w := by
  unfold maxLen at hs
  go_enter Try.func33, Try.ntmps33
  go_wp2
  go_loop [8] (fun i => ∃ k : Nat, k ≤ s.size ∧ i = .int .i64 k ∧ (rowL resN s.data.toList).length = k + (rowL resN (s.data.toList.drop k)).length) (fun i => s.size - (intOf i).toNat)
  case atStart => exact ⟨0, Nat.zero_le _, rfl, by simp⟩
  case round =>
    obtain ⟨k, hk, rfl, hr⟩ := hrel
    have HR := Lib.hid hr
    clear hr
    by_cases hlt : k < s.size
    · have hb : s[k].toNat ≤ 255 := byte_le _
      cases hp : resN s[k].toNat
      · go_wp2_with (go_at_call 37; refine (p_isOfName _ _ hb).mono ?_; rw [hp]; rintro e w' ⟨rfl, rfl⟩)
        go_ret
        exact ⟨ret_i64 (by rw [HR.out, rowL_stop s k hlt hp]; simp), rfl⟩
      · go_wp2_with (go_at_call 37; refine (p_isOfName _ _ hb).mono ?_; rw [hp]; rintro e w' ⟨rfl, rfl⟩)
        go_round
        case rel => exact ⟨k + 1, by omega, by go_num, by rw [HR.out, rowL_step s k hlt hp]; omega⟩
        case measure => simp [intOf]; omega
    · go_wp2
      go_ret
      exact ⟨ret_i64 (by rw [HR.out, List.drop_of_length_le (by simp; omega)]; simp [rowL]; omega), rfl⟩

set_option maxHeartbeats 1000000 in
theorem row_isDigit (s : ByteArray) (w : World) (hs : s.size ≤ maxLen) :
    Calls Try.prog 33 #[.string s, .func (.func 38) #[] #[]] w fun e w' => e = .returned (.int .i64 ((rowL digN s.data.toList).length : Nat)) ∧ w' = w := by
  unfold maxLen at hs
  go_enter Try.func33, Try.ntmps33
  go_wp2
  go_loop [8] (fun i => ∃ k : Nat, k ≤ s.size ∧ i = .int .i64 k ∧ (rowL digN s.data.toList).length = k + (rowL digN (s.data.toList.drop k)).length) (fun i => s.size - (intOf i).toNat)
  case atStart => exact ⟨0, Nat.zero_le _, rfl, by simp⟩
  case round =>
    obtain ⟨k, hk, rfl, hr⟩ := hrel
    have HR := Lib.hid hr
    clear hr
    by_cases hlt : k < s.size
    · have hb : s[k].toNat ≤ 255 := byte_le _
      cases hp : digN s[k].toNat
      · go_wp2_with (go_at_call 38; refine (p_isDigit _ _ hb).mono ?_; rw [hp]; rintro e w' ⟨rfl, rfl⟩)
        go_ret
        exact ⟨ret_i64 (by rw [HR.out, rowL_stop s k hlt hp]; simp), rfl⟩
      · go_wp2_with (go_at_call 38; refine (p_isDigit _ _ hb).mono ?_; rw [hp]; rintro e w' ⟨rfl, rfl⟩)
        go_round
        case rel => exact ⟨k + 1, by omega, by go_num, by rw [HR.out, rowL_step s k hlt hp]; omega⟩
        case measure => simp [intOf]; omega
    · go_wp2
      go_ret
      exact ⟨ret_i64 (by rw [HR.out, List.drop_of_length_le (by simp; omega)]; simp [rowL]; omega), rfl⟩

end Go.Proofs.Ytdhkcbkeehameaa
