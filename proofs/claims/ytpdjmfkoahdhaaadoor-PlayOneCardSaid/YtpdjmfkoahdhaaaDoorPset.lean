/- Contracts of package play's sets of workers, as bits. -/
import Derived.Test.YtpdjmfkoahdhaaaDoorSetof
import Derived.Test.YtpdjmfkoahdhaaaDoorPlaym
import Derived.Laws.BitsAllLaws
namespace Go.Proofs.YtpdjmfkoahdhaaaDoor
open Go.RowKit
set_option linter.unusedVariables false
set_option linter.unusedSimpArgs false

theorem wd_bit : ∀ (l : List Bool) (i : Nat), (wd l).testBit i = l.getD i false
  | [], i => by simp [wd]
  | b :: r, 0 => by cases b <;> simp [wd, Nat.testBit_zero]
  | b :: r, i + 1 => by
    have e : wd (b :: r) / 2 = wd r := by cases b <;> simp [wd] <;> omega
    rw [Nat.testBit_succ, e, wd_bit r i]; simp
theorem getD_set (l : List Bool) (i j : Nat) (b : Bool) (h : i < l.length) : (l.set i b).getD j false = if i = j then b else l.getD j false := by
  by_cases e : i = j
  · subst e; simp [List.getD, h]
  · simp [List.getD, List.getElem?_set, e]
theorem wd_set_true (l : List Bool) (i : Nat) (h : i < l.length) : wd l ||| 2 ^ i = wd (l.set i true) := by
  apply Nat.eq_of_testBit_eq
  intro j
  rw [Nat.testBit_or, Nat.testBit_two_pow, wd_bit, wd_bit, getD_set _ _ _ _ h]
  by_cases e : i = j <;> simp [e]
theorem wd_set_false (l : List Bool) (i : Nat) (h : i < l.length) (h6 : l.length ≤ 64) : wd l &&& (18446744073709551615 - 2 ^ i) = wd (l.set i false) := by
  apply Nat.eq_of_testBit_eq
  intro j
  have h2 : 2 ^ i < 2 ^ 64 := Nat.pow_lt_pow_right (by decide) (by omega)
  have e : 18446744073709551615 - 2 ^ i = 2 ^ 64 - (2 ^ i + 1) := by have : (2 : Nat) ^ 64 = 18446744073709551616 := by decide
                                                                     omega
  rw [Nat.testBit_and, e, Nat.testBit_two_pow_sub_succ h2, Nat.testBit_two_pow, wd_bit, wd_bit, getD_set _ _ _ _ h]
  by_cases e : i = j
  · simp [e]
  · by_cases hj : j < 64
    · simp [e, hj]
    · have : l.getD j false = false := by simp [List.getD, List.getElem?_eq_none (show l.length ≤ j by omega)]
      rw [this]; simp [e]
theorem wd_or {α : Type} (l : List α) (f g : α → Bool) : wd (l.map f) ||| wd (l.map g) = wd (l.map fun k => f k || g k) := by
  apply Nat.eq_of_testBit_eq
  intro j
  rw [Nat.testBit_or, wd_bit, wd_bit, wd_bit]
  cases h : l[j]? <;> simp [List.getD, h]

theorem has_any (l : List Bool) (i : Nat) (w : World) (h : l.length ≤ 64) (hi : i < 64) :
    Calls Tryd.prog 37 #[.int .u64 (wd l : Nat), .int .i64 (i : Int)] w fun e w' => e = .returned (.bool (l.getD i false)) ∧ w = w' := by
  have h0 := wd_lt64 l h
  have hb := wd_bit l i
  generalize wd l = x at *
  have h1 : x / 2 ^ i < 18446744073709551616 := Nat.lt_of_le_of_lt (Nat.div_le_self _ _) h0
  have e1 : ((x : Int) / 2 ^ i) = ((x / 2 ^ i : Nat) : Int) := by push_cast; rfl
  have e2 := bits_and_u64_nat (x / 2 ^ i) 1 h1 (by omega)
  have e3 : (((x / 2 ^ i &&& 1 : Nat) : Int) == 1) = l.getD i false := by
    rw [← hb, Nat.testBit_eq_decide_div_mod_eq, Nat.and_one_is_mod]
    generalize x / 2 ^ i = y
    rcases Nat.mod_two_eq_zero_or_one y with h | h <;> simp [h]
  have e2' : bits .and .u64 ((x / 2 ^ i : Nat) : Int) 1 = ((x / 2 ^ i &&& 1 : Nat) : Int) := e2
  generalize x / 2 ^ i &&& 1 = z at *
  generalize x / 2 ^ i = y at *
  generalize l.getD i false = b at *
  clear hb e2 h1
  go_enter Tryd.func37, Tryd.ntmps37
  go_wp2_with fail
  refine bodyPost_ret (v := .bool b) (by simp only [results, Tryd.results37]; go_simp) rfl ⟨rfl, rfl⟩

theorem with_any (l : List Bool) (i : Nat) (w : World) (h : l.length ≤ 64) (hi : i < l.length) (v : Nat) (hv : wd (l.set i true) = v) :
    Calls Tryd.prog 35 #[.int .u64 (wd l : Nat), .int .i64 (i : Int)] w fun e w' => e = .returned (.int .u64 (v : Int)) ∧ w = w' := by
  have h0 := wd_lt64 l h
  have hb := wd_set_true l i hi
  rw [hv] at hb
  generalize wd l = x at *
  have e2 := or_key x i h0 (by omega)
  rw [hb] at e2
  go_enter Tryd.func35, Tryd.ntmps35
  go_wp2_with fail
  refine bodyPost_ret (v := .int .u64 (v : Int)) ?_ rfl ⟨rfl, rfl⟩
  simp only [results, Tryd.results35]
  first | go_simp | skip

theorem without_any (l : List Bool) (i : Nat) (w : World) (h : l.length ≤ 64) (hi : i < l.length) (v : Nat) (hv : wd (l.set i false) = v) :
    Calls Tryd.prog 50 #[.int .u64 (wd l : Nat), .int .i64 (i : Int)] w fun e w' => e = .returned (.int .u64 (v : Int)) ∧ w = w' := by
  have h0 := wd_lt64 l h
  have hb := wd_set_false l i hi h
  rw [hv] at hb
  generalize wd l = x at *
  have h2 : 2 ^ i < 18446744073709551616 := Nat.lt_of_lt_of_le (Nat.pow_lt_pow_right (m := i) (n := 64) (show 1 < 2 by decide) (by omega)) (by decide)
  have e : IntKind.u64.wrap (2 ^ i) = ((2 ^ i : Nat) : Int) := by
    rw [← wrap_u64_nat (2 ^ i) h2]; simp
  have e2 : bits .andNot .u64 (x : Int) (IntKind.u64.wrap (2 ^ i)) = (v : Int) := by
    rw [e, u64_andNot_nat _ _ h0 h2, hb]
  clear h2 e hb
  go_enter Tryd.func50, Tryd.ntmps50
  go_wp2_with fail
  refine bodyPost_ret (v := .int .u64 (v : Int)) ?_ rfl ⟨rfl, rfl⟩
  simp only [results, Tryd.results50]
  first | go_simp | skip

theorem second_any (a b : Int) (w : World) :
    Calls Tryd.prog 40 #[.int .i64 a, .int .i64 b] w fun e w' => e = .returned (.bool (decide (4 ≤ a ∧ a < 7 ∧ b = 7))) ∧ w = w' := by
  by_cases h1 : 4 ≤ a
  · by_cases h2 : a < 7
    · by_cases h3 : b = 7
      · subst h3
        go_enter Tryd.func40, Tryd.ntmps40
        go_wp2_with fail
        go_ret
        simp [h1, h2]
      · have h4 : (b == 7) = false := by simpa using h3
        go_enter Tryd.func40, Tryd.ntmps40
        go_wp2_with fail
        go_ret
        simp [h3]
    · go_enter Tryd.func40, Tryd.ntmps40
      go_wp2_with fail
      go_ret
      simp; omega
  · go_enter Tryd.func40, Tryd.ntmps40
    go_wp2_with fail
    go_ret
    simp; omega

end Go.Proofs.YtpdjmfkoahdhaaaDoor
