/- Contracts of package hash: Stripe; of the statements' own Stripe; their awake. -/
import Derived.Test.YtimnhfppondnaaaHof
namespace Go.Proofs.Ytimnhfppondnaaa
open Go.RowKit
set_option linter.unusedVariables false

/-- Stripes, cut to what may be. -/
def cutS (n : Int) : Int := if n < 1 then 1 else if 64 < n then 64 else n
theorem cutS_bd (n : Int) : 1 ≤ cutS n ∧ cutS n ≤ 64 := by unfold cutS; split; omega; split <;> omega
def strI (l : List UInt8) (a b n : Int) : Int := keyI l a b % cutS n
theorem strI_bd (l : List UInt8) (a b n : Int) : 0 ≤ strI l a b n ∧ strI l a b n < cutS n := by
  have := cutS_bd n
  unfold strI
  exact ⟨Int.emod_nonneg _ (by omega), Int.emod_lt_of_pos _ (by omega)⟩

theorem ret_i64 {a b : Int} (h : a = b) : Ending.returned (.int .i64 a) = .returned (.int .i64 b) := by rw [h]
theorem below_next {B : Nat} {w w' w'' : World} (h : Below B w w') (k : Below w'.heap.size w' w'') (hB : B ≤ w.heap.size) : Below B w w'' := h.trans (k.mono (Nat.le_trans hB h.size))

set_option maxHeartbeats 400000 in
theorem stripe_key (s : ByteArray) (a b n : Int) (w : World) (hs : s.size ≤ maxLen) :
    Calls Try.prog 12 #[.agg #[.string s, .int .i64 a, .int .i64 b], .int .i64 n] w fun e w' => e = .returned (.int .i64 (strI s.data.toList a b n)) ∧ Below w.heap.size w w' := by
  have HM : Hid (s.size ≤ maxLen) := Lib.hid hs
  have hk := keyI_bd s.data.toList a b
  unfold strI
  obtain ⟨y, hy⟩ : ∃ y, keyI s.data.toList a b = y := ⟨_, rfl⟩
  rw [hy] at hk ⊢
  have HY := Lib.hid hy
  clear hy hs
  obtain ⟨c, hc⟩ : ∃ c, cutS n = c := ⟨_, rfl⟩
  rw [hc]
  unfold cutS at hc
  split at hc
  · subst hc
    go_enter Try.func12, Try.ntmps12
    go_wp2_with (go_at_call 10; refine (of_key _ _ _ _ HM.out).mono ?_; rw [HY.out]; rintro e w' ⟨rfl, hb⟩)
    go_ret
    exact ⟨ret_i64 (by omega), below_next ((Below.refl _ _).alloc (Nat.le_refl _) _) hb (Nat.le_refl _)⟩
  · split at hc
    · subst hc
      go_enter Try.func12, Try.ntmps12
      go_wp2_with (go_at_call 10; refine (of_key _ _ _ _ HM.out).mono ?_; rw [HY.out]; rintro e w' ⟨rfl, hb⟩)
      go_ret
      exact ⟨ret_i64 (by omega), below_next ((Below.refl _ _).alloc (Nat.le_refl _) _) hb (Nat.le_refl _)⟩
    · subst hc
      have h1 : 0 ≤ y % n := Int.emod_nonneg _ (by omega)
      have h2 : y % n < n := Int.emod_lt_of_pos _ (by omega)
      go_enter Try.func12, Try.ntmps12
      go_wp2_with (go_at_call 10; refine (of_key _ _ _ _ HM.out).mono ?_; rw [HY.out]; rintro e w' ⟨rfl, hb⟩)
      all_goals
        go_ret
        exact ⟨(by first | rfl | exact ret_i64 (by unfold wrap64; omega) | exact ret_i64 (by have e1 : n = 1 := (by omega); subst e1; unfold wrap64; omega)), below_next ((Below.refl _ _).alloc (Nat.le_refl _) _) hb (Nat.le_refl _)⟩

set_option maxHeartbeats 400000 in
theorem rstripe_key (s : ByteArray) (a b n : Int) (w : World) (hs : s.size ≤ 1000) :
    Calls Try.prog 13 #[.agg #[.string s, .int .i64 a, .int .i64 b], .int .i64 n] w fun e w' => e = .returned (.int .i64 (strI s.data.toList a b n)) ∧ Below w.heap.size w w' := by
  have HM : Hid (s.size ≤ 1000) := Lib.hid hs
  have hk := keyI_bd s.data.toList a b
  unfold strI
  obtain ⟨y, hy⟩ : ∃ y, keyI s.data.toList a b = y := ⟨_, rfl⟩
  rw [hy] at hk ⊢
  have HY := Lib.hid hy
  clear hy hs
  obtain ⟨c, hc⟩ : ∃ c, cutS n = c := ⟨_, rfl⟩
  rw [hc]
  unfold cutS at hc
  split at hc
  · subst hc
    go_enter Try.func13, Try.ntmps13
    go_wp2_with (go_at_call 11; refine (rof_key _ _ _ _ HM.out).mono ?_; rw [HY.out]; rintro e w' ⟨rfl, hb⟩)
    go_ret
    exact ⟨ret_i64 (by omega), below_next ((Below.refl _ _).alloc (Nat.le_refl _) _) hb (Nat.le_refl _)⟩
  · split at hc
    · subst hc
      go_enter Try.func13, Try.ntmps13
      go_wp2_with (go_at_call 11; refine (rof_key _ _ _ _ HM.out).mono ?_; rw [HY.out]; rintro e w' ⟨rfl, hb⟩)
      go_ret
      exact ⟨ret_i64 (by omega), below_next ((Below.refl _ _).alloc (Nat.le_refl _) _) hb (Nat.le_refl _)⟩
    · subst hc
      have h1 : 0 ≤ y % n := Int.emod_nonneg _ (by omega)
      have h2 : y % n < n := Int.emod_lt_of_pos _ (by omega)
      go_enter Try.func13, Try.ntmps13
      go_wp2_with (go_at_call 11; refine (rof_key _ _ _ _ HM.out).mono ?_; rw [HY.out]; rintro e w' ⟨rfl, hb⟩)
      all_goals
        go_ret
        exact ⟨(by first | rfl | exact ret_i64 (by unfold wrap64; omega) | exact ret_i64 (by have e1 : n = 1 := (by omega); subst e1; unfold wrap64; omega)), below_next ((Below.refl _ _).alloc (Nat.le_refl _) _) hb (Nat.le_refl _)⟩

theorem sum_a : sumI [97] = 3826002220 := by decide +kernel
theorem key_a : strI [97] 0 0 0 = 0 := by decide +kernel

set_option maxHeartbeats 400000 in
theorem awake_any (w : World) : Calls Try.prog 7 #[] w fun e w' => e = .returned (.bool true) ∧ Below w.heap.size w w' := by
  have c1 : ∀ w, Calls Try.prog 8 #[.string ⟨#[97]⟩] w fun e w' => e = .returned (.int .u32 3826002220) ∧ w = w' := fun w => by
    have := sum_any ⟨#[97]⟩ w (by decide)
    rwa [show sumI (ByteArray.mk #[97]).data.toList = 3826002220 from sum_a] at this
  have c2 : ∀ w, Calls Try.prog 8 #[.string ⟨#[]⟩] w fun e w' => e = .returned (.int .u32 2166136261) ∧ w = w' := fun w => sum_any ⟨#[]⟩ w (by decide)
  have c3 : ∀ w, Calls Try.prog 12 #[.agg #[.string ⟨#[97]⟩, .int .i64 0, .int .i64 0], .int .i64 0] w fun e w' => e = .returned (.int .i64 0) ∧ Below w.heap.size w w' := fun w => by
    have := stripe_key ⟨#[97]⟩ 0 0 0 w (by decide)
    rwa [show strI (ByteArray.mk #[97]).data.toList 0 0 0 = 0 from key_a] at this
  have C1 := Lib.hid c1
  have C2 := Lib.hid c2
  have C3 := Lib.hid c3
  clear c1 c2 c3
  go_enter Try.func7, Try.ntmps7
  go_wp2_with (first | (go_at_call 8; (with_reducible refine (C1.out _).mono ?_); rintro e w' ⟨rfl, rfl⟩) | (go_at_call 8; (with_reducible refine (C2.out _).mono ?_); rintro e w' ⟨rfl, rfl⟩) | (go_at_call 12; (with_reducible refine (C3.out _).mono ?_); rintro e w' ⟨rfl, hb⟩))
  go_ret
  exact ⟨rfl, hb⟩

end Go.Proofs.Ytimnhfppondnaaa
