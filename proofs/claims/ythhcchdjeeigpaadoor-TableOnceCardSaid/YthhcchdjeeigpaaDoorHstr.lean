/- Contracts of package hash: Stripe; of the statements' own Stripe; their awake. -/
import Derived.Test.YthhcchdjeeigpaaDoorPop
import Derived.Test.YthhcchdjeeigpaaDoorTwo
import Derived.Test.YthhcchdjeeigpaaDoorCsmall
import Derived.Test.YthhcchdjeeigpaaDoorHof
namespace Go.Proofs.YthhcchdjeeigpaaDoor
open Go.RowKit
set_option linter.unusedVariables false

/-- Stripes, cut to what may be. -/
def cutS (n : Int) : Int := if n < 1 then 1 else if 64 < n then 64 else n
theorem cutS_bd (n : Int) : 1 ≤ cutS n ∧ cutS n ≤ 64 := by unfold cutS; split; omega; split <;> omega
def strI (l : List UInt8) (a b n : Int) : Int := keyI l a b % cutS n
theorem strI_bd (l : List UInt8) (a b n : Int) : 0 ≤ strI l a b n ∧ strI l a b n < cutS n := by
  have := cutS_bd n
  unfold strI
  exact ⟨Int.emod_nonneg _ (by omega), Int.emod_lt_of_pos _ (by omega)⟩

set_option maxHeartbeats 400000 in
theorem stripe_key (s : ByteArray) (a b n : Int) (w : World) (hs : s.size ≤ maxLen) :
    Calls Tryd.prog 85 #[.agg #[.string s, .int .i64 a, .int .i64 b], .int .i64 n] w fun e w' => e = .returned (.int .i64 (strI s.data.toList a b n)) ∧ Below w.heap.size w w' := by
  have HM : Hid (s.size ≤ maxLen) := Lib.hid hs
  have hk := keyI_bd s.data.toList a b
  unfold strI
  obtain ⟨y, hy⟩ : ∃ y, keyI s.data.toList a b = y := ⟨_, rfl⟩
  rw [hy] at hk ⊢
  have HY := Lib.hid hy
  clear hy hs
  obtain ⟨c, hc⟩ : ∃ c, cutS n = c := ⟨_, rfl⟩
  rw [hc]
  unfold cutS at hc
  split at hc
  · subst hc
    go_enter Tryd.func85, Tryd.ntmps85
    go_wp2_with (go_at_call 95; refine (of_key _ _ _ _ HM.out).mono ?_; rw [HY.out]; rintro e w' ⟨rfl, hb⟩)
    go_ret
    exact ⟨ret_i64 (by omega), below_next ((Below.refl _ _).alloc (Nat.le_refl _) _) hb (Nat.le_refl _)⟩
  · split at hc
    · subst hc
      go_enter Tryd.func85, Tryd.ntmps85
      go_wp2_with (go_at_call 95; refine (of_key _ _ _ _ HM.out).mono ?_; rw [HY.out]; rintro e w' ⟨rfl, hb⟩)
      go_ret
      exact ⟨ret_i64 (by omega), below_next ((Below.refl _ _).alloc (Nat.le_refl _) _) hb (Nat.le_refl _)⟩
    · subst hc
      have h1 : 0 ≤ y % n := Int.emod_nonneg _ (by omega)
      have h2 : y % n < n := Int.emod_lt_of_pos _ (by omega)
      go_enter Tryd.func85, Tryd.ntmps85
      go_wp2_with (go_at_call 95; refine (of_key _ _ _ _ HM.out).mono ?_; rw [HY.out]; rintro e w' ⟨rfl, hb⟩)
      all_goals
        go_ret
        exact ⟨(by first | rfl | exact ret_i64 (by unfold wrap64; omega) | exact ret_i64 (by have e1 : n = 1 := (by omega); subst e1; unfold wrap64; omega)), below_next ((Below.refl _ _).alloc (Nat.le_refl _) _) hb (Nat.le_refl _)⟩

set_option maxHeartbeats 400000 in
theorem rstripe_key (s : ByteArray) (a b n : Int) (w : World) (hs : s.size ≤ 1000) :
    Calls Tryd.prog 50 #[.agg #[.string s, .int .i64 a, .int .i64 b], .int .i64 n] w fun e w' => e = .returned (.int .i64 (strI s.data.toList a b n)) ∧ Below w.heap.size w w' := by
  have HM : Hid (s.size ≤ 1000) := Lib.hid hs
  have hk := keyI_bd s.data.toList a b
  unfold strI
  obtain ⟨y, hy⟩ : ∃ y, keyI s.data.toList a b = y := ⟨_, rfl⟩
  rw [hy] at hk ⊢
  have HY := Lib.hid hy
  clear hy hs
  obtain ⟨c, hc⟩ : ∃ c, cutS n = c := ⟨_, rfl⟩
  rw [hc]
  unfold cutS at hc
  split at hc
  · subst hc
    go_enter Tryd.func50, Tryd.ntmps50
    go_wp2_with (go_at_call 71; refine (rof_key _ _ _ _ HM.out).mono ?_; rw [HY.out]; rintro e w' ⟨rfl, hb⟩)
    go_ret
    exact ⟨ret_i64 (by omega), below_next ((Below.refl _ _).alloc (Nat.le_refl _) _) hb (Nat.le_refl _)⟩
  · split at hc
    · subst hc
      go_enter Tryd.func50, Tryd.ntmps50
      go_wp2_with (go_at_call 71; refine (rof_key _ _ _ _ HM.out).mono ?_; rw [HY.out]; rintro e w' ⟨rfl, hb⟩)
      go_ret
      exact ⟨ret_i64 (by omega), below_next ((Below.refl _ _).alloc (Nat.le_refl _) _) hb (Nat.le_refl _)⟩
    · subst hc
      have h1 : 0 ≤ y % n := Int.emod_nonneg _ (by omega)
      have h2 : y % n < n := Int.emod_lt_of_pos _ (by omega)
      go_enter Tryd.func50, Tryd.ntmps50
      go_wp2_with (go_at_call 71; refine (rof_key _ _ _ _ HM.out).mono ?_; rw [HY.out]; rintro e w' ⟨rfl, hb⟩)
      all_goals
        go_ret
        exact ⟨(by first | rfl | exact ret_i64 (by unfold wrap64; omega) | exact ret_i64 (by have e1 : n = 1 := (by omega); subst e1; unfold wrap64; omega)), below_next ((Below.refl _ _).alloc (Nat.le_refl _) _) hb (Nat.le_refl _)⟩

theorem key_a : strI [97] 0 0 0 = 0 := by decide +kernel

end Go.Proofs.YthhcchdjeeigpaaDoor
