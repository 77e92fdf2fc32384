/- Contracts of same and awake; the walk of the law DrawLists: it returns true and changes nothing that was there. -/
import Derived.Test.YtnipmnfpccpaoaaDrawb
namespace Go.Proofs.Ytnipmnfpccpaoaa
open Go.RowKit

theorem same_any (a b : Option Addr) (la lb ca cb : Nat) (xs ys : List Int) (p q : Int) (w : World) {l1 l2 h1 h2 : Nat} (hx : Row l1 h1 w a la xs) (hy : Row l2 h2 w b lb ys) (hh1 : h1 ≤ w.heap.size) (hh2 : h2 ≤ w.heap.size) (hm : la ≤ 9223372036854775807) :
    Calls Try.prog 14 #[.agg #[.slice a la ca, .int .i64 p], .agg #[.slice b lb cb, .int .i64 q]] w fun e w' => e = .returned (.bool (decide (p = q ∧ xs = ys))) ∧ Below w.heap.size w w' := by
  by_cases h : p = q
  · subst h
    go_enter Try.func14, Try.ntmps14
    go_wp2_with (go_at_call 15; refine (ints_any _ _ _ _ _ _ xs ys _ ((hx.alloc hh1 _).alloc (by simp; omega) _) ((hy.alloc hh2 _).alloc (by simp; omega) _) hm).mono ?_; rintro e w' ⟨rfl, n, rfl⟩)
    go_ret
    refine ⟨by simp, ?_⟩
    exact below_drewN (((Below.refl _ _).alloc (Nat.le_refl _) _).alloc (by simp) _) _
  · have h' : (p == q) = false := by simpa using h
    go_enter Try.func14, Try.ntmps14
    go_wp2
    go_ret
    refine ⟨by simp [h], ?_⟩
    go_grown

theorem awake_any (w : World) : Calls Try.prog 7 #[] w fun e w' => e = .returned (.bool true) ∧ Below w.heap.size w w' := by
  have hr : Row w.heap.size (w.heap.size + 1) (w.alloc (.cells #[.int .i64 5] 3)) (some ⟨w.heap.size, 0, none⟩) 1 [5] := by
    refine ⟨rfl, .inr ⟨w.heap.size, 0, rfl, Nat.le_refl _, by omega, fun i hi => ?_⟩⟩
    obtain rfl : i = 0 := by omega
    simp
  go_enter Try.func7, Try.ntmps7
  go_wp2_with (go_at_call 8; refine (Next_any _ _ _ [5] _ _ hr (by simp) (by omega)).mono ?_; rintro e w' ⟨a', c', rfl, hr', hb⟩)
  go_ret
  refine ⟨by rfl, ?_⟩
  exact (((Below.refl _ _).alloc (Nat.le_refl _) _).trans (hb.mono (by simp))).alloc (by have := hb.size; simp at this; omega) _

theorem lists_any (a : Option Addr) (la ca : Nat) (xs : List Int) (p : Int) (w : World) (hx : Row 0 w.heap.size w a la xs) :
    Calls Try.prog 6 #[.slice a la ca, .int .i64 p] w fun e w' => e = .returned (.bool true) ∧ Below w.heap.size w w' := by
  by_cases h : 100 < la
  · go_enter Try.func6, Try.ntmps6
    go_wp2_with (go_at_call 7; refine (awake_any _).mono ?_; rintro e w' ⟨rfl, hb⟩)
    go_ret
    exact ⟨rfl, hb⟩
  · by_cases hp : p < 0 ∨ 2147483648 < p
    · have e1 : nextN xs p = 0 := by simp [nextN, hp]
      have e2 : nextAt p = p := by simp [nextAt, hp]
      rcases Int.lt_or_le p 0 with hq | hq
      · clear hp
        go_enter Try.func6, Try.ntmps6
        go_wp2_with (first
          | (go_at_call 8; refine (Next_any _ _ _ xs _ _ hx (by simp) (by omega)).mono ?_; rintro e w' ⟨a', c', rfl, hr', hb⟩)
          | (go_at_call 14; refine (same_any _ _ _ _ _ _ xs xs _ _ _ (hr'.alloc (Nat.le_refl _) _) ((hx.below hb (by omega)).alloc hb.size _) (by simp) (by have := hb.size; simp; omega) (by omega)).mono ?_; rintro e w2 ⟨rfl, hb2⟩)
          | (go_at_call 12; refine (mix_any _ _).mono ?_; rintro e w4 ⟨rfl, rfl⟩)
          | (go_at_call 7; refine (awake_any _).mono ?_; rintro e w3 ⟨rfl, hb3⟩))
        go_ret
        have s1 := hb.size
        refine ⟨rfl, ?_⟩
        have s2 := hb2.size
        simp at s2
        exact ((hb.alloc hb.size _).trans (hb2.mono (by simp; omega))).trans (hb3.mono (by omega))
      · have hp' : 2147483648 < p := by omega
        clear hp
        go_enter Try.func6, Try.ntmps6
        go_wp2_with (first
          | (go_at_call 8; refine (Next_any _ _ _ xs _ _ hx (by simp) (by omega)).mono ?_; rintro e w' ⟨a', c', rfl, hr', hb⟩)
          | (go_at_call 14; refine (same_any _ _ _ _ _ _ xs xs _ _ _ (hr'.alloc (Nat.le_refl _) _) ((hx.below hb (by omega)).alloc hb.size _) (by simp) (by have := hb.size; simp; omega) (by omega)).mono ?_; rintro e w2 ⟨rfl, hb2⟩)
          | (go_at_call 12; refine (mix_any _ _).mono ?_; rintro e w4 ⟨rfl, rfl⟩)
          | (go_at_call 7; refine (awake_any _).mono ?_; rintro e w3 ⟨rfl, hb3⟩))
        go_ret
        have s1 := hb.size
        refine ⟨rfl, ?_⟩
        have s2 := hb2.size
        simp at s2
        exact ((hb.alloc hb.size _).trans (hb2.mono (by simp; omega))).trans (hb3.mono (by omega))
    · obtain ⟨k, rfl⟩ : ∃ k : Nat, p = k := ⟨p.toNat, by omega⟩
      have e2 : nextAt k = k + 1 := by simp [nextAt]; omega
      by_cases hk : k < la
      · have hl := hx.1
        obtain ⟨b, off, rfl, _, hbb, hc⟩ : ∃ b off, a = some ⟨b, off, none⟩ ∧ 0 ≤ b ∧ b < w.heap.size ∧ ∀ i, i < la → w.cell? ⟨b, off + i, none⟩ = some (.int .i64 (xs.getD i 0)) := by
          rcases hx.2 with h | h
          · omega
          · exact h
        have hck := hc k hk
        obtain ⟨x, hxk⟩ : ∃ x, xs.getD k 0 = x := ⟨_, rfl⟩
        have e1 : nextN xs k = bits .and .i64 x 2147483647 := by rw [mask31_i64, ← hxk]; simp [nextN, drawI, hl, hk]; omega
        rw [hxk] at hck
        clear hc hxk hl
        go_enter Try.func6, Try.ntmps6
        go_wp2_with (first
          | (go_at_call 8; refine (Next_any _ _ _ xs _ _ hx (by simp) (by omega)).mono ?_; rintro e w' ⟨a', c', rfl, hr', hb⟩; have hc' : w'.cell? ⟨b, off + k, none⟩ = some (.int .i64 x) := cell_later hb hck; have hbs : b < w'.heap.size := by have := hb.size; omega)
          | (go_at_call 7; refine (awake_any _).mono ?_; rintro e w3 ⟨rfl, hb3⟩))
        go_ret
        have s1 := hb.size
        exact ⟨rfl, (hb.alloc hb.size _).trans (hb3.mono (by simp; omega))⟩
      · have hl := hx.1
        have e1 : nextN xs k = mixI k := by simp [nextN, drawI, hl, hk]; omega
        have hr := mixI_range k
        have hr1 : 0 ≤ mixI k := hr.1
        have hr2 : mixI k ≤ 2147483647 := hr.2
        clear hl hr
        go_enter Try.func6, Try.ntmps6
        go_wp2_with (first
          | (go_at_call 8; refine (Next_any _ _ _ xs _ _ hx (by simp) (by omega)).mono ?_; rintro e w' ⟨a', c', rfl, hr', hb⟩)
          | (go_at_call 14; refine (same_any _ _ _ _ _ _ xs xs _ _ _ (hr'.alloc (Nat.le_refl _) _) ((hx.below hb (by omega)).alloc hb.size _) (by simp) (by have := hb.size; simp; omega) (by omega)).mono ?_; rintro e w2 ⟨rfl, hb2⟩)
          | (go_at_call 12; refine (mix_any _ _).mono ?_; rintro e w4 ⟨rfl, rfl⟩)
          | (go_at_call 7; refine (awake_any _).mono ?_; rintro e w3 ⟨rfl, hb3⟩))
        go_ret
        have s1 := hb.size
        refine ⟨rfl, ?_⟩
        exact (hb.alloc hb.size _).trans (hb3.mono (by simp; omega))

end Go.Proofs.Ytnipmnfpccpaoaa
