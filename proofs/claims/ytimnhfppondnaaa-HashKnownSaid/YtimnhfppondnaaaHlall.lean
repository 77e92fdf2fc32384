/- The walks of the laws HashAll, HashStripes: they return true and change nothing that was there. -/
import Derived.Test.YtimnhfppondnaaaHstr
import Derived.Deep.RegionWith
import Derived.Deep.RegionHeld3
namespace Go.Proofs.Ytimnhfppondnaaa
open Go.RowKit
set_option linter.unusedVariables false

theorem key_below (s : ByteArray) (a b : Int) (B : World) (hs : s.size ≤ maxLen) (y : Int) (hy : keyI s.data.toList a b = y) : ∀ w', Below B.heap.size B w' → Calls Try.prog 10 #[.agg #[.string s, .int .i64 a, .int .i64 b]] w' fun e w'' => e = .returned (.int .u32 y) ∧ Below w'.heap.size w' w'' := fun w' _ => by
  subst hy; exact of_key s a b w' hs
theorem rkey_below (s : ByteArray) (a b : Int) (B : World) (hs : s.size ≤ 1000) (y : Int) (hy : keyI s.data.toList a b = y) : ∀ w', Below B.heap.size B w' → Calls Try.prog 11 #[.agg #[.string s, .int .i64 a, .int .i64 b]] w' fun e w'' => e = .returned (.int .u32 y) ∧ Below w'.heap.size w' w'' := fun w' _ => by
  subst hy; exact rof_key s a b w' hs
theorem str_below (s : ByteArray) (a b n : Int) (B : World) (hs : s.size ≤ maxLen) (y : Int) (hy : strI s.data.toList a b n = y) : ∀ w', Below B.heap.size B w' → Calls Try.prog 12 #[.agg #[.string s, .int .i64 a, .int .i64 b], .int .i64 n] w' fun e w'' => e = .returned (.int .i64 y) ∧ Below w'.heap.size w' w'' := fun w' _ => by
  subst hy; exact stripe_key s a b n w' hs
theorem rstr_below (s : ByteArray) (a b n : Int) (B : World) (hs : s.size ≤ 1000) (y : Int) (hy : strI s.data.toList a b n = y) : ∀ w', Below B.heap.size B w' → Calls Try.prog 13 #[.agg #[.string s, .int .i64 a, .int .i64 b], .int .i64 n] w' fun e w'' => e = .returned (.int .i64 y) ∧ Below w'.heap.size w' w'' := fun w' _ => by
  subst hy; exact rstripe_key s a b n w' hs
theorem sum_below (s : ByteArray) (B : World) (hs : s.size ≤ maxLen) (y : Int) (hy : sumI s.data.toList = y) : ∀ w', Below B.heap.size B w' → Calls Try.prog 8 #[.string s] w' fun e w'' => e = .returned (.int .u32 y) ∧ Below w'.heap.size w' w'' := fun w' _ => by
  subst hy; exact (sum_any s w' hs).mono fun _ _ ⟨h1, h2⟩ => ⟨h1, by subst h2; exact Below.refl _ _⟩
theorem rsum_below (s : ByteArray) (B : World) (hs : s.size ≤ maxLen) (y : Int) (hy : sumI s.data.toList = y) : ∀ w', Below B.heap.size B w' → Calls Try.prog 9 #[.string s] w' fun e w'' => e = .returned (.int .u32 y) ∧ Below w'.heap.size w' w'' := fun w' _ => by
  subst hy; exact (rsum_any s w' hs).mono fun _ _ ⟨h1, h2⟩ => ⟨h1, by subst h2; exact Below.refl _ _⟩
theorem awk_below (B : World) : ∀ w', Below B.heap.size B w' → Calls Try.prog 7 #[] w' fun e w'' => e = .returned (.bool true) ∧ Below w'.heap.size w' w'' := fun w' _ => awake_any w'

set_option maxRecDepth 100000 in
set_option maxHeartbeats 1000000 in
theorem all_law (s t : ByteArray) (a b n : Int) (w : World) (hs : s.size ≤ 9223372036854775807) (ht : t.size ≤ 9223372036854775807) :
    Calls Try.prog 3 #[.string s, .agg #[.string t, .int .i64 a, .int .i64 b], .int .i64 n] w fun e w' => e = .returned (.bool true) ∧ Below w.heap.size w w' := by
  have k0 : Below w.heap.size w (w.alloc (.cells #[.string t, .int .i64 a, .int .i64 b] 23)) := by go_grown
  by_cases h1 : 400 < s.size
  · go_enter Try.func3, Try.ntmps3
    go_wp2_with (go_at_call 7; refine (awake_any _).mono ?_; rintro e w' ⟨rfl, hb⟩)
    go_ret
    exact ⟨rfl, below_next k0 hb (Nat.le_refl _)⟩
  · by_cases h2 : 400 < t.size
    · go_enter Try.func3, Try.ntmps3
      go_wp2_with (go_at_call 7; refine (awake_any _).mono ?_; rintro e w' ⟨rfl, hb⟩)
      go_ret
      exact ⟨rfl, below_next k0 hb (Nat.le_refl _)⟩
    · have b0 := Box.new w 23 [.string t, .int .i64 a, .int .i64 b]
      have hs' : s.size ≤ maxLen := by unfold maxLen; omega
      have ht' : t.size ≤ maxLen := by unfold maxLen; omega
      have ht2 : t.size ≤ 1000 := by omega
      obtain ⟨x, hx⟩ : ∃ x, sumI s.data.toList = x := ⟨_, rfl⟩
      obtain ⟨y, hy⟩ : ∃ y, keyI t.data.toList a b = y := ⟨_, rfl⟩
      obtain ⟨z, hz⟩ : ∃ z, strI t.data.toList a b n = z := ⟨_, rfl⟩
      go_enter Try.func3, Try.ntmps3
      have HE := Lib.hid (And.intro hx (And.intro hy hz))
      have HL := Lib.hid (And.intro hs' (And.intro ht' ht2))
      clear hx hy hz hs' ht' ht2
      go_wp2_with fail
      generalize hw1 : w.alloc (.cells #[.string t, .int .i64 a, .int .i64 b] 23) = w1 at *
      have K : ∀ w', Below w1.heap.size w1 w' → (Below w1.heap.size w1 w' ∧ w'.cell? ⟨w.heap.size, 0, none⟩ = some (.string t) ∧ w'.cell? ⟨w.heap.size, 1, none⟩ = some (.int .i64 a) ∧ w'.cell? ⟨w.heap.size, 2, none⟩ = some (.int .i64 b)) :=
        fun w' h => ⟨h, (b0.below h).cell 0, (b0.below h).cell 1, (b0.below h).cell 2⟩
      have HK := Lib.hid K
      have H1 := Lib.hid (sum_below s w1 HL.out.1 x HE.out.1)
      have H2 := Lib.hid (rsum_below s w1 HL.out.1 x HE.out.1)
      have H3 := Lib.hid (key_below t a b w1 HL.out.2.1 y HE.out.2.1)
      have H4 := Lib.hid (rkey_below t a b w1 HL.out.2.2 y HE.out.2.1)
      have H5 := Lib.hid (str_below t a b n w1 HL.out.2.1 z HE.out.2.2)
      have H6 := Lib.hid (rstr_below t a b n w1 HL.out.2.2 z HE.out.2.2)
      have H7 := Lib.hid (awk_below w1)
      have HD := Lib.hid k0
      have HW := Lib.hid hw1
      have hsz : w.heap.size ≤ w1.heap.size := k0.size
      clear K k0 b0 hw1
      go_region_held3 (fun w' => Below w1.heap.size w1 w' ∧ w'.cell? ⟨w.heap.size, 0, none⟩ = some (.string t) ∧ w'.cell? ⟨w.heap.size, 1, none⟩ = some (.int .i64 a) ∧ w'.cell? ⟨w.heap.size, 2, none⟩ = some (.int .i64 b))
        (first
          | exact HK.out _ (Below.refl _ _).drew
          | exact HK.out _ (below_next (And.left (by assumption)) hbz (Nat.le_refl _)))
        (first
          | (go_at_call 8; (with_reducible refine (H1.out _ ?_).mono ?_); exact And.left (by assumption); rintro e wz ⟨rfl, hbz⟩)
          | (go_at_call 9; (with_reducible refine (H2.out _ ?_).mono ?_); exact And.left (by assumption); rintro e wz ⟨rfl, hbz⟩)
          | (go_at_call 10; (with_reducible refine (H3.out _ ?_).mono ?_); exact And.left (by assumption); rintro e wz ⟨rfl, hbz⟩)
          | (go_at_call 11; (with_reducible refine (H4.out _ ?_).mono ?_); exact And.left (by assumption); rintro e wz ⟨rfl, hbz⟩)
          | (go_at_call 12; (with_reducible refine (H5.out _ ?_).mono ?_); exact And.left (by assumption); rintro e wz ⟨rfl, hbz⟩)
          | (go_at_call 13; (with_reducible refine (H6.out _ ?_).mono ?_); exact And.left (by assumption); rintro e wz ⟨rfl, hbz⟩)
          | (go_at_call 7; (with_reducible refine (H7.out _ ?_).mono ?_); exact And.left (by assumption); rintro e wz ⟨rfl, hbz⟩))
      go_wp2
      go_ret
      refine ⟨rfl, HD.out.trans (Below.mono (B := w1.heap.size) ?_ (by omega))⟩
      exact And.left (by assumption)

end Go.Proofs.Ytimnhfppondnaaa
