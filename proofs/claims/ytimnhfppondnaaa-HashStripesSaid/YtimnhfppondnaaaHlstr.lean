/- The walk of the law HashStripes: it returns true and changes nothing that was there. -/
import Derived.Test.YtimnhfppondnaaaHlall
namespace Go.Proofs.Ytimnhfppondnaaa
open Go.RowKit
set_option linter.unusedVariables false

theorem cutS_cut (n : Int) : cutS (cutS n) = cutS n := by unfold cutS; split <;> (try split) <;> simp_all <;> omega
theorem strI_cut (l : List UInt8) (a b n : Int) : strI l a b (cutS n) = strI l a b n := by unfold strI; rw [cutS_cut]
theorem strI_one (l : List UInt8) (a b : Int) : strI l a b 1 = 0 := by unfold strI; rw [show cutS 1 = 1 from rfl]; omega

theorem lift {P : Program} {K : FuncId} {args : Array Value} {w1 : World} {v : Value} (h : ∀ w', Below w1.heap.size w1 w' → Calls P K args w' fun e w'' => e = .returned v ∧ Below w'.heap.size w' w'') :
    ∀ w', Below w1.heap.size w1 w' → Calls P K args w' fun e w'' => e = .returned v ∧ Below w1.heap.size w1 w'' := fun w' k => (h w' k).mono fun _ _ ⟨h1, h2⟩ => ⟨h1, below_next k h2 (Nat.le_refl _)⟩
def Fct (t : ByteArray) (a b n c y z : Int) : Prop := keyI t.data.toList a b = y ∧ strI t.data.toList a b n = z ∧ strI t.data.toList a b c = z ∧ t.size ≤ maxLen ∧
  y.tmod c = z ∧ IntKind.i64.wrap y = y ∧ decide (0 ≤ z) = true ∧ decide (z < c) = true
theorem fct_of (t : ByteArray) (a b n c : Int) (ht' : t.size ≤ maxLen) (hc : cutS n = c) : ∃ y z, Fct t a b n c y z := by
  refine ⟨_, _, rfl, rfl, ?_⟩
  subst hc
  have hyb := keyI_bd t.data.toList a b
  have hzb := strI_bd t.data.toList a b n
  refine ⟨strI_cut _ _ _ _, ht', ?_, ?_, by simpa using hzb.1, by simpa using hzb.2⟩
  · rw [Int.tmod_eq_emod_of_nonneg hyb.1]; rfl
  · rw [IntKind.wrap_i64]; omega

set_option maxRecDepth 100000 in
set_option maxHeartbeats 1000000 in
theorem stripes_low (t : ByteArray) (a b n : Int) (w : World) (h2 : ¬ 400 < t.size) (hn : n < 1) :
    Calls Try.prog 5 #[.agg #[.string t, .int .i64 a, .int .i64 b], .int .i64 n] w fun e w' => e = .returned (.bool true) ∧ Below w.heap.size w w' := by
  have k0 : Below w.heap.size w (w.alloc (.cells #[.string t, .int .i64 a, .int .i64 b] 23)) := by go_grown
  have b0 := Box.new w 23 [.string t, .int .i64 a, .int .i64 b]
  obtain ⟨y, z, hF⟩ := fct_of t a b n 1 (by unfold maxLen; omega) (by unfold cutS; rw [if_pos hn])
  obtain rfl : z = 0 := by have := hF.2.2.2.2.2.2.1; have h3 := hF.2.2.2.2.2.2.2; simp at this h3; omega
  have ⟨_, _, _, _, e1, e2, e3, e4⟩ := hF
  have HF := Lib.hid hF
  have o1 := strI_one t.data.toList a b
  have O1 := Lib.hid o1
  clear hF o1
  go_enter Try.func5, Try.ntmps5
  go_wp2_with fail
  refine (stripe_key _ _ _ _ _ HF.out.2.2.2.1).mono ?_
  rw [HF.out.2.1]
  rintro e w1 ⟨rfl, hb1⟩
  have k1 := below_next k0 hb1 (Nat.le_refl _)
  have b1 := b0.below hb1
  have s1 := hb1.size
  rw [World.size_alloc] at s1
  have s01 : w.heap.size < w1.heap.size := by omega
  obtain ⟨_, _, _, _, _, _⟩ := b1.three
  have H3 := Lib.hid (lift (key_below t a b w1 HF.out.2.2.2.1 y HF.out.1))
  have H5 := Lib.hid (lift (str_below t a b 1 w1 HF.out.2.2.2.1 _ HF.out.2.2.1))
  have H6 := Lib.hid (lift (str_below t a b 1 w1 HF.out.2.2.2.1 0 O1.out))
  have H7 := Lib.hid (lift (awk_below w1))
  have HD := Lib.hid k1
  have HB := Below.refl w1.heap.size w1
  have BB := Lib.hid b1
  clear k0 b0 k1 b1 hb1 s1
  go_wp2_with (first
    | (go_at_call 10; (with_reducible refine (H3.out _ HB).mono ?_); clear HB; rintro e wz ⟨rfl, HB⟩; obtain ⟨_, _, _, _, _, _⟩ := (BB.out.below HB).three; have sz := Nat.lt_of_lt_of_le s01 HB.size)
    | (go_at_call 12; (with_reducible refine (H6.out _ HB).mono ?_); clear HB; rintro e wz ⟨rfl, HB⟩; obtain ⟨_, _, _, _, _, _⟩ := (BB.out.below HB).three; have sz := Nat.lt_of_lt_of_le s01 HB.size)
    | (go_at_call 12; (with_reducible refine (H5.out _ HB).mono ?_); clear HB; rintro e wz ⟨rfl, HB⟩; obtain ⟨_, _, _, _, _, _⟩ := (BB.out.below HB).three; have sz := Nat.lt_of_lt_of_le s01 HB.size)
    | (go_at_call 7; (with_reducible refine (H7.out _ HB).mono ?_); clear HB; rintro e wz ⟨rfl, HB⟩))
  go_ret
  exact ⟨rfl, HD.out.trans (HB.mono (by omega))⟩

set_option maxRecDepth 100000 in
set_option maxHeartbeats 1000000 in
theorem stripes_mid (t : ByteArray) (a b n : Int) (w : World) (h2 : ¬ 400 < t.size) (hn : 1 < n) (hn2 : n ≤ 64) :
    Calls Try.prog 5 #[.agg #[.string t, .int .i64 a, .int .i64 b], .int .i64 n] w fun e w' => e = .returned (.bool true) ∧ Below w.heap.size w w' := by
  have k0 : Below w.heap.size w (w.alloc (.cells #[.string t, .int .i64 a, .int .i64 b] 23)) := by go_grown
  have b0 := Box.new w 23 [.string t, .int .i64 a, .int .i64 b]
  obtain ⟨y, z, hF⟩ := fct_of t a b n n (by unfold maxLen; omega) (by unfold cutS; rw [if_neg (by omega), if_neg (by omega)])
  have ⟨_, _, _, _, e1, e2, e3, e4⟩ := hF
  have HF := Lib.hid hF
  have o1 := strI_one t.data.toList a b
  have O1 := Lib.hid o1
  clear hF o1
  go_enter Try.func5, Try.ntmps5
  go_wp2_with fail
  refine (stripe_key _ _ _ _ _ HF.out.2.2.2.1).mono ?_
  rw [HF.out.2.1]
  rintro e w1 ⟨rfl, hb1⟩
  have k1 := below_next k0 hb1 (Nat.le_refl _)
  have b1 := b0.below hb1
  have s1 := hb1.size
  rw [World.size_alloc] at s1
  have s01 : w.heap.size < w1.heap.size := by omega
  obtain ⟨_, _, _, _, _, _⟩ := b1.three
  have H3 := Lib.hid (lift (key_below t a b w1 HF.out.2.2.2.1 y HF.out.1))
  have H5 := Lib.hid (lift (str_below t a b n w1 HF.out.2.2.2.1 _ HF.out.2.2.1))
  have H6 := Lib.hid (lift (str_below t a b 1 w1 HF.out.2.2.2.1 0 O1.out))
  have H7 := Lib.hid (lift (awk_below w1))
  have HD := Lib.hid k1
  have HB := Below.refl w1.heap.size w1
  have BB := Lib.hid b1
  clear k0 b0 k1 b1 hb1 s1
  go_wp2_with (first
    | (go_at_call 10; (with_reducible refine (H3.out _ HB).mono ?_); clear HB; rintro e wz ⟨rfl, HB⟩; obtain ⟨_, _, _, _, _, _⟩ := (BB.out.below HB).three; have sz := Nat.lt_of_lt_of_le s01 HB.size)
    | (go_at_call 12; (with_reducible refine (H6.out _ HB).mono ?_); clear HB; rintro e wz ⟨rfl, HB⟩; obtain ⟨_, _, _, _, _, _⟩ := (BB.out.below HB).three; have sz := Nat.lt_of_lt_of_le s01 HB.size)
    | (go_at_call 12; (with_reducible refine (H5.out _ HB).mono ?_); clear HB; rintro e wz ⟨rfl, HB⟩; obtain ⟨_, _, _, _, _, _⟩ := (BB.out.below HB).three; have sz := Nat.lt_of_lt_of_le s01 HB.size)
    | (go_at_call 7; (with_reducible refine (H7.out _ HB).mono ?_); clear HB; rintro e wz ⟨rfl, HB⟩))
  go_ret
  exact ⟨rfl, HD.out.trans (HB.mono (by omega))⟩

set_option maxRecDepth 100000 in
set_option maxHeartbeats 1000000 in
theorem stripes_high (t : ByteArray) (a b n : Int) (w : World) (h2 : ¬ 400 < t.size) (hn : 64 < n) :
    Calls Try.prog 5 #[.agg #[.string t, .int .i64 a, .int .i64 b], .int .i64 n] w fun e w' => e = .returned (.bool true) ∧ Below w.heap.size w w' := by
  have k0 : Below w.heap.size w (w.alloc (.cells #[.string t, .int .i64 a, .int .i64 b] 23)) := by go_grown
  have b0 := Box.new w 23 [.string t, .int .i64 a, .int .i64 b]
  obtain ⟨y, z, hF⟩ := fct_of t a b n 64 (by unfold maxLen; omega) (by unfold cutS; rw [if_neg (by omega), if_pos hn])
  have ⟨_, _, _, _, e1, e2, e3, e4⟩ := hF
  have HF := Lib.hid hF
  have o1 := strI_one t.data.toList a b
  have O1 := Lib.hid o1
  clear hF o1
  go_enter Try.func5, Try.ntmps5
  go_wp2_with fail
  refine (stripe_key _ _ _ _ _ HF.out.2.2.2.1).mono ?_
  rw [HF.out.2.1]
  rintro e w1 ⟨rfl, hb1⟩
  have k1 := below_next k0 hb1 (Nat.le_refl _)
  have b1 := b0.below hb1
  have s1 := hb1.size
  rw [World.size_alloc] at s1
  have s01 : w.heap.size < w1.heap.size := by omega
  obtain ⟨_, _, _, _, _, _⟩ := b1.three
  have H3 := Lib.hid (lift (key_below t a b w1 HF.out.2.2.2.1 y HF.out.1))
  have H5 := Lib.hid (lift (str_below t a b 64 w1 HF.out.2.2.2.1 _ HF.out.2.2.1))
  have H6 := Lib.hid (lift (str_below t a b 1 w1 HF.out.2.2.2.1 0 O1.out))
  have H7 := Lib.hid (lift (awk_below w1))
  have HD := Lib.hid k1
  have HB := Below.refl w1.heap.size w1
  have BB := Lib.hid b1
  clear k0 b0 k1 b1 hb1 s1
  go_wp2_with (first
    | (go_at_call 10; (with_reducible refine (H3.out _ HB).mono ?_); clear HB; rintro e wz ⟨rfl, HB⟩; obtain ⟨_, _, _, _, _, _⟩ := (BB.out.below HB).three; have sz := Nat.lt_of_lt_of_le s01 HB.size)
    | (go_at_call 12; (with_reducible refine (H6.out _ HB).mono ?_); clear HB; rintro e wz ⟨rfl, HB⟩; obtain ⟨_, _, _, _, _, _⟩ := (BB.out.below HB).three; have sz := Nat.lt_of_lt_of_le s01 HB.size)
    | (go_at_call 12; (with_reducible refine (H5.out _ HB).mono ?_); clear HB; rintro e wz ⟨rfl, HB⟩; obtain ⟨_, _, _, _, _, _⟩ := (BB.out.below HB).three; have sz := Nat.lt_of_lt_of_le s01 HB.size)
    | (go_at_call 7; (with_reducible refine (H7.out _ HB).mono ?_); clear HB; rintro e wz ⟨rfl, HB⟩))
  go_ret
  exact ⟨rfl, HD.out.trans (HB.mono (by omega))⟩

set_option maxRecDepth 100000 in
set_option maxHeartbeats 1000000 in
theorem stripes_one (t : ByteArray) (a b : Int) (w : World) (h2 : ¬ 400 < t.size)  :
    Calls Try.prog 5 #[.agg #[.string t, .int .i64 a, .int .i64 b], .int .i64 1] w fun e w' => e = .returned (.bool true) ∧ Below w.heap.size w w' := by
  have k0 : Below w.heap.size w (w.alloc (.cells #[.string t, .int .i64 a, .int .i64 b] 23)) := by go_grown
  have b0 := Box.new w 23 [.string t, .int .i64 a, .int .i64 b]
  obtain ⟨y, z, hF⟩ := fct_of t a b 1 1 (by unfold maxLen; omega) (by rfl)
  obtain rfl : z = 0 := by have := hF.2.2.2.2.2.2.1; have h3 := hF.2.2.2.2.2.2.2; simp at this h3; omega
  have ⟨_, _, _, _, e1, e2, e3, e4⟩ := hF
  have HF := Lib.hid hF
  have o1 := strI_one t.data.toList a b
  have O1 := Lib.hid o1
  clear hF o1
  go_enter Try.func5, Try.ntmps5
  go_wp2_with fail
  refine (stripe_key _ _ _ _ _ HF.out.2.2.2.1).mono ?_
  rw [HF.out.2.1]
  rintro e w1 ⟨rfl, hb1⟩
  have k1 := below_next k0 hb1 (Nat.le_refl _)
  have b1 := b0.below hb1
  have s1 := hb1.size
  rw [World.size_alloc] at s1
  have s01 : w.heap.size < w1.heap.size := by omega
  obtain ⟨_, _, _, _, _, _⟩ := b1.three
  have H3 := Lib.hid (lift (key_below t a b w1 HF.out.2.2.2.1 y HF.out.1))
  have H5 := Lib.hid (lift (str_below t a b 1 w1 HF.out.2.2.2.1 _ HF.out.2.2.1))
  have H6 := Lib.hid (lift (str_below t a b 1 w1 HF.out.2.2.2.1 0 O1.out))
  have H7 := Lib.hid (lift (awk_below w1))
  have HD := Lib.hid k1
  have HB := Below.refl w1.heap.size w1
  have BB := Lib.hid b1
  clear k0 b0 k1 b1 hb1 s1
  go_wp2_with (first
    | (go_at_call 10; (with_reducible refine (H3.out _ HB).mono ?_); clear HB; rintro e wz ⟨rfl, HB⟩; obtain ⟨_, _, _, _, _, _⟩ := (BB.out.below HB).three; have sz := Nat.lt_of_lt_of_le s01 HB.size)
    | (go_at_call 12; (with_reducible refine (H6.out _ HB).mono ?_); clear HB; rintro e wz ⟨rfl, HB⟩; obtain ⟨_, _, _, _, _, _⟩ := (BB.out.below HB).three; have sz := Nat.lt_of_lt_of_le s01 HB.size)
    | (go_at_call 12; (with_reducible refine (H5.out _ HB).mono ?_); clear HB; rintro e wz ⟨rfl, HB⟩; obtain ⟨_, _, _, _, _, _⟩ := (BB.out.below HB).three; have sz := Nat.lt_of_lt_of_le s01 HB.size)
    | (go_at_call 7; (with_reducible refine (H7.out _ HB).mono ?_); clear HB; rintro e wz ⟨rfl, HB⟩))
  go_ret
  exact ⟨rfl, HD.out.trans (HB.mono (by omega))⟩

set_option maxHeartbeats 1000000 in
theorem stripes_law (t : ByteArray) (a b n : Int) (w : World) (ht : t.size ≤ 9223372036854775807) :
    Calls Try.prog 5 #[.agg #[.string t, .int .i64 a, .int .i64 b], .int .i64 n] w fun e w' => e = .returned (.bool true) ∧ Below w.heap.size w w' := by
  have k0 : Below w.heap.size w (w.alloc (.cells #[.string t, .int .i64 a, .int .i64 b] 23)) := by go_grown
  by_cases h2 : 400 < t.size
  · go_enter Try.func5, Try.ntmps5
    go_wp2_with (go_at_call 7; refine (awake_any _).mono ?_; rintro e w' ⟨rfl, hb⟩)
    go_ret
    exact ⟨rfl, below_next k0 hb (Nat.le_refl _)⟩
  · clear k0
    by_cases h3 : n < 1
    · exact stripes_low t a b n w h2 h3
    · by_cases h4 : n = 1
      · subst h4; exact stripes_one t a b w h2
      · by_cases h5 : 64 < n
        · exact stripes_high t a b n w h2 h5
        · exact stripes_mid t a b n w h2 (by omega) (by omega)

end Go.Proofs.Ytimnhfppondnaaa
