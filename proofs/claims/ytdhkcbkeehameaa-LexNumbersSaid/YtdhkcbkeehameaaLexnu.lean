/- The walk of the law LexNumbers: it returns true and changes nothing that was there. -/
import Derived.Test.YtdhkcbkeehameaaLexnd
import Derived.Test.YtdhkcbkeehameaaLexb
namespace Go.Proofs.Ytdhkcbkeehameaa
open Go.RowKit
set_option linter.unusedVariables false
set_option linter.unusedSimpArgs false

theorem nought_bad (k : Nat) : (1 < (48 :: digL k : By).length ∧ ((48 :: digL k : By).headD 0).toNat = 48) := by
  obtain ⟨_, _, i3, _⟩ := digL_all k k (Nat.le_refl _)
  cases hd : digL k with
  | nil => exact absurd hd i3
  | cons a b => exact ⟨by simp, rfl⟩
/-- The three texts that are no numbers. -/
def badT (k m : Nat) : By := if m = 0 then 48 :: digL k else if m = 1 then digL (2147483648 + k) else digL k ++ ninesL
theorem badT_lex (k m : Nat) : lexL (120 :: 32 :: badT k m) 0 = .bad 2 := by
  obtain ⟨i1, i2, i3, i4⟩ := digL_all k k (Nat.le_refl _)
  unfold badT
  by_cases h0 : m = 0
  · rw [if_pos h0]
    exact lex_xbad _ (by rw [List.all_cons, i1]; rfl) (by simp) (.inl (nought_bad k))
  · rw [if_neg h0]
    by_cases h1 : m = 1
    · rw [if_pos h1]
      obtain ⟨j1, j2, j3, j4⟩ := digL_all (2147483648 + k) (2147483648 + k) (Nat.le_refl _)
      exact lex_xbad _ j1 j3 (.inr (by rw [j2]; omega))
    · rw [if_neg h1]
      refine lex_xbad _ (by rw [List.all_append, i1]; rfl) (by simp [i3]) ?_
      by_cases hk : 1 ≤ k
      · exact .inr (nines_big k hk)
      · have : k = 0 := by omega
        subst this
        left
        rw [digL_small (by omega)]
        exact ⟨by decide, by decide⟩

set_option maxRecDepth 100000 in
set_option maxHeartbeats 400000 in
theorem numbers_law (n m : Nat) (w : World) (hn : n ≤ 4294967295) (hm : m ≤ 255) :
    Calls Try.prog 6 #[.int .u32 (n : Int), .int .u8 (m : Int)] w fun e w' => e = .returned (.bool true) ∧ Below w.heap.size w w' := by
  obtain ⟨k, hk⟩ : ∃ k, n % 2147483648 = k := ⟨_, rfl⟩
  have hk2 : k ≤ 2147483647 := by omega
  have e1 : (n : Int) % 2147483648 = (k : Int) := by omega
  have e2 : (n : Int).tmod 2147483648 = (k : Int) := by rw [Int.tmod_eq_emod_of_nonneg (by omega)]; exact e1
  obtain ⟨j, hj⟩ : ∃ j, m % 3 = j := ⟨_, rfl⟩
  have hj3 : j < 3 := by omega
  have e3 : (m : Int) % 3 = (j : Int) := by omega
  have e4 : (m : Int).tmod 3 = (j : Int) := by rw [Int.tmod_eq_emod_of_nonneg (by omega)]; exact e3
  obtain ⟨q, hq⟩ : ∃ q, 2147483648 + k = q := ⟨_, rfl⟩
  have e5 : 2147483648 + (k : Int) = (q : Int) := by omega
  have l1 := digL_len 10 k (by omega)
  have l2 := digL_len 10 q (by omega)
  have hlex1 : lexL (32 :: (digL k ++ [32])) 0 = .ok [⟨3, 1, [], k⟩] := lex_num k hk2
  have hlex2 := badT_lex k j
  have hT0 : badT k 0 = 48 :: digL k := rfl
  have hT1 : badT k 1 = digL q := by unfold badT; rw [if_neg (by decide), if_pos rfl, hq]
  have hT2 : badT k 2 = digL k ++ ninesL := rfl
  have hTl : (badT k j).length ≤ 30 := by
    rcases (by omega : j = 0 ∨ j = 1 ∨ j = 2) with h | h | h <;> subst h
    · rw [hT0, List.length_cons]; omega
    · rw [hT1]; omega
    · rw [hT2, List.length_append]; have : ninesL.length = 11 := rfl; omega
  obtain ⟨X, hX⟩ : ∃ X, digL k = X := ⟨_, rfl⟩
  obtain ⟨Y, hY⟩ : ∃ Y, digL q = Y := ⟨_, rfl⟩
  obtain ⟨Z, hZ⟩ : ∃ Z, badT k j = Z := ⟨_, rfl⟩
  have hq9 : q ≤ 4294967296 := by omega
  rw [hX] at l1 hlex1
  rw [hY] at l2
  rw [hZ] at hlex2 hTl
  have HX := Lib.hid hX
  have HY := Lib.hid hY
  have HLX1 := Lib.hid hlex1
  have HLX2 := Lib.hid hlex2
  have HZ := Lib.hid hZ
  have HT0 := Lib.hid hT0
  have HT1 := Lib.hid hT1
  have HT2 := Lib.hid hT2
  clear hk hj hq hX hY hZ hlex1 hlex2 hT0 hT1 hT2
  have T1 : ∀ W, Sem.run Try.prog (Op.stringOp .add ⟨#[32]⟩ (strB X)) W = .ok (.string (strB (32 :: X))) W := fun W => by
    have h := run_string_add_sum (P := Try.prog) W (strB [32]) (strB X) (by rw [strB_size, strB_size]; simp; omega)
    rw [strB_app] at h; exact h
  have T2 : ∀ W, Sem.run Try.prog (Op.stringOp .add (strB (32 :: X)) ⟨#[32]⟩) W = .ok (.string (strB (32 :: (X ++ [32])))) W := fun W => by
    have h := run_string_add_sum (P := Try.prog) W (strB (32 :: X)) (strB [32]) (by rw [strB_size, strB_size]; simp; omega)
    rw [strB_app] at h; exact h
  have T3 : ∀ W, Sem.run Try.prog (Op.stringOp .add ⟨#[48]⟩ (strB X)) W = .ok (.string (strB (48 :: X))) W := fun W => by
    have h := run_string_add_sum (P := Try.prog) W (strB [48]) (strB X) (by rw [strB_size, strB_size]; simp; omega)
    rw [strB_app] at h; exact h
  have T4 : ∀ W, Sem.run Try.prog (Op.stringOp .add (strB X) ⟨#[57, 57, 57, 57, 57, 57, 57, 57, 57, 57, 57]⟩) W = .ok (.string (strB (X ++ ninesL))) W := fun W => by
    have h := run_string_add_sum (P := Try.prog) W (strB X) (strB ninesL) (by rw [strB_size, strB_size]; have : ninesL.length = 11 := rfl; omega)
    rw [strB_app] at h; exact h
  have T5 : ∀ W, Sem.run Try.prog (Op.stringOp .add ⟨#[120, 32]⟩ (strB Z)) W = .ok (.string (strB (120 :: 32 :: Z))) W := fun W => by
    have h := run_string_add_sum (P := Try.prog) W (strB [120, 32]) (strB Z) (by rw [strB_size, strB_size]; simp; omega)
    rw [strB_app] at h; exact h
  go_enter Try.func6, Try.ntmps6
  go_wp2_with fail
  refine (digits_any k w (by omega)).mono ?_
  rintro e w1 ⟨rfl, hb1⟩
  rw [HX.out]
  have HB1 := Lib.hid hb1
  clear hb1
  go_wp2_with fail
  refine (t_lexB (32 :: (X ++ [32])) w1 (by simp; omega)).mono ?_
  rintro e w2 ⟨v1, E1, A1, rfl, ho1, hb2⟩
  obtain ⟨⟨p1, q1, rfl, hq1, ht1⟩, rfl, rfl⟩ := ho1.of_ok HLX1.out
  have HB2 := Lib.hid (HB1.out.trans (hb2.mono HB1.out.size))
  have HT := Lib.hid ht1
  clear ho1 hb2 ht1 HB1
  go_wp2_with fail
  refine (digits_any q w2 hq9).mono ?_
  rintro e w3 ⟨rfl, hb3⟩
  rw [HY.out]
  have HB3 := Lib.hid (HB2.out.trans (hb3.mono HB2.out.size))
  have HT3 := Lib.hid ((HT.out.below hb3 (Nat.le_refl _)).mono hb3.size)
  clear hb3 HT HB2
  have hbx := Box.new w3 9 [.string (strB (48 :: X)), .string (strB Y), .string (strB (X ++ ninesL))]
  have d2 : (w3.alloc (.cells #[.string (strB (48 :: X)), .string (strB Y), .string (strB (X ++ ninesL))] 9)).cell? ⟨w3.heap.size, j, none⟩ = some (.string (strB Z)) := by
    refine (hbx.cell j).trans ?_
    rcases (by omega : j = 0 ∨ j = 1 ∨ j = 2) with h | h | h <;> subst h
    · rw [← HZ.out, HT0.out, HX.out]; rfl
    · rw [← HZ.out, HT1.out, HY.out]; rfl
    · rw [← HZ.out, HT2.out, HX.out]; rfl
  have k4 : Below w3.heap.size w3 (w3.alloc (.cells #[.string (strB (48 :: X)), .string (strB Y), .string (strB (X ++ ninesL))] 9)) := (Below.refl w3.heap.size w3).alloc (Nat.le_refl _) _
  have HB4 := Lib.hid (HB3.out.trans (k4.mono HB3.out.size))
  have HT4 := Lib.hid ((HT3.out.below k4 (Nat.le_refl _)).mono k4.size)
  clear hbx HB3 HT3 k4
  have i0 : (0 : Int) ≤ (j : Int) := by omega
  have i3 : (j : Int) < 3 := by omega
  go_wp2_with fail
  refine (t_lexB (120 :: 32 :: Z) _ (by simp; omega)).mono ?_
  rintro e w5 ⟨v5, E5, A5, rfl, ho5, hb5⟩
  obtain ⟨rfl, rfl, rfl⟩ := ho5.of_bad HLX2.out
  have HB5 := Lib.hid (HB4.out.trans (hb5.mono HB4.out.size))
  have HT5 := Lib.hid ((HT4.out.below hb5 (Nat.le_refl _)).mono hb5.size)
  clear ho5 hb5 HB4 HT4 d2
  by_cases hjk : j = 2 ∧ k = 0
  · have f1 : ((j : Int) == 2) = true := by simp; omega
    have f2 : ((k : Int) == 0) = true := by simp; omega
    clear hjk
    go_wp2_with (first | (go_at_call 13; refine (num_any _ _).mono ?_; rintro e w' ⟨rfl, hw⟩; have hw := hw.symm; subst hw) | (go_at_call 9; refine (awake9 _).mono ?_; rintro e w' ⟨rfl, hb⟩))
    go_ret
    exact ⟨rfl, below_nxt HB5.out hb (Nat.le_refl _)⟩
  · obtain ⟨bz, oz, rfl, hbz, hcz⟩ := HT5.out.cell (by simp)
    obtain ⟨z0, z1, z2, z3⟩ := hcz 0 _ rfl
    simp only [Nat.zero_mul, Nat.add_zero] at z0 z1 z2 z3
    have z0' : w5.cell? ⟨bz, oz, none⟩ = some (.int .i64 3) := z0
    have z1' : w5.cell? ⟨bz, oz + 1, none⟩ = some (.int .i64 1) := z1
    have z2' : w5.cell? ⟨bz, oz + 2, none⟩ = some (.string ⟨#[]⟩) := z2
    have hGe := tok_guard_eq
    have hE : ∀ W' : World, (binOp .eql 38 (.agg #[.int .i64 3, .int .i64 1, .string ⟨#[]⟩, .int .i64 (k : Int)]) (.agg #[.int .i64 3, .int .i64 1, .string ⟨#[]⟩, .int .i64 (k : Int)])).run Try.prog W' = .ok (.bool true) W' := fun W' =>
      tok_eq ⟨#[]⟩ W' (by unfold fits; omega) (by unfold fits; omega) (by unfold fits; omega) (by decide)
    clear hcz z0 z1 z2
    by_cases hj2 : j = 2
    · have f1 : ((j : Int) == 2) = true := by simp; omega
      have f2 : ((k : Int) == 0) = false := by simp; omega
      clear hjk hj2
      go_wp2_with (first | (go_at_call 13; refine (num_any _ _).mono ?_; rintro e w' ⟨rfl, hw⟩; have hw := hw.symm; subst hw) | (go_at_call 9; refine (awake9 _).mono ?_; rintro e w' ⟨rfl, hb⟩))
      go_ret
      exact ⟨rfl, below_nxt HB5.out hb (Nat.le_refl _)⟩
    · have f1 : ((j : Int) == 2) = false := by simp; omega
      clear hjk hj2
      go_wp2_with (first | (go_at_call 13; refine (num_any _ _).mono ?_; rintro e w' ⟨rfl, hw⟩; have hw := hw.symm; subst hw) | (go_at_call 9; refine (awake9 _).mono ?_; rintro e w' ⟨rfl, hb⟩))
      go_ret
      exact ⟨rfl, below_nxt HB5.out hb (Nat.le_refl _)⟩

end Go.Proofs.Ytdhkcbkeehameaa
