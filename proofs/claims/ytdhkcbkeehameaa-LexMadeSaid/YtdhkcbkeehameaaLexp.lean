/- Contracts of the small predicates of package lex and of the statements' own ones. -/
import Derived.Test.YtdhkcbkeehameaaProg
import Derived.Test.YtdhkcbkeehameaaBase
import Derived.Test.YtdhkcbkeehameaaLexm
namespace Go.Proofs.Ytdhkcbkeehameaa
open Go.RowKit
set_option linter.unusedVariables false
set_option linter.unusedSimpArgs false

theorem ret_bool {a b : Bool} (h : a = b) : Ending.returned (.bool a) = .returned (.bool b) := by rw [h]
theorem shr_any (x y : Int) (h : 0 ≤ y) : Op.shift .shr .u64 x .u8 y = pure (.int .u64 (x.fdiv (2 ^ min y.toNat 64))) := by
  have h' : ¬ y < 0 := by omega
  simp [Op.shift, h', IntKind.bits]
def inB (lo hi : Int) (c : Nat) : Bool := bits .and .u64 (bits .or .u64 (lo.fdiv (2 ^ min c 64)) (hi.fdiv (2 ^ min ((c + 192) % 256) 64))) 1 == 1
theorem p_in (c : Nat) (lo hi : Int) (w : World) (hc : c ≤ 255) (v : Bool) (hv : inB lo hi c = v) :
    Calls Try.prog 46 #[.int .u8 (c : Int), .int .u64 lo, .int .u64 hi] w fun e w' => e = .returned (.bool v) ∧ w' = w := by
  obtain ⟨d, hd⟩ : ∃ d : Nat, (c + 192) % 256 = d := ⟨_, rfl⟩
  have e1 : ((c : Int) - 64) % 256 = (d : Int) := by omega
  have T1 := shr_any lo (c : Int) (by omega)
  have T2 := shr_any hi (d : Int) (by omega)
  unfold inB at hv
  rw [hd] at hv
  go_enter Try.func46, Try.ntmps46
  go_wp2
  go_ret
  exact ⟨rfl, rfl⟩

theorem in_isBlank : ∀ c, c < 256 → inB 4294968832 0 c = blaN c := by decide +kernel
theorem p_isBlank (c : Nat) (w : World) (hc : c ≤ 255) :
    Calls Try.prog 31 #[.int .u8 (c : Int)] w fun e w' => e = .returned (.bool (blaN c)) ∧ w' = w := by
  obtain ⟨v, hv⟩ : ∃ v, blaN c = v := ⟨_, rfl⟩
  have hi := in_isBlank c (by omega)
  rw [hv] at hi ⊢
  clear hv
  go_enter Try.func31, Try.ntmps31
  go_wp2_with (go_at_call 46; refine (p_in _ _ _ _ hc v hi).mono ?_; rintro e w' ⟨rfl, rfl⟩)
  go_ret
  exact ⟨rfl, rfl⟩
theorem in_isLetter : ∀ c, c < 256 → inB 0 576460743847706622 c = letN c := by decide +kernel
theorem p_isLetter (c : Nat) (w : World) (hc : c ≤ 255) :
    Calls Try.prog 35 #[.int .u8 (c : Int)] w fun e w' => e = .returned (.bool (letN c)) ∧ w' = w := by
  obtain ⟨v, hv⟩ : ∃ v, letN c = v := ⟨_, rfl⟩
  have hi := in_isLetter c (by omega)
  rw [hv] at hi ⊢
  clear hv
  go_enter Try.func35, Try.ntmps35
  go_wp2_with (go_at_call 46; refine (p_in _ _ _ _ hc v hi).mono ?_; rintro e w' ⟨rfl, rfl⟩)
  go_ret
  exact ⟨rfl, rfl⟩
theorem in_isOfName : ∀ c, c < 256 → inB 287948901175001088 576460745995190270 c = resN c := by decide +kernel
theorem p_isOfName (c : Nat) (w : World) (hc : c ≤ 255) :
    Calls Try.prog 37 #[.int .u8 (c : Int)] w fun e w' => e = .returned (.bool (resN c)) ∧ w' = w := by
  obtain ⟨v, hv⟩ : ∃ v, resN c = v := ⟨_, rfl⟩
  have hi := in_isOfName c (by omega)
  rw [hv] at hi ⊢
  clear hv
  go_enter Try.func37, Try.ntmps37
  go_wp2_with (go_at_call 46; refine (p_in _ _ _ _ hc v hi).mono ?_; rintro e w' ⟨rfl, rfl⟩)
  go_ret
  exact ⟨rfl, rfl⟩
theorem in_isDigit : ∀ c, c < 256 → inB 287948901175001088 0 c = digN c := by decide +kernel
theorem p_isDigit (c : Nat) (w : World) (hc : c ≤ 255) :
    Calls Try.prog 38 #[.int .u8 (c : Int)] w fun e w' => e = .returned (.bool (digN c)) ∧ w' = w := by
  obtain ⟨v, hv⟩ : ∃ v, digN c = v := ⟨_, rfl⟩
  have hi := in_isDigit c (by omega)
  rw [hv] at hi ⊢
  clear hv
  go_enter Try.func38, Try.ntmps38
  go_wp2_with (go_at_call 46; refine (p_in _ _ _ _ hc v hi).mono ?_; rintro e w' ⟨rfl, rfl⟩)
  go_ret
  exact ⟨rfl, rfl⟩
theorem in_isSign : ∀ c, c < 256 → inB 2882324652238045184 4035225266392399872 c = sigN c := by decide +kernel
theorem p_isSign (c : Nat) (w : World) (hc : c ≤ 255) :
    Calls Try.prog 40 #[.int .u8 (c : Int)] w fun e w' => e = .returned (.bool (sigN c)) ∧ w' = w := by
  obtain ⟨v, hv⟩ : ∃ v, sigN c = v := ⟨_, rfl⟩
  have hi := in_isSign c (by omega)
  rw [hv] at hi ⊢
  clear hv
  go_enter Try.func40, Try.ntmps40
  go_wp2_with (go_at_call 46; refine (p_in _ _ _ _ hc v hi).mono ?_; rintro e w' ⟨rfl, rfl⟩)
  go_ret
  exact ⟨rfl, rfl⟩
theorem in_isLower : ∀ c, c < 256 → inB 0 576460743713488896 c = lowN c := by decide +kernel
theorem p_isLower (c : Nat) (w : World) (hc : c ≤ 255) :
    Calls Try.prog 44 #[.int .u8 (c : Int)] w fun e w' => e = .returned (.bool (lowN c)) ∧ w' = w := by
  obtain ⟨v, hv⟩ : ∃ v, lowN c = v := ⟨_, rfl⟩
  have hi := in_isLower c (by omega)
  rw [hv] at hi ⊢
  clear hv
  go_enter Try.func44, Try.ntmps44
  go_wp2_with (go_at_call 46; refine (p_in _ _ _ _ hc v hi).mono ?_; rintro e w' ⟨rfl, rfl⟩)
  go_ret
  exact ⟨rfl, rfl⟩
theorem in_isUpper : ∀ c, c < 256 → inB 0 134217726 c = uppN c := by decide +kernel
theorem p_isUpper (c : Nat) (w : World) (hc : c ≤ 255) :
    Calls Try.prog 45 #[.int .u8 (c : Int)] w fun e w' => e = .returned (.bool (uppN c)) ∧ w' = w := by
  obtain ⟨v, hv⟩ : ∃ v, uppN c = v := ⟨_, rfl⟩
  have hi := in_isUpper c (by omega)
  rw [hv] at hi ⊢
  clear hv
  go_enter Try.func45, Try.ntmps45
  go_wp2_with (go_at_call 46; refine (p_in _ _ _ _ hc v hi).mono ?_; rintro e w' ⟨rfl, rfl⟩)
  go_ret
  exact ⟨rfl, rfl⟩
theorem p_isInLine (c : Nat) (w : World) (hc : c ≤ 255) :
    Calls Try.prog 34 #[.int .u8 (c : Int)] w fun e w' => e = .returned (.bool (noNl c)) ∧ w' = w := by
  go_enter Try.func34, Try.ntmps34
  go_wp2
  go_ret
  refine ⟨ret_bool ?_, rfl⟩
  rw [Bool.eq_iff_iff]; simp [noNl]; omega
theorem r_lower (c : Nat) (w : World) (hc : c ≤ 255) :
    Calls Try.prog 23 #[.int .u8 (c : Int)] w fun e w' => e = .returned (.bool (lowN c)) ∧ w' = w := by
  go_enter Try.func23, Try.ntmps23
  go_wp2
  all_goals
    go_ret
    refine ⟨ret_bool ?_, rfl⟩
    rw [Bool.eq_iff_iff]; simp [lowN]; omega
theorem r_upper (c : Nat) (w : World) (hc : c ≤ 255) :
    Calls Try.prog 24 #[.int .u8 (c : Int)] w fun e w' => e = .returned (.bool (uppN c)) ∧ w' = w := by
  go_enter Try.func24, Try.ntmps24
  go_wp2
  all_goals
    go_ret
    refine ⟨ret_bool ?_, rfl⟩
    rw [Bool.eq_iff_iff]; simp [uppN]; omega
theorem r_digit (c : Nat) (w : World) (hc : c ≤ 255) :
    Calls Try.prog 27 #[.int .u8 (c : Int)] w fun e w' => e = .returned (.bool (digN c)) ∧ w' = w := by
  go_enter Try.func27, Try.ntmps27
  go_wp2
  all_goals
    go_ret
    refine ⟨ret_bool ?_, rfl⟩
    rw [Bool.eq_iff_iff]; simp [digN]; omega
theorem r_rest (c : Nat) (w : World) (hc : c ≤ 255) :
    Calls Try.prog 25 #[.int .u8 (c : Int)] w fun e w' => e = .returned (.bool (resN c)) ∧ w' = w := by
  go_enter Try.func25, Try.ntmps25
  have e1 : (((c : Nat) : Int) == 95) = decide (c = 95) := by rw [Bool.eq_iff_iff]; simp; omega
  cases h1 : lowN c <;> cases h2 : uppN c <;> cases h3 : digN c
  all_goals
    go_wp2_with (first
      | (go_at_call 23; refine (r_lower _ _ hc).mono ?_; rw [h1]; rintro e w' ⟨rfl, rfl⟩)
      | (go_at_call 24; refine (r_upper _ _ hc).mono ?_; rw [h2]; rintro e w' ⟨rfl, rfl⟩)
      | (go_at_call 27; refine (r_digit _ _ hc).mono ?_; rw [h3]; rintro e w' ⟨rfl, rfl⟩))
    go_ret
    refine ⟨ret_bool ?_, rfl⟩
    simp [resN, h1, h2, h3]

end Go.Proofs.Ytdhkcbkeehameaa
