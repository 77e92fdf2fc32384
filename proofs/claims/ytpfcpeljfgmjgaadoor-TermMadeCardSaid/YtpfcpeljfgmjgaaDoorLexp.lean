/- Contracts of the small predicates of package lex and of the statements' own ones. -/
import Derived.Test.YtpfcpeljfgmjgaaDoorProg
import Derived.Test.YtpfcpeljfgmjgaaDoorBase
import Derived.Test.YtpfcpeljfgmjgaaDoorLexm
namespace Go.Proofs.YtpfcpeljfgmjgaaDoor
open Go.RowKit
set_option linter.unusedVariables false
set_option linter.unusedSimpArgs false

theorem ret_bool {a b : Bool} (h : a = b) : Ending.returned (.bool a) = .returned (.bool b) := by rw [h]
theorem shr_any (x y : Int) (h : 0 ≤ y) : Op.shift .shr .u64 x .u8 y = pure (.int .u64 (x.fdiv (2 ^ min y.toNat 64))) := by
  have h' : ¬ y < 0 := by omega
  simp [Op.shift, h', IntKind.bits]
def inB (lo hi : Int) (c : Nat) : Bool := bits .and .u64 (bits .or .u64 (lo.fdiv (2 ^ min c 64)) (hi.fdiv (2 ^ min ((c + 192) % 256) 64))) 1 == 1
theorem in_isBlank : ∀ c, c < 256 → inB 4294968832 0 c = blaN c := by decide +kernel
theorem in_isLetter : ∀ c, c < 256 → inB 0 576460743847706622 c = letN c := by decide +kernel
theorem in_isOfName : ∀ c, c < 256 → inB 287948901175001088 576460745995190270 c = resN c := by decide +kernel
theorem in_isDigit : ∀ c, c < 256 → inB 287948901175001088 0 c = digN c := by decide +kernel
theorem in_isSign : ∀ c, c < 256 → inB 2882324652238045184 4035225266392399872 c = sigN c := by decide +kernel
theorem in_isLower : ∀ c, c < 256 → inB 0 576460743713488896 c = lowN c := by decide +kernel
theorem in_isUpper : ∀ c, c < 256 → inB 0 134217726 c = uppN c := by decide +kernel
theorem r_lower (c : Nat) (w : World) (hc : c ≤ 255) :
    Calls Tryd.prog 131 #[.int .u8 (c : Int)] w fun e w' => e = .returned (.bool (lowN c)) ∧ w' = w := by
  go_enter Tryd.func131, Tryd.ntmps131
  go_wp2
  all_goals
    go_ret
    refine ⟨ret_bool ?_, rfl⟩
    rw [Bool.eq_iff_iff]; simp [lowN]; omega
theorem r_upper (c : Nat) (w : World) (hc : c ≤ 255) :
    Calls Tryd.prog 110 #[.int .u8 (c : Int)] w fun e w' => e = .returned (.bool (uppN c)) ∧ w' = w := by
  go_enter Tryd.func110, Tryd.ntmps110
  go_wp2
  all_goals
    go_ret
    refine ⟨ret_bool ?_, rfl⟩
    rw [Bool.eq_iff_iff]; simp [uppN]; omega
theorem r_digit (c : Nat) (w : World) (hc : c ≤ 255) :
    Calls Tryd.prog 132 #[.int .u8 (c : Int)] w fun e w' => e = .returned (.bool (digN c)) ∧ w' = w := by
  go_enter Tryd.func132, Tryd.ntmps132
  go_wp2
  all_goals
    go_ret
    refine ⟨ret_bool ?_, rfl⟩
    rw [Bool.eq_iff_iff]; simp [digN]; omega
theorem r_rest (c : Nat) (w : World) (hc : c ≤ 255) :
    Calls Tryd.prog 125 #[.int .u8 (c : Int)] w fun e w' => e = .returned (.bool (resN c)) ∧ w' = w := by
  go_enter Tryd.func125, Tryd.ntmps125
  have e1 : (((c : Nat) : Int) == 95) = decide (c = 95) := by rw [Bool.eq_iff_iff]; simp; omega
  cases h1 : lowN c <;> cases h2 : uppN c <;> cases h3 : digN c
  all_goals
    go_wp2_with (first
      | (go_at_call 131; refine (r_lower _ _ hc).mono ?_; rw [h1]; rintro e w' ⟨rfl, rfl⟩)
      | (go_at_call 110; refine (r_upper _ _ hc).mono ?_; rw [h2]; rintro e w' ⟨rfl, rfl⟩)
      | (go_at_call 132; refine (r_digit _ _ hc).mono ?_; rw [h3]; rintro e w' ⟨rfl, rfl⟩))
    go_ret
    refine ⟨ret_bool ?_, rfl⟩
    simp [resN, h1, h2, h3]

end Go.Proofs.YtpfcpeljfgmjgaaDoor
