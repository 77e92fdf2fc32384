/- The document's parser: expr. -/
import Derived.Test.YtgkeblpjmfdhkaaYexiM
import Derived.Test.YtgkeblpjmfdhkaaYexlM
import Derived.Test.YtgkeblpjmfdhkaaYexfM
import Derived.Test.YtgkeblpjmfdhkaaYexaM
import Derived.Test.YtgkeblpjmfdhkaaYexzM
import Derived.Test.YtgkeblpjmfdhkaaYexcM
namespace Go.Proofs.Ytgkeblpjmfdhkaa
open Go.RowKit Go.Maps
set_option linter.unusedVariables false
set_option linter.unusedSimpArgs false

theorem c_exprStep {c : Px} {n : Nat} {X : PS → Ex × PS} (HONE : ∀ (W0 W : World) (τ : PS), Cay c W0 W τ → τ.ts.length < n → Calls Try.prog 57 #[.pointer (some ⟨c.R, 0, none⟩)] W (TellsY c W0 W exC (X τ))) (hdec : Dec X) (HM : Keeps X)
    {W0 W : World} {σ : PS} (h : Cay c W0 W σ) (hlen : σ.ts.length ≤ n) {R : Ex × PS} (hR : exprStep c.En X σ = R) :
    Calls Try.prog 57 #[.pointer (some ⟨c.R, 0, none⟩)] W (TellsY c W0 W exC R) := by
  unfold exprStep at hR
  by_cases h6 : beg σ.next = 6
  · rw [if_pos h6] at hR
    exact c_expr_lam HONE hdec (Lib.hid HM) h hlen (sees_of ((beg_sees h6).1 rfl)) hR
  · rw [if_neg h6] at hR
    by_cases h7 : beg σ.next = 7
    · rw [if_pos h7] at hR
      exact c_expr_let HONE hdec (Lib.hid HM) h hlen (sees_of ((beg_sees h7).2.1 rfl)) hR
    · rw [if_neg h7] at hR
      by_cases h9 : beg σ.next = 9
      · rw [if_pos h9] at hR
        exact c_expr_if HONE hdec (Lib.hid HM) h hlen (sees_of ((beg_sees h9).2.2.2.1 rfl)) hR
      · rw [if_neg h9] at hR
        by_cases h10 : beg σ.next = 10
        · rw [if_pos h10] at hR
          exact c_expr_case HONE hdec (Lib.hid HM) h hlen (sees_of ((beg_sees h10).2.2.2.2 rfl)) hR
        · rw [if_neg h10] at hR
          cases e : σ.ts with
          | nil => exact c_expr_nil (X := X) h e ((appF_nil (X := X) e).symm.trans hR)
          | cons t r => exact c_expr_app HONE hdec (Lib.hid HM) h hlen ⟨by rw [e]; simp, h6, h7, h9, h10⟩ hR
theorem c_expr (c : Px) : ∀ (n : Nat) (W0 W : World) (τ : PS), Cay c W0 W τ → τ.ts.length < n → Calls Try.prog 57 #[.pointer (some ⟨c.R, 0, none⟩)] W (TellsY c W0 W exC (exprF c.En n τ))
  | 0, _, _, _, _, h => absurd h (Nat.not_lt_zero _)
  | n + 1, W0, W, τ, hc, hl => c_exprStep (X := exprF c.En n) (c_expr c n) (exprF_len c.En n) (exprF_st c.En n) hc (Nat.le_of_lt_succ hl) rfl

end Go.Proofs.Ytgkeblpjmfdhkaa
