/- Package scc: Reach. -/
import Derived.Test.YtdbjmonboecfgaaGfr
namespace Go.Proofs.Ytdbjmonboecfgaa
open Go.RowKit Go.Maps
set_option linter.unusedVariables false
set_option linter.unusedSimpArgs false

/-- b is a, or one comes from a to b; both are nodes. -/
noncomputable def rchB (g : Gr) (a b : Int) : Bool := @decide (0 ≤ a ∧ a < g.length ∧ 0 ≤ b ∧ b < g.length ∧ Rch g a.toNat b.toNat) (Classical.propDecidable _)
theorem rchB_nat {g : Gr} {a b : Nat} (ha : a < g.length) (hb : b < g.length) : rchB g a b = true ↔ Rch g a b := by
  unfold rchB
  rw [@decide_eq_true_iff _ (Classical.propDecidable _)]
  simp only [Int.toNat_natCast]
  exact ⟨fun h => h.2.2.2.2, fun h => ⟨by omega, by omega, by omega, by omega, h⟩⟩
theorem rchB_out {g : Gr} {a b : Int} (h : ¬ (0 ≤ a ∧ a < g.length ∧ 0 ≤ b ∧ b < g.length)) : rchB g a b = false := by
  unfold rchB
  exact @decide_eq_false _ (Classical.propDecidable _) fun q => h ⟨q.1, q.2.1, q.2.2.1, q.2.2.2.1⟩

end Go.Proofs.Ytdbjmonboecfgaa
