/- The statements' programs by numbers: Source tells some text that is empty or ends a line. (Premise: what Expr tells.) The statements' expr, atom, Expr: their texts, whatever the numbers. How a slice of integers, of bools, that came in as an argument is read. How a slice of slices of bytes that came in as an argument is read. -/
import Derived.Test.YtgkeblpjmfdhkaaZJQ
import Derived.Deep.RegionWith
import Derived.Deep.CutRange
import Derived.Test.YtgkeblpjmfdhkaaZKQ
import Derived.Test.YtgkeblpjmfdhkaaZAQ
import Derived.ProofKit
import Derived.OpenShut
import Derived.Lib.SmallJoins
import Derived.Deep.Grids
import Derived.Deep.Matrix
namespace Go.Proofs.Ytgkeblpjmfdhkaa
open Go.RowKit
set_option linter.unusedVariables false
set_option linter.unusedSimpArgs false

end Go.Proofs.Ytgkeblpjmfdhkaa

namespace Go.Proofs.Ytgkeblpjmfdhkaa
open Go.RowKit
set_option linter.unusedVariables false
set_option linter.unusedSimpArgs false

set_option maxHeartbeats 1000000 in
theorem t_zero_expr (a : Option Addr) (l c : Nat) (w : World) (hc : l ≤ c) : Calls Try.prog 40 #[.slice a l c, .int .i64 0] w fun e w' => e = .returned (.string (strB [120])) ∧ Below w.heap.size w w' := by
  by_cases h : l = 0
  · subst h
    exact t_expr_nil 0 a c w
  · have h0 : ((l : Int) == 0) = false := by simp; omega
    go_enter Try.func40, Try.ntmps40
    go_wp2_with fail
    go_ret
    exact ⟨rfl, Below.refl _ _⟩
set_option maxHeartbeats 1000000 in
theorem t_zero_atom (a : Option Addr) (l c : Nat) (w : World) (hc : l ≤ c) : Calls Try.prog 78 #[.slice a l c, .int .i64 0] w fun e w' => e = .returned (.string (strB [120])) ∧ Below w.heap.size w w' := by
  by_cases h : l = 0
  · subst h
    go_enter Try.func78, Try.ntmps78
    go_wp2_with fail
    go_ret
    exact ⟨rfl, Below.refl _ _⟩
  · have h0 : ((l : Int) == 0) = false := by simp; omega
    go_enter Try.func78, Try.ntmps78
    go_wp2_with fail
    go_ret
    exact ⟨rfl, Below.refl _ _⟩
theorem t_expr_step (d : Nat) (hd : d ≤ 9) (HE : Txt 40 (exprT d) d) (HA : Txt 78 (atomT d) d) (HB : Txt 78 (atomT (d + 1)) (d + 1)) : Txt 40 (exprT (d + 1)) (d + 1) := by
  intro D hD a l c xs w h
  obtain rfl : D = (d : Int) + 1 := by omega
  cases xs with
  | nil =>
    have hl : l = 0 := by have := h.len; simpa using this.symm
    subst hl
    exact t_expr_nil _ a c w
  | cons n r =>
    have hm : n % 10 = 0 ∨ n % 10 = 1 ∨ n % 10 = 2 ∨ n % 10 = 3 ∨ n % 10 = 4 ∨ n % 10 = 5 ∨ n % 10 = 6 ∨ n % 10 = 7 ∨ n % 10 = 8 ∨ n % 10 = 9 := by omega
    rcases hm with hm | hm | hm | hm | hm | hm | hm | hm | hm | hm
    · exact t_expr_0 d hd HE HA HB a l c n r w h hm
    · exact t_expr_1 d hd HE HA HB a l c n r w h hm
    · exact t_expr_2 d hd HE HA HB a l c n r w h hm
    · exact t_expr_3 d hd HE HA HB a l c n r w h hm
    · exact t_expr_4 d hd HE HA HB a l c n r w h hm
    · exact t_expr_5 d hd HE HA HB a l c n r w h hm
    · exact t_expr_6 d hd HE HA HB a l c n r w h hm
    · exact t_expr_7 d hd HE HA HB a l c n r w h hm
    · exact t_expr_8 d hd HE HA HB a l c n r w h hm
    · exact t_expr_9 d hd HE HA HB a l c n r w h hm
theorem t_txt : ∀ d, d ≤ 9 → Txt 40 (exprT d) d ∧ Txt 78 (atomT d) d
  | 0, _ => ⟨fun D hD a l c xs w h => by subst hD; exact t_zero_expr a l c w h.cap, fun D hD a l c xs w h => by subst hD; exact t_zero_atom a l c w h.cap⟩
  | d + 1, hd => by
    obtain ⟨h1, h2⟩ := t_txt d (by omega)
    have h3 := t_atom_step d (by omega) h1 h2
    exact ⟨t_expr_step d (by omega) h1 h2 h3, h3⟩
set_option maxHeartbeats 1000000 in
theorem t_Expr (a : Option Addr) (l c : Nat) (xs : List Nat) (w : World) (h : RB w a l c xs) : Calls Try.prog 15 #[.slice a l c] w fun e w' => e = .returned (.string (strB (exprT 8 xs))) ∧ Below w.heap.size w w' := by
  have H := Lib.hid ((t_txt 8 (by omega)).1 8 rfl a l c xs w h)
  clear h
  go_enter Try.func15, Try.ntmps15
  go_wp2_with (go_at_call 40; refine H.out.mono ?_; rintro e w1 ⟨rfl, hb⟩; have HB := Lib.hid hb; clear hb)
  go_ret
  exact ⟨rfl, HB.out⟩
end Go.Proofs.Ytgkeblpjmfdhkaa

namespace Go.Proofs.Ytgkeblpjmfdhkaa
open Go.RowKit Go.WideShapes Go.ChangeShapes

theorem RowF.of_cells {α : Type} {f : α → Value} {d : α} {w : World} {x : Addr} {len cap : Nat} {zs : List α} (hl : len ≤ cap) (hz : zs.length = cap) (hcell : ∀ i, i < zs.length → w.cell? (x.add i) = some (f (zs.getD i d))) :
    RowF f d 0 w.heap.size w (some x) len (zs.take len) := by
  refine ⟨by simp; omega, ?_⟩
  by_cases h0 : len = 0
  · exact .inl h0
  · obtain ⟨b, off, spot⟩ := x
    have hc := hcell 0 (by omega)
    have hspot : spot = none := by simpa [Addr.add] using World.cell?_spot hc
    subst hspot
    refine .inr ⟨b, off, rfl, Nat.zero_le _, World.block_lt_of_cell? _ _ hc, fun i hi => ?_⟩
    have := hcell i (by omega)
    rw [Addr.add_lit] at this
    rw [this]
    simp [List.getD, hi]

end Go.Proofs.Ytgkeblpjmfdhkaa

namespace Go.Proofs.Ytgkeblpjmfdhkaa
open Go.RowKit Go.WideShapes Go.ChangeShapes
set_option linter.unusedVariables false

end Go.Proofs.Ytgkeblpjmfdhkaa
