/- Contracts of Begin of package cuf and of the document. Contracts of the document's swap, and of what follows a find, whatever follows. Words for the ways through both Steps. -/
import Derived.Test.YtpfcpeljfgmjgaaDoorZpb
import Derived.Test.YtpfcpeljfgmjgaaDoorZpa
namespace Go.Proofs.YtpfcpeljfgmjgaaDoor
open Go.RowKit
set_option linter.unusedVariables false

/-- A task, its fields integers. -/
def tkv (k x y st u v ww r : Int) (dn : Bool) (res : Int) : Value := .agg #[.int .i64 k, .int .i64 x, .int .i64 y, .int .i64 st, .int .i64 u, .int .i64 v, .int .i64 ww, .int .i64 r, .bool dn, .int .i64 res]

set_option maxRecDepth 100000 in
theorem begin_1_yes (x y n : Int) (w : World) (hx0 : 0 ≤ x) (hx1 : x < n) :
    Calls Tryd.prog 95 #[.agg #[.int .i64 1, .int .i64 x, .int .i64 y], .int .i64 n] w fun e w' => e = .returned (.tuple #[.agg #[.int .i64 1, .int .i64 x, .int .i64 y, .int .i64 1, .int .i64 x, .int .i64 y, .int .i64 0, .int .i64 0, .bool false, .int .i64 0], .bool true]) ∧ Below w.heap.size w w' := by
  go_enter Tryd.func95, Tryd.ntmps95
  go_wp2_with (first | (go_at_call 116; (with_reducible refine (there_yes _ _ _ hx0 hx1).mono ?_); rintro e w' ⟨rfl, rfl⟩))
  refine bodyPost_ret (v := .tuple #[.agg #[.int .i64 1, .int .i64 x, .int .i64 y, .int .i64 1, .int .i64 x, .int .i64 y, .int .i64 0, .int .i64 0, .bool false, .int .i64 0], .bool true]) (by simp only [results, Tryd.results95]; go_simp) rfl ⟨rfl, ?_⟩
  exact below_two _ _ _

set_option maxRecDepth 100000 in
theorem begin_1_xno (x y n : Int) (w : World) (hx : ¬ (0 ≤ x ∧ x < n)) :
    Calls Tryd.prog 95 #[.agg #[.int .i64 1, .int .i64 x, .int .i64 y], .int .i64 n] w fun e w' => e = .returned (.tuple #[.agg #[.int .i64 0, .int .i64 0, .int .i64 0, .int .i64 0, .int .i64 0, .int .i64 0, .int .i64 0, .int .i64 0, .bool false, .int .i64 0], .bool false]) ∧ Below w.heap.size w w' := by
  have HX := Lib.hid hx
  clear hx
  go_enter Tryd.func95, Tryd.ntmps95
  go_wp2_with (first | (go_at_call 116; (with_reducible refine (there_no _ _ _ HX.out).mono ?_); rintro e w' ⟨rfl, rfl⟩))
  refine bodyPost_ret (v := .tuple #[.agg #[.int .i64 0, .int .i64 0, .int .i64 0, .int .i64 0, .int .i64 0, .int .i64 0, .int .i64 0, .int .i64 0, .bool false, .int .i64 0], .bool false]) (by simp only [results, Tryd.results95]; go_simp) rfl ⟨rfl, ?_⟩
  exact below_two _ _ _

set_option maxRecDepth 100000 in
theorem begin_2_yes (x y n : Int) (w : World) (hx0 : 0 ≤ x) (hx1 : x < n) (hy0 : 0 ≤ y) (hy1 : y < n) :
    Calls Tryd.prog 95 #[.agg #[.int .i64 2, .int .i64 x, .int .i64 y], .int .i64 n] w fun e w' => e = .returned (.tuple #[.agg #[.int .i64 2, .int .i64 x, .int .i64 y, .int .i64 1, .int .i64 x, .int .i64 y, .int .i64 0, .int .i64 0, .bool false, .int .i64 0], .bool true]) ∧ Below w.heap.size w w' := by
  go_enter Tryd.func95, Tryd.ntmps95
  go_wp2_with (first | (go_at_call 116; (with_reducible refine (there_yes _ _ _ hx0 hx1).mono ?_); rintro e w' ⟨rfl, rfl⟩) | (go_at_call 116; (with_reducible refine (there_yes _ _ _ hy0 hy1).mono ?_); rintro e w' ⟨rfl, rfl⟩))
  refine bodyPost_ret (v := .tuple #[.agg #[.int .i64 2, .int .i64 x, .int .i64 y, .int .i64 1, .int .i64 x, .int .i64 y, .int .i64 0, .int .i64 0, .bool false, .int .i64 0], .bool true]) (by simp only [results, Tryd.results95]; go_simp) rfl ⟨rfl, ?_⟩
  exact below_two _ _ _

set_option maxRecDepth 100000 in
theorem begin_2_xno (x y n : Int) (w : World) (hx : ¬ (0 ≤ x ∧ x < n)) :
    Calls Tryd.prog 95 #[.agg #[.int .i64 2, .int .i64 x, .int .i64 y], .int .i64 n] w fun e w' => e = .returned (.tuple #[.agg #[.int .i64 0, .int .i64 0, .int .i64 0, .int .i64 0, .int .i64 0, .int .i64 0, .int .i64 0, .int .i64 0, .bool false, .int .i64 0], .bool false]) ∧ Below w.heap.size w w' := by
  have HX := Lib.hid hx
  clear hx
  go_enter Tryd.func95, Tryd.ntmps95
  go_wp2_with (first | (go_at_call 116; (with_reducible refine (there_no _ _ _ HX.out).mono ?_); rintro e w' ⟨rfl, rfl⟩))
  refine bodyPost_ret (v := .tuple #[.agg #[.int .i64 0, .int .i64 0, .int .i64 0, .int .i64 0, .int .i64 0, .int .i64 0, .int .i64 0, .int .i64 0, .bool false, .int .i64 0], .bool false]) (by simp only [results, Tryd.results95]; go_simp) rfl ⟨rfl, ?_⟩
  exact below_two _ _ _

set_option maxRecDepth 100000 in
theorem begin_2_yno (x y n : Int) (w : World) (hx0 : 0 ≤ x) (hx1 : x < n) (hy : ¬ (0 ≤ y ∧ y < n)) :
    Calls Tryd.prog 95 #[.agg #[.int .i64 2, .int .i64 x, .int .i64 y], .int .i64 n] w fun e w' => e = .returned (.tuple #[.agg #[.int .i64 0, .int .i64 0, .int .i64 0, .int .i64 0, .int .i64 0, .int .i64 0, .int .i64 0, .int .i64 0, .bool false, .int .i64 0], .bool false]) ∧ Below w.heap.size w w' := by
  have HY := Lib.hid hy
  clear hy
  go_enter Tryd.func95, Tryd.ntmps95
  go_wp2_with (first | (go_at_call 116; (with_reducible refine (there_yes _ _ _ hx0 hx1).mono ?_); rintro e w' ⟨rfl, rfl⟩) | (go_at_call 116; (with_reducible refine (there_no _ _ _ HY.out).mono ?_); rintro e w' ⟨rfl, rfl⟩))
  refine bodyPost_ret (v := .tuple #[.agg #[.int .i64 0, .int .i64 0, .int .i64 0, .int .i64 0, .int .i64 0, .int .i64 0, .int .i64 0, .int .i64 0, .bool false, .int .i64 0], .bool false]) (by simp only [results, Tryd.results95]; go_simp) rfl ⟨rfl, ?_⟩
  exact below_two _ _ _

set_option maxRecDepth 100000 in
theorem begin_3_yes (x y n : Int) (w : World) (hx0 : 0 ≤ x) (hx1 : x < n) (hy0 : 0 ≤ y) (hy1 : y < n) :
    Calls Tryd.prog 95 #[.agg #[.int .i64 3, .int .i64 x, .int .i64 y], .int .i64 n] w fun e w' => e = .returned (.tuple #[.agg #[.int .i64 3, .int .i64 x, .int .i64 y, .int .i64 1, .int .i64 x, .int .i64 y, .int .i64 0, .int .i64 0, .bool false, .int .i64 0], .bool true]) ∧ Below w.heap.size w w' := by
  go_enter Tryd.func95, Tryd.ntmps95
  go_wp2_with (first | (go_at_call 116; (with_reducible refine (there_yes _ _ _ hx0 hx1).mono ?_); rintro e w' ⟨rfl, rfl⟩) | (go_at_call 116; (with_reducible refine (there_yes _ _ _ hy0 hy1).mono ?_); rintro e w' ⟨rfl, rfl⟩))
  refine bodyPost_ret (v := .tuple #[.agg #[.int .i64 3, .int .i64 x, .int .i64 y, .int .i64 1, .int .i64 x, .int .i64 y, .int .i64 0, .int .i64 0, .bool false, .int .i64 0], .bool true]) (by simp only [results, Tryd.results95]; go_simp) rfl ⟨rfl, ?_⟩
  exact below_two _ _ _

set_option maxRecDepth 100000 in
theorem begin_3_xno (x y n : Int) (w : World) (hx : ¬ (0 ≤ x ∧ x < n)) :
    Calls Tryd.prog 95 #[.agg #[.int .i64 3, .int .i64 x, .int .i64 y], .int .i64 n] w fun e w' => e = .returned (.tuple #[.agg #[.int .i64 0, .int .i64 0, .int .i64 0, .int .i64 0, .int .i64 0, .int .i64 0, .int .i64 0, .int .i64 0, .bool false, .int .i64 0], .bool false]) ∧ Below w.heap.size w w' := by
  have HX := Lib.hid hx
  clear hx
  go_enter Tryd.func95, Tryd.ntmps95
  go_wp2_with (first | (go_at_call 116; (with_reducible refine (there_no _ _ _ HX.out).mono ?_); rintro e w' ⟨rfl, rfl⟩))
  refine bodyPost_ret (v := .tuple #[.agg #[.int .i64 0, .int .i64 0, .int .i64 0, .int .i64 0, .int .i64 0, .int .i64 0, .int .i64 0, .int .i64 0, .bool false, .int .i64 0], .bool false]) (by simp only [results, Tryd.results95]; go_simp) rfl ⟨rfl, ?_⟩
  exact below_two _ _ _

set_option maxRecDepth 100000 in
theorem begin_3_yno (x y n : Int) (w : World) (hx0 : 0 ≤ x) (hx1 : x < n) (hy : ¬ (0 ≤ y ∧ y < n)) :
    Calls Tryd.prog 95 #[.agg #[.int .i64 3, .int .i64 x, .int .i64 y], .int .i64 n] w fun e w' => e = .returned (.tuple #[.agg #[.int .i64 0, .int .i64 0, .int .i64 0, .int .i64 0, .int .i64 0, .int .i64 0, .int .i64 0, .int .i64 0, .bool false, .int .i64 0], .bool false]) ∧ Below w.heap.size w w' := by
  have HY := Lib.hid hy
  clear hy
  go_enter Tryd.func95, Tryd.ntmps95
  go_wp2_with (first | (go_at_call 116; (with_reducible refine (there_yes _ _ _ hx0 hx1).mono ?_); rintro e w' ⟨rfl, rfl⟩) | (go_at_call 116; (with_reducible refine (there_no _ _ _ HY.out).mono ?_); rintro e w' ⟨rfl, rfl⟩))
  refine bodyPost_ret (v := .tuple #[.agg #[.int .i64 0, .int .i64 0, .int .i64 0, .int .i64 0, .int .i64 0, .int .i64 0, .int .i64 0, .int .i64 0, .bool false, .int .i64 0], .bool false]) (by simp only [results, Tryd.results95]; go_simp) rfl ⟨rfl, ?_⟩
  exact below_two _ _ _

set_option maxRecDepth 100000 in
theorem begin_bad (k x y n : Int) (w : World) (h1 : (k == 1) = false) (h2 : (k == 2) = false) (h3 : (k == 3) = false) :
    Calls Tryd.prog 95 #[.agg #[.int .i64 k, .int .i64 x, .int .i64 y], .int .i64 n] w fun e w' => e = .returned (.tuple #[.agg #[.int .i64 0, .int .i64 0, .int .i64 0, .int .i64 0, .int .i64 0, .int .i64 0, .int .i64 0, .int .i64 0, .bool false, .int .i64 0], .bool false]) ∧ Below w.heap.size w w' := by
  go_enter Tryd.func95, Tryd.ntmps95
  go_wp2_with fail
  refine bodyPost_ret (v := .tuple #[.agg #[.int .i64 0, .int .i64 0, .int .i64 0, .int .i64 0, .int .i64 0, .int .i64 0, .int .i64 0, .int .i64 0, .bool false, .int .i64 0], .bool false]) (by simp only [results, Tryd.results95]; go_simp) rfl ⟨rfl, ?_⟩
  exact below_two _ _ _

set_option maxRecDepth 100000 in
theorem rbegin_1_yes (x y n : Int) (w : World) (hx0 : 0 ≤ x) (hx1 : x < n) :
    Calls Tryd.prog 43 #[.agg #[.int .i64 1, .int .i64 x, .int .i64 y], .int .i64 n] w fun e w' => e = .returned (.agg #[.int .i64 1, .int .i64 x, .int .i64 y, .int .i64 1, .int .i64 x, .int .i64 y, .int .i64 0, .int .i64 0, .bool false, .int .i64 0, .bool true]) ∧ Below w.heap.size w w' := by
  go_enter Tryd.func43, Tryd.ntmps43
  go_wp2_with (first | (go_at_call 76; (with_reducible refine (rthere_yes _ _ _ hx0 hx1).mono ?_); rintro e w' ⟨rfl, rfl⟩))
  refine bodyPost_ret (v := .agg #[.int .i64 1, .int .i64 x, .int .i64 y, .int .i64 1, .int .i64 x, .int .i64 y, .int .i64 0, .int .i64 0, .bool false, .int .i64 0, .bool true]) (by simp only [results, Tryd.results43]; go_simp) rfl ⟨rfl, ?_⟩
  exact below_two _ _ _

set_option maxRecDepth 100000 in
theorem rbegin_1_xno (x y n : Int) (w : World) (hx : ¬ (0 ≤ x ∧ x < n)) :
    Calls Tryd.prog 43 #[.agg #[.int .i64 1, .int .i64 x, .int .i64 y], .int .i64 n] w fun e w' => e = .returned (.agg #[.int .i64 0, .int .i64 0, .int .i64 0, .int .i64 0, .int .i64 0, .int .i64 0, .int .i64 0, .int .i64 0, .bool false, .int .i64 0, .bool false]) ∧ Below w.heap.size w w' := by
  have HX := Lib.hid hx
  clear hx
  go_enter Tryd.func43, Tryd.ntmps43
  go_wp2_with (first | (go_at_call 76; (with_reducible refine (rthere_no _ _ _ HX.out).mono ?_); rintro e w' ⟨rfl, rfl⟩))
  refine bodyPost_ret (v := .agg #[.int .i64 0, .int .i64 0, .int .i64 0, .int .i64 0, .int .i64 0, .int .i64 0, .int .i64 0, .int .i64 0, .bool false, .int .i64 0, .bool false]) (by simp only [results, Tryd.results43]; go_simp) rfl ⟨rfl, ?_⟩
  exact below_two _ _ _

set_option maxRecDepth 100000 in
theorem rbegin_2_yes (x y n : Int) (w : World) (hx0 : 0 ≤ x) (hx1 : x < n) (hy0 : 0 ≤ y) (hy1 : y < n) :
    Calls Tryd.prog 43 #[.agg #[.int .i64 2, .int .i64 x, .int .i64 y], .int .i64 n] w fun e w' => e = .returned (.agg #[.int .i64 2, .int .i64 x, .int .i64 y, .int .i64 1, .int .i64 x, .int .i64 y, .int .i64 0, .int .i64 0, .bool false, .int .i64 0, .bool true]) ∧ Below w.heap.size w w' := by
  go_enter Tryd.func43, Tryd.ntmps43
  go_wp2_with (first | (go_at_call 76; (with_reducible refine (rthere_yes _ _ _ hx0 hx1).mono ?_); rintro e w' ⟨rfl, rfl⟩) | (go_at_call 76; (with_reducible refine (rthere_yes _ _ _ hy0 hy1).mono ?_); rintro e w' ⟨rfl, rfl⟩))
  refine bodyPost_ret (v := .agg #[.int .i64 2, .int .i64 x, .int .i64 y, .int .i64 1, .int .i64 x, .int .i64 y, .int .i64 0, .int .i64 0, .bool false, .int .i64 0, .bool true]) (by simp only [results, Tryd.results43]; go_simp) rfl ⟨rfl, ?_⟩
  exact below_two _ _ _

set_option maxRecDepth 100000 in
theorem rbegin_2_xno (x y n : Int) (w : World) (hx : ¬ (0 ≤ x ∧ x < n)) :
    Calls Tryd.prog 43 #[.agg #[.int .i64 2, .int .i64 x, .int .i64 y], .int .i64 n] w fun e w' => e = .returned (.agg #[.int .i64 0, .int .i64 0, .int .i64 0, .int .i64 0, .int .i64 0, .int .i64 0, .int .i64 0, .int .i64 0, .bool false, .int .i64 0, .bool false]) ∧ Below w.heap.size w w' := by
  have HX := Lib.hid hx
  clear hx
  go_enter Tryd.func43, Tryd.ntmps43
  go_wp2_with (first | (go_at_call 76; (with_reducible refine (rthere_no _ _ _ HX.out).mono ?_); rintro e w' ⟨rfl, rfl⟩))
  refine bodyPost_ret (v := .agg #[.int .i64 0, .int .i64 0, .int .i64 0, .int .i64 0, .int .i64 0, .int .i64 0, .int .i64 0, .int .i64 0, .bool false, .int .i64 0, .bool false]) (by simp only [results, Tryd.results43]; go_simp) rfl ⟨rfl, ?_⟩
  exact below_two _ _ _

set_option maxRecDepth 100000 in
theorem rbegin_2_yno (x y n : Int) (w : World) (hx0 : 0 ≤ x) (hx1 : x < n) (hy : ¬ (0 ≤ y ∧ y < n)) :
    Calls Tryd.prog 43 #[.agg #[.int .i64 2, .int .i64 x, .int .i64 y], .int .i64 n] w fun e w' => e = .returned (.agg #[.int .i64 0, .int .i64 0, .int .i64 0, .int .i64 0, .int .i64 0, .int .i64 0, .int .i64 0, .int .i64 0, .bool false, .int .i64 0, .bool false]) ∧ Below w.heap.size w w' := by
  have HY := Lib.hid hy
  clear hy
  go_enter Tryd.func43, Tryd.ntmps43
  go_wp2_with (first | (go_at_call 76; (with_reducible refine (rthere_yes _ _ _ hx0 hx1).mono ?_); rintro e w' ⟨rfl, rfl⟩) | (go_at_call 76; (with_reducible refine (rthere_no _ _ _ HY.out).mono ?_); rintro e w' ⟨rfl, rfl⟩))
  refine bodyPost_ret (v := .agg #[.int .i64 0, .int .i64 0, .int .i64 0, .int .i64 0, .int .i64 0, .int .i64 0, .int .i64 0, .int .i64 0, .bool false, .int .i64 0, .bool false]) (by simp only [results, Tryd.results43]; go_simp) rfl ⟨rfl, ?_⟩
  exact below_two _ _ _

set_option maxRecDepth 100000 in
theorem rbegin_3_yes (x y n : Int) (w : World) (hx0 : 0 ≤ x) (hx1 : x < n) (hy0 : 0 ≤ y) (hy1 : y < n) :
    Calls Tryd.prog 43 #[.agg #[.int .i64 3, .int .i64 x, .int .i64 y], .int .i64 n] w fun e w' => e = .returned (.agg #[.int .i64 3, .int .i64 x, .int .i64 y, .int .i64 1, .int .i64 x, .int .i64 y, .int .i64 0, .int .i64 0, .bool false, .int .i64 0, .bool true]) ∧ Below w.heap.size w w' := by
  go_enter Tryd.func43, Tryd.ntmps43
  go_wp2_with (first | (go_at_call 76; (with_reducible refine (rthere_yes _ _ _ hx0 hx1).mono ?_); rintro e w' ⟨rfl, rfl⟩) | (go_at_call 76; (with_reducible refine (rthere_yes _ _ _ hy0 hy1).mono ?_); rintro e w' ⟨rfl, rfl⟩))
  refine bodyPost_ret (v := .agg #[.int .i64 3, .int .i64 x, .int .i64 y, .int .i64 1, .int .i64 x, .int .i64 y, .int .i64 0, .int .i64 0, .bool false, .int .i64 0, .bool true]) (by simp only [results, Tryd.results43]; go_simp) rfl ⟨rfl, ?_⟩
  exact below_two _ _ _

set_option maxRecDepth 100000 in
theorem rbegin_3_xno (x y n : Int) (w : World) (hx : ¬ (0 ≤ x ∧ x < n)) :
    Calls Tryd.prog 43 #[.agg #[.int .i64 3, .int .i64 x, .int .i64 y], .int .i64 n] w fun e w' => e = .returned (.agg #[.int .i64 0, .int .i64 0, .int .i64 0, .int .i64 0, .int .i64 0, .int .i64 0, .int .i64 0, .int .i64 0, .bool false, .int .i64 0, .bool false]) ∧ Below w.heap.size w w' := by
  have HX := Lib.hid hx
  clear hx
  go_enter Tryd.func43, Tryd.ntmps43
  go_wp2_with (first | (go_at_call 76; (with_reducible refine (rthere_no _ _ _ HX.out).mono ?_); rintro e w' ⟨rfl, rfl⟩))
  refine bodyPost_ret (v := .agg #[.int .i64 0, .int .i64 0, .int .i64 0, .int .i64 0, .int .i64 0, .int .i64 0, .int .i64 0, .int .i64 0, .bool false, .int .i64 0, .bool false]) (by simp only [results, Tryd.results43]; go_simp) rfl ⟨rfl, ?_⟩
  exact below_two _ _ _

set_option maxRecDepth 100000 in
theorem rbegin_3_yno (x y n : Int) (w : World) (hx0 : 0 ≤ x) (hx1 : x < n) (hy : ¬ (0 ≤ y ∧ y < n)) :
    Calls Tryd.prog 43 #[.agg #[.int .i64 3, .int .i64 x, .int .i64 y], .int .i64 n] w fun e w' => e = .returned (.agg #[.int .i64 0, .int .i64 0, .int .i64 0, .int .i64 0, .int .i64 0, .int .i64 0, .int .i64 0, .int .i64 0, .bool false, .int .i64 0, .bool false]) ∧ Below w.heap.size w w' := by
  have HY := Lib.hid hy
  clear hy
  go_enter Tryd.func43, Tryd.ntmps43
  go_wp2_with (first | (go_at_call 76; (with_reducible refine (rthere_yes _ _ _ hx0 hx1).mono ?_); rintro e w' ⟨rfl, rfl⟩) | (go_at_call 76; (with_reducible refine (rthere_no _ _ _ HY.out).mono ?_); rintro e w' ⟨rfl, rfl⟩))
  refine bodyPost_ret (v := .agg #[.int .i64 0, .int .i64 0, .int .i64 0, .int .i64 0, .int .i64 0, .int .i64 0, .int .i64 0, .int .i64 0, .bool false, .int .i64 0, .bool false]) (by simp only [results, Tryd.results43]; go_simp) rfl ⟨rfl, ?_⟩
  exact below_two _ _ _

set_option maxRecDepth 100000 in
theorem rbegin_lt (k x y n : Int) (w : World) (hk : k < 1) :
    Calls Tryd.prog 43 #[.agg #[.int .i64 k, .int .i64 x, .int .i64 y], .int .i64 n] w fun e w' => e = .returned (.agg #[.int .i64 0, .int .i64 0, .int .i64 0, .int .i64 0, .int .i64 0, .int .i64 0, .int .i64 0, .int .i64 0, .bool false, .int .i64 0, .bool false]) ∧ Below w.heap.size w w' := by
  go_enter Tryd.func43, Tryd.ntmps43
  go_wp2_with fail
  refine bodyPost_ret (v := .agg #[.int .i64 0, .int .i64 0, .int .i64 0, .int .i64 0, .int .i64 0, .int .i64 0, .int .i64 0, .int .i64 0, .bool false, .int .i64 0, .bool false]) (by simp only [results, Tryd.results43]; go_simp) rfl ⟨rfl, ?_⟩
  exact below_two _ _ _

set_option maxRecDepth 100000 in
theorem rbegin_gt (k x y n : Int) (w : World) (hk : ¬ k < 1) (hk2 : 3 < k) :
    Calls Tryd.prog 43 #[.agg #[.int .i64 k, .int .i64 x, .int .i64 y], .int .i64 n] w fun e w' => e = .returned (.agg #[.int .i64 0, .int .i64 0, .int .i64 0, .int .i64 0, .int .i64 0, .int .i64 0, .int .i64 0, .int .i64 0, .bool false, .int .i64 0, .bool false]) ∧ Below w.heap.size w w' := by
  go_enter Tryd.func43, Tryd.ntmps43
  go_wp2_with fail
  refine bodyPost_ret (v := .agg #[.int .i64 0, .int .i64 0, .int .i64 0, .int .i64 0, .int .i64 0, .int .i64 0, .int .i64 0, .int .i64 0, .bool false, .int .i64 0, .bool false]) (by simp only [results, Tryd.results43]; go_simp) rfl ⟨rfl, ?_⟩
  exact below_two _ _ _


/-- May it begin? -/
def okB (k x y n : Int) : Prop := 1 ≤ k ∧ k ≤ 3 ∧ (0 ≤ x ∧ x < n) ∧ (k ≠ 1 → 0 ≤ y ∧ y < n)
instance (k x y n : Int) : Decidable (okB k x y n) := by unfold okB; infer_instance
/-- What Begin tells. -/
def begT (k x y n : Int) : Value := if okB k x y n then .agg #[.int .i64 k, .int .i64 x, .int .i64 y, .int .i64 1, .int .i64 x, .int .i64 y, .int .i64 0, .int .i64 0, .bool false, .int .i64 0] else .agg #[.int .i64 0, .int .i64 0, .int .i64 0, .int .i64 0, .int .i64 0, .int .i64 0, .int .i64 0, .int .i64 0, .bool false, .int .i64 0]

theorem begT_yes {k x y n : Int} (h : okB k x y n) : begT k x y n = .agg #[.int .i64 k, .int .i64 x, .int .i64 y, .int .i64 1, .int .i64 x, .int .i64 y, .int .i64 0, .int .i64 0, .bool false, .int .i64 0] := if_pos h
theorem begT_no {k x y n : Int} (h : ¬ okB k x y n) : begT k x y n = .agg #[.int .i64 0, .int .i64 0, .int .i64 0, .int .i64 0, .int .i64 0, .int .i64 0, .int .i64 0, .int .i64 0, .bool false, .int .i64 0] := if_neg h

theorem begin_any (k x y n : Int) (w : World) :
    Calls Tryd.prog 95 #[.agg #[.int .i64 k, .int .i64 x, .int .i64 y], .int .i64 n] w fun e w' => e = .returned (.tuple #[begT k x y n, .bool (decide (okB k x y n))]) ∧ Below w.heap.size w w' := by
  by_cases h : okB k x y n
  · rw [begT_yes h, decide_eq_true h]
    obtain ⟨h1, h2, h3, h4⟩ := h
    have hk : k = 1 ∨ k = 2 ∨ k = 3 := by omega
    rcases hk with rfl | rfl | rfl
    · exact begin_1_yes x y n w h3.1 h3.2
    · exact begin_2_yes x y n w h3.1 h3.2 (h4 (by omega)).1 (h4 (by omega)).2
    · exact begin_3_yes x y n w h3.1 h3.2 (h4 (by omega)).1 (h4 (by omega)).2
  · rw [begT_no h, decide_eq_false h]
    by_cases h1 : k = 1
    · subst h1
      exact begin_1_xno x y n w fun hx => h ⟨by omega, by omega, hx, by omega⟩
    · by_cases h2 : k = 2
      · subst h2
        by_cases hx : 0 ≤ x ∧ x < n
        · exact begin_2_yno x y n w hx.1 hx.2 fun hy => h ⟨by omega, by omega, hx, fun _ => hy⟩
        · exact begin_2_xno x y n w hx
      · by_cases h3 : k = 3
        · subst h3
          by_cases hx : 0 ≤ x ∧ x < n
          · exact begin_3_yno x y n w hx.1 hx.2 fun hy => h ⟨by omega, by omega, hx, fun _ => hy⟩
          · exact begin_3_xno x y n w hx
        · exact begin_bad k x y n w (by simpa using h1) (by simpa using h2) (by simpa using h3)

/-- What the document's Begin tells. -/
def begR (k x y n : Int) : Value := if okB k x y n then .agg #[.int .i64 k, .int .i64 x, .int .i64 y, .int .i64 1, .int .i64 x, .int .i64 y, .int .i64 0, .int .i64 0, .bool false, .int .i64 0, .bool true] else .agg #[.int .i64 0, .int .i64 0, .int .i64 0, .int .i64 0, .int .i64 0, .int .i64 0, .int .i64 0, .int .i64 0, .bool false, .int .i64 0, .bool false]
theorem begR_yes {k x y n : Int} (h : okB k x y n) : begR k x y n = .agg #[.int .i64 k, .int .i64 x, .int .i64 y, .int .i64 1, .int .i64 x, .int .i64 y, .int .i64 0, .int .i64 0, .bool false, .int .i64 0, .bool true] := if_pos h
theorem begR_no {k x y n : Int} (h : ¬ okB k x y n) : begR k x y n = .agg #[.int .i64 0, .int .i64 0, .int .i64 0, .int .i64 0, .int .i64 0, .int .i64 0, .int .i64 0, .int .i64 0, .bool false, .int .i64 0, .bool false] := if_neg h

theorem rbegin_any (k x y n : Int) (w : World) :
    Calls Tryd.prog 43 #[.agg #[.int .i64 k, .int .i64 x, .int .i64 y], .int .i64 n] w fun e w' => e = .returned (begR k x y n) ∧ Below w.heap.size w w' := by
  by_cases h : okB k x y n
  · rw [begR_yes h]
    obtain ⟨h1, h2, h3, h4⟩ := h
    have hk : k = 1 ∨ k = 2 ∨ k = 3 := by omega
    rcases hk with rfl | rfl | rfl
    · exact rbegin_1_yes x y n w h3.1 h3.2
    · exact rbegin_2_yes x y n w h3.1 h3.2 (h4 (by omega)).1 (h4 (by omega)).2
    · exact rbegin_3_yes x y n w h3.1 h3.2 (h4 (by omega)).1 (h4 (by omega)).2
  · rw [begR_no h]
    by_cases h1 : k = 1
    · subst h1
      exact rbegin_1_xno x y n w fun hx => h ⟨by omega, by omega, hx, by omega⟩
    · by_cases h2 : k = 2
      · subst h2
        by_cases hx : 0 ≤ x ∧ x < n
        · exact rbegin_2_yno x y n w hx.1 hx.2 fun hy => h ⟨by omega, by omega, hx, fun _ => hy⟩
        · exact rbegin_2_xno x y n w hx
      · by_cases h3 : k = 3
        · subst h3
          by_cases hx : 0 ≤ x ∧ x < n
          · exact rbegin_3_yno x y n w hx.1 hx.2 fun hy => h ⟨by omega, by omega, hx, fun _ => hy⟩
          · exact rbegin_3_xno x y n w hx
        · by_cases h4 : k < 1
          · exact rbegin_lt k x y n w h4
          · exact rbegin_gt k x y n w h4 (by omega)

end Go.Proofs.YtpfcpeljfgmjgaaDoor

namespace Go.Proofs.YtpfcpeljfgmjgaaDoor
open Go.RowKit
set_option linter.unusedVariables false

theorem swap_yes (g la ca : Nat) (up : List Nat) (at' was now : Nat) (w : World) (ho : Own w g up) (hl : up.length = la) (hx : at' < la) (he : el up at' = was) (hm : la ≤ 1000000) :
    Calls Tryd.prog 78 #[.slice (some ⟨g, 0, none⟩) la ca, .int .i64 (at' : Int), .int .i64 (was : Int), .int .i64 (now : Int)] w fun e w' => e = .returned (.bool true) ∧ w.setCell ⟨g, at', none⟩ (.int .i64 (now : Int)) = w' := by
  obtain ⟨c1, f1⟩ := ho.2 at' (by omega)
  rw [he] at c1
  have hx0 : (0 : Int) ≤ at' := by omega
  have hx1 : (at' : Int) < la := by omega
  have hs : ((was : Int) != (was : Int)) = false := by simp
  have hg := ho.1
  clear ho he
  go_enter Tryd.func78, Tryd.ntmps78
  go_wp2_with fail
  go_ret
  exact ⟨rfl, rfl⟩
theorem swap_no (g la ca : Nat) (up : List Nat) (at' was now : Nat) (w : World) (ho : Own w g up) (hl : up.length = la) (hx : at' < la) (he : el up at' ≠ was) (hm : la ≤ 1000000) :
    Calls Tryd.prog 78 #[.slice (some ⟨g, 0, none⟩) la ca, .int .i64 (at' : Int), .int .i64 (was : Int), .int .i64 (now : Int)] w fun e w' => e = .returned (.bool false) ∧ w = w' := by
  obtain ⟨c1, f1⟩ := ho.2 at' (by omega)
  have hx0 : (0 : Int) ≤ at' := by omega
  have hx1 : (at' : Int) < la := by omega
  have hs : ((el up at' : Int) != (was : Int)) = true := bne_iff_ne.2 (by omega)
  have hg := ho.1
  generalize el up at' = z at *
  clear ho he
  go_enter Tryd.func78, Tryd.ntmps78
  go_wp2_with fail
  go_ret
  exact ⟨rfl, rfl⟩

/-- What follows the first find, the second one: as one contract each, the fields that may change named. -/
def Fst (k u st : Int) (dn : Bool) (res st' : Int) (dn' : Bool) (res' : Int) : Prop := (k = 1 ∧ st' = st ∧ dn' = true ∧ res' = u) ∨ (k ≠ 1 ∧ st' = 4 ∧ dn' = dn ∧ res' = res)
def Snd (k u v st : Int) (dn : Bool) (res st' : Int) (dn' : Bool) (res' : Int) : Prop :=
  (u = v ∧ k = 2 ∧ st' = st ∧ dn' = true ∧ res' = 1) ∨ (u = v ∧ k ≠ 2 ∧ st' = st ∧ dn' = true ∧ res' = 0) ∨ (u ≠ v ∧ k = 2 ∧ st' = 7 ∧ dn' = dn ∧ res' = res) ∨ (u ≠ v ∧ k = 3 ∧ st' = 8 ∧ dn' = dn ∧ res' = res)
theorem first_v (k x y st u v ww r : Int) (dn : Bool) (res : Int) (st' : Int) (dn' : Bool) (res' : Int) (w : World) (h : Fst k u st dn res st' dn' res') :
    Calls Tryd.prog 104 #[.agg #[.int .i64 k, .int .i64 x, .int .i64 y, .int .i64 st, .int .i64 u, .int .i64 v, .int .i64 ww, .int .i64 r, .bool dn, .int .i64 res]] w fun e w' => e = .returned (.agg #[.int .i64 k, .int .i64 x, .int .i64 y, .int .i64 st', .int .i64 u, .int .i64 v, .int .i64 ww, .int .i64 r, .bool dn', .int .i64 res']) ∧ Below w.heap.size w w' := by
  rcases h with ⟨h, rfl, rfl, rfl⟩ | ⟨h, rfl, rfl, rfl⟩
  · exact first_done _ _ _ _ _ _ _ _ _ _ w (by simpa using h)
  · exact first_on _ _ _ _ _ _ _ _ _ _ w (by simpa using h)
theorem rfirst_v (k x y st u v ww r : Int) (dn : Bool) (res : Int) (st' : Int) (dn' : Bool) (res' : Int) (w : World) (h : Fst k u st dn res st' dn' res') :
    Calls Tryd.prog 77 #[.agg #[.int .i64 k, .int .i64 x, .int .i64 y, .int .i64 st, .int .i64 u, .int .i64 v, .int .i64 ww, .int .i64 r, .bool dn, .int .i64 res]] w fun e w' => e = .returned (.agg #[.int .i64 k, .int .i64 x, .int .i64 y, .int .i64 st', .int .i64 u, .int .i64 v, .int .i64 ww, .int .i64 r, .bool dn', .int .i64 res']) ∧ Below w.heap.size w w' := by
  rcases h with ⟨h, rfl, rfl, rfl⟩ | ⟨h, rfl, rfl, rfl⟩
  · exact rfirst_done _ _ _ _ _ _ _ _ _ _ w (by simpa using h)
  · exact rfirst_on _ _ _ _ _ _ _ _ _ _ w (by simpa using h)
theorem second_v (k x y st u v ww r : Int) (dn : Bool) (res : Int) (st' : Int) (dn' : Bool) (res' : Int) (w : World) (h : Snd k u v st dn res st' dn' res') :
    Calls Tryd.prog 105 #[.agg #[.int .i64 k, .int .i64 x, .int .i64 y, .int .i64 st, .int .i64 u, .int .i64 v, .int .i64 ww, .int .i64 r, .bool dn, .int .i64 res]] w fun e w' => e = .returned (.agg #[.int .i64 k, .int .i64 x, .int .i64 y, .int .i64 st', .int .i64 u, .int .i64 v, .int .i64 ww, .int .i64 r, .bool dn', .int .i64 res']) ∧ Below w.heap.size w w' := by
  rcases h with ⟨h1, h2, rfl, rfl, rfl⟩ | ⟨h1, h2, rfl, rfl, rfl⟩ | ⟨h1, h2, rfl, rfl, rfl⟩ | ⟨h1, h2, rfl, rfl, rfl⟩
  · exact second_done1 _ _ _ _ _ _ _ _ _ _ w (by simpa using h1) (by simpa using h2)
  · exact second_done0 _ _ _ _ _ _ _ _ _ _ w (by simpa using h1) (by simpa using h2)
  · exact second_on7 _ _ _ _ _ _ _ _ _ _ w (by simpa using h1) (by simpa using h2)
  · exact second_on8 _ _ _ _ _ _ _ _ _ _ w (by simpa using h1) (by simp; omega)
theorem rsecond_v (k x y st u v ww r : Int) (dn : Bool) (res : Int) (st' : Int) (dn' : Bool) (res' : Int) (w : World) (h : Snd k u v st dn res st' dn' res') :
    Calls Tryd.prog 79 #[.agg #[.int .i64 k, .int .i64 x, .int .i64 y, .int .i64 st, .int .i64 u, .int .i64 v, .int .i64 ww, .int .i64 r, .bool dn, .int .i64 res]] w fun e w' => e = .returned (.agg #[.int .i64 k, .int .i64 x, .int .i64 y, .int .i64 st', .int .i64 u, .int .i64 v, .int .i64 ww, .int .i64 r, .bool dn', .int .i64 res']) ∧ Below w.heap.size w w' := by
  rcases h with ⟨h1, h2, rfl, rfl, rfl⟩ | ⟨h1, h2, rfl, rfl, rfl⟩ | ⟨h1, h2, rfl, rfl, rfl⟩ | ⟨h1, h2, rfl, rfl, rfl⟩
  · exact rsecond_done1 _ _ _ _ _ _ _ _ _ _ w (by simpa using h1) (by simpa using h2)
  · exact rsecond_done0 _ _ _ _ _ _ _ _ _ _ w (by simpa using h1) (by simpa using h2)
  · exact rsecond_on7 _ _ _ _ _ _ _ _ _ _ w (by simpa using h1) (by simp; omega)
  · exact rsecond_on8 _ _ _ _ _ _ _ _ _ _ w (by simpa using h1) (by simpa using h2)

section
variable {w w' : World} {b : Nat} {t : TypeId} {c0 c1 c2 c3 c4 c5 c6 c7 c8 c9 c10 : Value}
theorem Box.eleven (h : Box w b t [c0, c1, c2, c3, c4, c5, c6, c7, c8, c9, c10]) : w.cell? ⟨b, 0, none⟩ = some c0 ∧ w.cell? ⟨b, 1, none⟩ = some c1 ∧ w.cell? ⟨b, 2, none⟩ = some c2 ∧ w.cell? ⟨b, 3, none⟩ = some c3 ∧ w.cell? ⟨b, 4, none⟩ = some c4 ∧ w.cell? ⟨b, 5, none⟩ = some c5 ∧ w.cell? ⟨b, 6, none⟩ = some c6 ∧ w.cell? ⟨b, 7, none⟩ = some c7 ∧ w.cell? ⟨b, 8, none⟩ = some c8 ∧ w.cell? ⟨b, 9, none⟩ = some c9 ∧ w.cell? ⟨b, 10, none⟩ = some c10 :=
  ⟨h.cell 0, h.cell 1, h.cell 2, h.cell 3, h.cell 4, h.cell 5, h.cell 6, h.cell 7, h.cell 8, h.cell 9, h.cell 10⟩
theorem Box.elevenf (h : Box w b t [c0, c1, c2, c3, c4, c5, c6, c7, c8, c9, c10]) : w.frozen? ⟨b, 0, none⟩ = false ∧ w.frozen? ⟨b, 1, none⟩ = false ∧ w.frozen? ⟨b, 2, none⟩ = false ∧ w.frozen? ⟨b, 3, none⟩ = false ∧ w.frozen? ⟨b, 4, none⟩ = false ∧ w.frozen? ⟨b, 5, none⟩ = false ∧ w.frozen? ⟨b, 6, none⟩ = false ∧ w.frozen? ⟨b, 7, none⟩ = false ∧ w.frozen? ⟨b, 8, none⟩ = false ∧ w.frozen? ⟨b, 9, none⟩ = false ∧ w.frozen? ⟨b, 10, none⟩ = false :=
  ⟨h.frozen 0, h.frozen 1, h.frozen 2, h.frozen 3, h.frozen 4, h.frozen 5, h.frozen 6, h.frozen 7, h.frozen 8, h.frozen 9, h.frozen 10⟩
end

end Go.Proofs.YtpfcpeljfgmjgaaDoor

namespace Go.Proofs.YtpfcpeljfgmjgaaDoor
open Go.RowKit
set_option linter.unusedVariables false
set_option linter.unusedSimpArgs false

theorem made_row (w : World) (o1 o2 : Obj) : (((w.alloc o1).alloc o2).alloc (.cells #[] 3)).ownsRow (w.heap.size + 2) 3 1 (.slice (some ⟨w.heap.size + 1 + 1, 0, none⟩) 0 0) 0 [] := by
  have := World.ownsRow_made (base := w.heap.size + 2) (e := 3) (size := 1) ((w.alloc o1).alloc o2) #[] 0 (by simp) (by decide) rfl
  simpa using this
theorem three_news (w : World) (o1 o2 o3 : Obj) {lo hi : Nat} {bb off la : Nat} {up : List Nat} (hp : RowN lo hi w (some ⟨bb, off, none⟩) la up) (hhi : hi ≤ w.heap.size) : ∀ j u, (intsOf up)[j]? = some u → (((w.alloc o1).alloc o2).alloc o3).cell? ((⟨bb, off, none⟩ : Addr).add j) = some u :=
  (((hp.alloc hhi o1).alloc (by simp; omega) o2).alloc (by simp; omega) o3).news

/-- The world behind the cells' copying: the task's own block, the result's, the copy. -/
theorem after_append {w w1 : World} {t1 t2 : TypeId} {cs1 cs2 : List Value} {v7 : Value} {la : Nat} {up : List Nat} (hgr : (((w.alloc (.cells cs1.toArray t1)).alloc (.cells cs2.toArray t2)).alloc (.cells #[] 3)).grownBy w1 (some (w.heap.size + 1 + 1)))
    (hown : w1.ownsRow (w.heap.size + 2) 3 1 v7 la (intsOf up)) (hl : up.length = la) (hn : 0 < la) :
    ∃ g c, v7 = .slice (some ⟨g, 0, none⟩) la c ∧ w.heap.size + 2 ≤ g ∧ Own w1 g up ∧ Box w1 w.heap.size t1 cs1 ∧ Box w1 (w.heap.size + 1) t2 cs2 ∧ Below w.heap.size w w1 := by
  obtain ⟨g, c, h1, h2, h3⟩ := own_of_owns (p := up) (n := la) hown hl hn
  have B1 : Box (((w.alloc (.cells cs1.toArray t1)).alloc (.cells cs2.toArray t2)).alloc (.cells #[] 3)) w.heap.size t1 cs1 := ((Box.new _ _ _).alloc _).alloc _
  have B2 : Box (((w.alloc (.cells cs1.toArray t1)).alloc (.cells cs2.toArray t2)).alloc (.cells #[] 3)) (w.heap.size + 1) t2 cs2 := by
    have := (Box.new (w.alloc (.cells cs1.toArray t1)) t2 cs2).alloc (.cells #[] 3)
    rwa [World.size_alloc] at this
  exact ⟨g, c, h1, h2, h3, B1.grown hgr (by simp; omega), B2.grown hgr (by simp), ((below_two _ _ _).alloc (by simp; omega) _).grown hgr (by simp; omega) (by rintro k hk; cases hk; omega)⟩

end Go.Proofs.YtpfcpeljfgmjgaaDoor
