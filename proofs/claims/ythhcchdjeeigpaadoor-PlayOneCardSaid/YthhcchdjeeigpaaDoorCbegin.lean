/- Contracts of Begin of package cuf and of the document. -/
import Derived.Test.YthhcchdjeeigpaaDoorCtask
namespace Go.Proofs.YthhcchdjeeigpaaDoor
open Go.RowKit
set_option linter.unusedVariables false

/-- A task, its fields integers. -/
def tkv (k x y st u v ww r : Int) (dn : Bool) (res : Int) : Value := .agg #[.int .i64 k, .int .i64 x, .int .i64 y, .int .i64 st, .int .i64 u, .int .i64 v, .int .i64 ww, .int .i64 r, .bool dn, .int .i64 res]

set_option maxRecDepth 100000 in
theorem begin_1_yes (x y n : Int) (w : World) (hx0 : 0 ≤ x) (hx1 : x < n) :
    Calls Tryd.prog 72 #[.agg #[.int .i64 1, .int .i64 x, .int .i64 y], .int .i64 n] w fun e w' => e = .returned (.tuple #[.agg #[.int .i64 1, .int .i64 x, .int .i64 y, .int .i64 1, .int .i64 x, .int .i64 y, .int .i64 0, .int .i64 0, .bool false, .int .i64 0], .bool true]) ∧ Below w.heap.size w w' := by
  go_enter Tryd.func72, Tryd.ntmps72
  go_wp2_with (first | (go_at_call 87; (with_reducible refine (there_yes _ _ _ hx0 hx1).mono ?_); rintro e w' ⟨rfl, rfl⟩))
  refine bodyPost_ret (v := .tuple #[.agg #[.int .i64 1, .int .i64 x, .int .i64 y, .int .i64 1, .int .i64 x, .int .i64 y, .int .i64 0, .int .i64 0, .bool false, .int .i64 0], .bool true]) (by simp only [results, Tryd.results72]; go_simp) rfl ⟨rfl, ?_⟩
  exact below_two _ _ _

set_option maxRecDepth 100000 in
theorem begin_1_xno (x y n : Int) (w : World) (hx : ¬ (0 ≤ x ∧ x < n)) :
    Calls Tryd.prog 72 #[.agg #[.int .i64 1, .int .i64 x, .int .i64 y], .int .i64 n] w fun e w' => e = .returned (.tuple #[.agg #[.int .i64 0, .int .i64 0, .int .i64 0, .int .i64 0, .int .i64 0, .int .i64 0, .int .i64 0, .int .i64 0, .bool false, .int .i64 0], .bool false]) ∧ Below w.heap.size w w' := by
  have HX := Lib.hid hx
  clear hx
  go_enter Tryd.func72, Tryd.ntmps72
  go_wp2_with (first | (go_at_call 87; (with_reducible refine (there_no _ _ _ HX.out).mono ?_); rintro e w' ⟨rfl, rfl⟩))
  refine bodyPost_ret (v := .tuple #[.agg #[.int .i64 0, .int .i64 0, .int .i64 0, .int .i64 0, .int .i64 0, .int .i64 0, .int .i64 0, .int .i64 0, .bool false, .int .i64 0], .bool false]) (by simp only [results, Tryd.results72]; go_simp) rfl ⟨rfl, ?_⟩
  exact below_two _ _ _

set_option maxRecDepth 100000 in
theorem begin_2_yes (x y n : Int) (w : World) (hx0 : 0 ≤ x) (hx1 : x < n) (hy0 : 0 ≤ y) (hy1 : y < n) :
    Calls Tryd.prog 72 #[.agg #[.int .i64 2, .int .i64 x, .int .i64 y], .int .i64 n] w fun e w' => e = .returned (.tuple #[.agg #[.int .i64 2, .int .i64 x, .int .i64 y, .int .i64 1, .int .i64 x, .int .i64 y, .int .i64 0, .int .i64 0, .bool false, .int .i64 0], .bool true]) ∧ Below w.heap.size w w' := by
  go_enter Tryd.func72, Tryd.ntmps72
  go_wp2_with (first | (go_at_call 87; (with_reducible refine (there_yes _ _ _ hx0 hx1).mono ?_); rintro e w' ⟨rfl, rfl⟩) | (go_at_call 87; (with_reducible refine (there_yes _ _ _ hy0 hy1).mono ?_); rintro e w' ⟨rfl, rfl⟩))
  refine bodyPost_ret (v := .tuple #[.agg #[.int .i64 2, .int .i64 x, .int .i64 y, .int .i64 1, .int .i64 x, .int .i64 y, .int .i64 0, .int .i64 0, .bool false, .int .i64 0], .bool true]) (by simp only [results, Tryd.results72]; go_simp) rfl ⟨rfl, ?_⟩
  exact below_two _ _ _

set_option maxRecDepth 100000 in
theorem begin_2_xno (x y n : Int) (w : World) (hx : ¬ (0 ≤ x ∧ x < n)) :
    Calls Tryd.prog 72 #[.agg #[.int .i64 2, .int .i64 x, .int .i64 y], .int .i64 n] w fun e w' => e = .returned (.tuple #[.agg #[.int .i64 0, .int .i64 0, .int .i64 0, .int .i64 0, .int .i64 0, .int .i64 0, .int .i64 0, .int .i64 0, .bool false, .int .i64 0], .bool false]) ∧ Below w.heap.size w w' := by
  have HX := Lib.hid hx
  clear hx
  go_enter Tryd.func72, Tryd.ntmps72
  go_wp2_with (first | (go_at_call 87; (with_reducible refine (there_no _ _ _ HX.out).mono ?_); rintro e w' ⟨rfl, rfl⟩))
  refine bodyPost_ret (v := .tuple #[.agg #[.int .i64 0, .int .i64 0, .int .i64 0, .int .i64 0, .int .i64 0, .int .i64 0, .int .i64 0, .int .i64 0, .bool false, .int .i64 0], .bool false]) (by simp only [results, Tryd.results72]; go_simp) rfl ⟨rfl, ?_⟩
  exact below_two _ _ _

set_option maxRecDepth 100000 in
theorem begin_2_yno (x y n : Int) (w : World) (hx0 : 0 ≤ x) (hx1 : x < n) (hy : ¬ (0 ≤ y ∧ y < n)) :
    Calls Tryd.prog 72 #[.agg #[.int .i64 2, .int .i64 x, .int .i64 y], .int .i64 n] w fun e w' => e = .returned (.tuple #[.agg #[.int .i64 0, .int .i64 0, .int .i64 0, .int .i64 0, .int .i64 0, .int .i64 0, .int .i64 0, .int .i64 0, .bool false, .int .i64 0], .bool false]) ∧ Below w.heap.size w w' := by
  have HY := Lib.hid hy
  clear hy
  go_enter Tryd.func72, Tryd.ntmps72
  go_wp2_with (first | (go_at_call 87; (with_reducible refine (there_yes _ _ _ hx0 hx1).mono ?_); rintro e w' ⟨rfl, rfl⟩) | (go_at_call 87; (with_reducible refine (there_no _ _ _ HY.out).mono ?_); rintro e w' ⟨rfl, rfl⟩))
  refine bodyPost_ret (v := .tuple #[.agg #[.int .i64 0, .int .i64 0, .int .i64 0, .int .i64 0, .int .i64 0, .int .i64 0, .int .i64 0, .int .i64 0, .bool false, .int .i64 0], .bool false]) (by simp only [results, Tryd.results72]; go_simp) rfl ⟨rfl, ?_⟩
  exact below_two _ _ _

set_option maxRecDepth 100000 in
theorem begin_3_yes (x y n : Int) (w : World) (hx0 : 0 ≤ x) (hx1 : x < n) (hy0 : 0 ≤ y) (hy1 : y < n) :
    Calls Tryd.prog 72 #[.agg #[.int .i64 3, .int .i64 x, .int .i64 y], .int .i64 n] w fun e w' => e = .returned (.tuple #[.agg #[.int .i64 3, .int .i64 x, .int .i64 y, .int .i64 1, .int .i64 x, .int .i64 y, .int .i64 0, .int .i64 0, .bool false, .int .i64 0], .bool true]) ∧ Below w.heap.size w w' := by
  go_enter Tryd.func72, Tryd.ntmps72
  go_wp2_with (first | (go_at_call 87; (with_reducible refine (there_yes _ _ _ hx0 hx1).mono ?_); rintro e w' ⟨rfl, rfl⟩) | (go_at_call 87; (with_reducible refine (there_yes _ _ _ hy0 hy1).mono ?_); rintro e w' ⟨rfl, rfl⟩))
  refine bodyPost_ret (v := .tuple #[.agg #[.int .i64 3, .int .i64 x, .int .i64 y, .int .i64 1, .int .i64 x, .int .i64 y, .int .i64 0, .int .i64 0, .bool false, .int .i64 0], .bool true]) (by simp only [results, Tryd.results72]; go_simp) rfl ⟨rfl, ?_⟩
  exact below_two _ _ _

set_option maxRecDepth 100000 in
theorem begin_3_xno (x y n : Int) (w : World) (hx : ¬ (0 ≤ x ∧ x < n)) :
    Calls Tryd.prog 72 #[.agg #[.int .i64 3, .int .i64 x, .int .i64 y], .int .i64 n] w fun e w' => e = .returned (.tuple #[.agg #[.int .i64 0, .int .i64 0, .int .i64 0, .int .i64 0, .int .i64 0, .int .i64 0, .int .i64 0, .int .i64 0, .bool false, .int .i64 0], .bool false]) ∧ Below w.heap.size w w' := by
  have HX := Lib.hid hx
  clear hx
  go_enter Tryd.func72, Tryd.ntmps72
  go_wp2_with (first | (go_at_call 87; (with_reducible refine (there_no _ _ _ HX.out).mono ?_); rintro e w' ⟨rfl, rfl⟩))
  refine bodyPost_ret (v := .tuple #[.agg #[.int .i64 0, .int .i64 0, .int .i64 0, .int .i64 0, .int .i64 0, .int .i64 0, .int .i64 0, .int .i64 0, .bool false, .int .i64 0], .bool false]) (by simp only [results, Tryd.results72]; go_simp) rfl ⟨rfl, ?_⟩
  exact below_two _ _ _

set_option maxRecDepth 100000 in
theorem begin_3_yno (x y n : Int) (w : World) (hx0 : 0 ≤ x) (hx1 : x < n) (hy : ¬ (0 ≤ y ∧ y < n)) :
    Calls Tryd.prog 72 #[.agg #[.int .i64 3, .int .i64 x, .int .i64 y], .int .i64 n] w fun e w' => e = .returned (.tuple #[.agg #[.int .i64 0, .int .i64 0, .int .i64 0, .int .i64 0, .int .i64 0, .int .i64 0, .int .i64 0, .int .i64 0, .bool false, .int .i64 0], .bool false]) ∧ Below w.heap.size w w' := by
  have HY := Lib.hid hy
  clear hy
  go_enter Tryd.func72, Tryd.ntmps72
  go_wp2_with (first | (go_at_call 87; (with_reducible refine (there_yes _ _ _ hx0 hx1).mono ?_); rintro e w' ⟨rfl, rfl⟩) | (go_at_call 87; (with_reducible refine (there_no _ _ _ HY.out).mono ?_); rintro e w' ⟨rfl, rfl⟩))
  refine bodyPost_ret (v := .tuple #[.agg #[.int .i64 0, .int .i64 0, .int .i64 0, .int .i64 0, .int .i64 0, .int .i64 0, .int .i64 0, .int .i64 0, .bool false, .int .i64 0], .bool false]) (by simp only [results, Tryd.results72]; go_simp) rfl ⟨rfl, ?_⟩
  exact below_two _ _ _

set_option maxRecDepth 100000 in
theorem begin_bad (k x y n : Int) (w : World) (h1 : (k == 1) = false) (h2 : (k == 2) = false) (h3 : (k == 3) = false) :
    Calls Tryd.prog 72 #[.agg #[.int .i64 k, .int .i64 x, .int .i64 y], .int .i64 n] w fun e w' => e = .returned (.tuple #[.agg #[.int .i64 0, .int .i64 0, .int .i64 0, .int .i64 0, .int .i64 0, .int .i64 0, .int .i64 0, .int .i64 0, .bool false, .int .i64 0], .bool false]) ∧ Below w.heap.size w w' := by
  go_enter Tryd.func72, Tryd.ntmps72
  go_wp2_with fail
  refine bodyPost_ret (v := .tuple #[.agg #[.int .i64 0, .int .i64 0, .int .i64 0, .int .i64 0, .int .i64 0, .int .i64 0, .int .i64 0, .int .i64 0, .bool false, .int .i64 0], .bool false]) (by simp only [results, Tryd.results72]; go_simp) rfl ⟨rfl, ?_⟩
  exact below_two _ _ _

set_option maxRecDepth 100000 in
theorem rbegin_1_yes (x y n : Int) (w : World) (hx0 : 0 ≤ x) (hx1 : x < n) :
    Calls Tryd.prog 39 #[.agg #[.int .i64 1, .int .i64 x, .int .i64 y], .int .i64 n] w fun e w' => e = .returned (.agg #[.int .i64 1, .int .i64 x, .int .i64 y, .int .i64 1, .int .i64 x, .int .i64 y, .int .i64 0, .int .i64 0, .bool false, .int .i64 0, .bool true]) ∧ Below w.heap.size w w' := by
  go_enter Tryd.func39, Tryd.ntmps39
  go_wp2_with (first | (go_at_call 44; (with_reducible refine (rthere_yes _ _ _ hx0 hx1).mono ?_); rintro e w' ⟨rfl, rfl⟩))
  refine bodyPost_ret (v := .agg #[.int .i64 1, .int .i64 x, .int .i64 y, .int .i64 1, .int .i64 x, .int .i64 y, .int .i64 0, .int .i64 0, .bool false, .int .i64 0, .bool true]) (by simp only [results, Tryd.results39]; go_simp) rfl ⟨rfl, ?_⟩
  exact below_two _ _ _

set_option maxRecDepth 100000 in
theorem rbegin_1_xno (x y n : Int) (w : World) (hx : ¬ (0 ≤ x ∧ x < n)) :
    Calls Tryd.prog 39 #[.agg #[.int .i64 1, .int .i64 x, .int .i64 y], .int .i64 n] w fun e w' => e = .returned (.agg #[.int .i64 0, .int .i64 0, .int .i64 0, .int .i64 0, .int .i64 0, .int .i64 0, .int .i64 0, .int .i64 0, .bool false, .int .i64 0, .bool false]) ∧ Below w.heap.size w w' := by
  have HX := Lib.hid hx
  clear hx
  go_enter Tryd.func39, Tryd.ntmps39
  go_wp2_with (first | (go_at_call 44; (with_reducible refine (rthere_no _ _ _ HX.out).mono ?_); rintro e w' ⟨rfl, rfl⟩))
  refine bodyPost_ret (v := .agg #[.int .i64 0, .int .i64 0, .int .i64 0, .int .i64 0, .int .i64 0, .int .i64 0, .int .i64 0, .int .i64 0, .bool false, .int .i64 0, .bool false]) (by simp only [results, Tryd.results39]; go_simp) rfl ⟨rfl, ?_⟩
  exact below_two _ _ _

set_option maxRecDepth 100000 in
theorem rbegin_2_yes (x y n : Int) (w : World) (hx0 : 0 ≤ x) (hx1 : x < n) (hy0 : 0 ≤ y) (hy1 : y < n) :
    Calls Tryd.prog 39 #[.agg #[.int .i64 2, .int .i64 x, .int .i64 y], .int .i64 n] w fun e w' => e = .returned (.agg #[.int .i64 2, .int .i64 x, .int .i64 y, .int .i64 1, .int .i64 x, .int .i64 y, .int .i64 0, .int .i64 0, .bool false, .int .i64 0, .bool true]) ∧ Below w.heap.size w w' := by
  go_enter Tryd.func39, Tryd.ntmps39
  go_wp2_with (first | (go_at_call 44; (with_reducible refine (rthere_yes _ _ _ hx0 hx1).mono ?_); rintro e w' ⟨rfl, rfl⟩) | (go_at_call 44; (with_reducible refine (rthere_yes _ _ _ hy0 hy1).mono ?_); rintro e w' ⟨rfl, rfl⟩))
  refine bodyPost_ret (v := .agg #[.int .i64 2, .int .i64 x, .int .i64 y, .int .i64 1, .int .i64 x, .int .i64 y, .int .i64 0, .int .i64 0, .bool false, .int .i64 0, .bool true]) (by simp only [results, Tryd.results39]; go_simp) rfl ⟨rfl, ?_⟩
  exact below_two _ _ _

set_option maxRecDepth 100000 in
theorem rbegin_2_xno (x y n : Int) (w : World) (hx : ¬ (0 ≤ x ∧ x < n)) :
    Calls Tryd.prog 39 #[.agg #[.int .i64 2, .int .i64 x, .int .i64 y], .int .i64 n] w fun e w' => e = .returned (.agg #[.int .i64 0, .int .i64 0, .int .i64 0, .int .i64 0, .int .i64 0, .int .i64 0, .int .i64 0, .int .i64 0, .bool false, .int .i64 0, .bool false]) ∧ Below w.heap.size w w' := by
  have HX := Lib.hid hx
  clear hx
  go_enter Tryd.func39, Tryd.ntmps39
  go_wp2_with (first | (go_at_call 44; (with_reducible refine (rthere_no _ _ _ HX.out).mono ?_); rintro e w' ⟨rfl, rfl⟩))
  refine bodyPost_ret (v := .agg #[.int .i64 0, .int .i64 0, .int .i64 0, .int .i64 0, .int .i64 0, .int .i64 0, .int .i64 0, .int .i64 0, .bool false, .int .i64 0, .bool false]) (by simp only [results, Tryd.results39]; go_simp) rfl ⟨rfl, ?_⟩
  exact below_two _ _ _

set_option maxRecDepth 100000 in
theorem rbegin_2_yno (x y n : Int) (w : World) (hx0 : 0 ≤ x) (hx1 : x < n) (hy : ¬ (0 ≤ y ∧ y < n)) :
    Calls Tryd.prog 39 #[.agg #[.int .i64 2, .int .i64 x, .int .i64 y], .int .i64 n] w fun e w' => e = .returned (.agg #[.int .i64 0, .int .i64 0, .int .i64 0, .int .i64 0, .int .i64 0, .int .i64 0, .int .i64 0, .int .i64 0, .bool false, .int .i64 0, .bool false]) ∧ Below w.heap.size w w' := by
  have HY := Lib.hid hy
  clear hy
  go_enter Tryd.func39, Tryd.ntmps39
  go_wp2_with (first | (go_at_call 44; (with_reducible refine (rthere_yes _ _ _ hx0 hx1).mono ?_); rintro e w' ⟨rfl, rfl⟩) | (go_at_call 44; (with_reducible refine (rthere_no _ _ _ HY.out).mono ?_); rintro e w' ⟨rfl, rfl⟩))
  refine bodyPost_ret (v := .agg #[.int .i64 0, .int .i64 0, .int .i64 0, .int .i64 0, .int .i64 0, .int .i64 0, .int .i64 0, .int .i64 0, .bool false, .int .i64 0, .bool false]) (by simp only [results, Tryd.results39]; go_simp) rfl ⟨rfl, ?_⟩
  exact below_two _ _ _

set_option maxRecDepth 100000 in
theorem rbegin_3_yes (x y n : Int) (w : World) (hx0 : 0 ≤ x) (hx1 : x < n) (hy0 : 0 ≤ y) (hy1 : y < n) :
    Calls Tryd.prog 39 #[.agg #[.int .i64 3, .int .i64 x, .int .i64 y], .int .i64 n] w fun e w' => e = .returned (.agg #[.int .i64 3, .int .i64 x, .int .i64 y, .int .i64 1, .int .i64 x, .int .i64 y, .int .i64 0, .int .i64 0, .bool false, .int .i64 0, .bool true]) ∧ Below w.heap.size w w' := by
  go_enter Tryd.func39, Tryd.ntmps39
  go_wp2_with (first | (go_at_call 44; (with_reducible refine (rthere_yes _ _ _ hx0 hx1).mono ?_); rintro e w' ⟨rfl, rfl⟩) | (go_at_call 44; (with_reducible refine (rthere_yes _ _ _ hy0 hy1).mono ?_); rintro e w' ⟨rfl, rfl⟩))
  refine bodyPost_ret (v := .agg #[.int .i64 3, .int .i64 x, .int .i64 y, .int .i64 1, .int .i64 x, .int .i64 y, .int .i64 0, .int .i64 0, .bool false, .int .i64 0, .bool true]) (by simp only [results, Tryd.results39]; go_simp) rfl ⟨rfl, ?_⟩
  exact below_two _ _ _

set_option maxRecDepth 100000 in
theorem rbegin_3_xno (x y n : Int) (w : World) (hx : ¬ (0 ≤ x ∧ x < n)) :
    Calls Tryd.prog 39 #[.agg #[.int .i64 3, .int .i64 x, .int .i64 y], .int .i64 n] w fun e w' => e = .returned (.agg #[.int .i64 0, .int .i64 0, .int .i64 0, .int .i64 0, .int .i64 0, .int .i64 0, .int .i64 0, .int .i64 0, .bool false, .int .i64 0, .bool false]) ∧ Below w.heap.size w w' := by
  have HX := Lib.hid hx
  clear hx
  go_enter Tryd.func39, Tryd.ntmps39
  go_wp2_with (first | (go_at_call 44; (with_reducible refine (rthere_no _ _ _ HX.out).mono ?_); rintro e w' ⟨rfl, rfl⟩))
  refine bodyPost_ret (v := .agg #[.int .i64 0, .int .i64 0, .int .i64 0, .int .i64 0, .int .i64 0, .int .i64 0, .int .i64 0, .int .i64 0, .bool false, .int .i64 0, .bool false]) (by simp only [results, Tryd.results39]; go_simp) rfl ⟨rfl, ?_⟩
  exact below_two _ _ _

set_option maxRecDepth 100000 in
theorem rbegin_3_yno (x y n : Int) (w : World) (hx0 : 0 ≤ x) (hx1 : x < n) (hy : ¬ (0 ≤ y ∧ y < n)) :
    Calls Tryd.prog 39 #[.agg #[.int .i64 3, .int .i64 x, .int .i64 y], .int .i64 n] w fun e w' => e = .returned (.agg #[.int .i64 0, .int .i64 0, .int .i64 0, .int .i64 0, .int .i64 0, .int .i64 0, .int .i64 0, .int .i64 0, .bool false, .int .i64 0, .bool false]) ∧ Below w.heap.size w w' := by
  have HY := Lib.hid hy
  clear hy
  go_enter Tryd.func39, Tryd.ntmps39
  go_wp2_with (first | (go_at_call 44; (with_reducible refine (rthere_yes _ _ _ hx0 hx1).mono ?_); rintro e w' ⟨rfl, rfl⟩) | (go_at_call 44; (with_reducible refine (rthere_no _ _ _ HY.out).mono ?_); rintro e w' ⟨rfl, rfl⟩))
  refine bodyPost_ret (v := .agg #[.int .i64 0, .int .i64 0, .int .i64 0, .int .i64 0, .int .i64 0, .int .i64 0, .int .i64 0, .int .i64 0, .bool false, .int .i64 0, .bool false]) (by simp only [results, Tryd.results39]; go_simp) rfl ⟨rfl, ?_⟩
  exact below_two _ _ _

set_option maxRecDepth 100000 in
theorem rbegin_lt (k x y n : Int) (w : World) (hk : k < 1) :
    Calls Tryd.prog 39 #[.agg #[.int .i64 k, .int .i64 x, .int .i64 y], .int .i64 n] w fun e w' => e = .returned (.agg #[.int .i64 0, .int .i64 0, .int .i64 0, .int .i64 0, .int .i64 0, .int .i64 0, .int .i64 0, .int .i64 0, .bool false, .int .i64 0, .bool false]) ∧ Below w.heap.size w w' := by
  go_enter Tryd.func39, Tryd.ntmps39
  go_wp2_with fail
  refine bodyPost_ret (v := .agg #[.int .i64 0, .int .i64 0, .int .i64 0, .int .i64 0, .int .i64 0, .int .i64 0, .int .i64 0, .int .i64 0, .bool false, .int .i64 0, .bool false]) (by simp only [results, Tryd.results39]; go_simp) rfl ⟨rfl, ?_⟩
  exact below_two _ _ _

set_option maxRecDepth 100000 in
theorem rbegin_gt (k x y n : Int) (w : World) (hk : ¬ k < 1) (hk2 : 3 < k) :
    Calls Tryd.prog 39 #[.agg #[.int .i64 k, .int .i64 x, .int .i64 y], .int .i64 n] w fun e w' => e = .returned (.agg #[.int .i64 0, .int .i64 0, .int .i64 0, .int .i64 0, .int .i64 0, .int .i64 0, .int .i64 0, .int .i64 0, .bool false, .int .i64 0, .bool false]) ∧ Below w.heap.size w w' := by
  go_enter Tryd.func39, Tryd.ntmps39
  go_wp2_with fail
  refine bodyPost_ret (v := .agg #[.int .i64 0, .int .i64 0, .int .i64 0, .int .i64 0, .int .i64 0, .int .i64 0, .int .i64 0, .int .i64 0, .bool false, .int .i64 0, .bool false]) (by simp only [results, Tryd.results39]; go_simp) rfl ⟨rfl, ?_⟩
  exact below_two _ _ _


/-- May it begin? -/
def okB (k x y n : Int) : Prop := 1 ≤ k ∧ k ≤ 3 ∧ (0 ≤ x ∧ x < n) ∧ (k ≠ 1 → 0 ≤ y ∧ y < n)
instance (k x y n : Int) : Decidable (okB k x y n) := by unfold okB; infer_instance
/-- What Begin tells. -/
def begT (k x y n : Int) : Value := if okB k x y n then .agg #[.int .i64 k, .int .i64 x, .int .i64 y, .int .i64 1, .int .i64 x, .int .i64 y, .int .i64 0, .int .i64 0, .bool false, .int .i64 0] else .agg #[.int .i64 0, .int .i64 0, .int .i64 0, .int .i64 0, .int .i64 0, .int .i64 0, .int .i64 0, .int .i64 0, .bool false, .int .i64 0]

theorem begT_yes {k x y n : Int} (h : okB k x y n) : begT k x y n = .agg #[.int .i64 k, .int .i64 x, .int .i64 y, .int .i64 1, .int .i64 x, .int .i64 y, .int .i64 0, .int .i64 0, .bool false, .int .i64 0] := if_pos h
theorem begT_no {k x y n : Int} (h : ¬ okB k x y n) : begT k x y n = .agg #[.int .i64 0, .int .i64 0, .int .i64 0, .int .i64 0, .int .i64 0, .int .i64 0, .int .i64 0, .int .i64 0, .bool false, .int .i64 0] := if_neg h

theorem begin_any (k x y n : Int) (w : World) :
    Calls Tryd.prog 72 #[.agg #[.int .i64 k, .int .i64 x, .int .i64 y], .int .i64 n] w fun e w' => e = .returned (.tuple #[begT k x y n, .bool (decide (okB k x y n))]) ∧ Below w.heap.size w w' := by
  by_cases h : okB k x y n
  · rw [begT_yes h, decide_eq_true h]
    obtain ⟨h1, h2, h3, h4⟩ := h
    have hk : k = 1 ∨ k = 2 ∨ k = 3 := by omega
    rcases hk with rfl | rfl | rfl
    · exact begin_1_yes x y n w h3.1 h3.2
    · exact begin_2_yes x y n w h3.1 h3.2 (h4 (by omega)).1 (h4 (by omega)).2
    · exact begin_3_yes x y n w h3.1 h3.2 (h4 (by omega)).1 (h4 (by omega)).2
  · rw [begT_no h, decide_eq_false h]
    by_cases h1 : k = 1
    · subst h1
      exact begin_1_xno x y n w fun hx => h ⟨by omega, by omega, hx, by omega⟩
    · by_cases h2 : k = 2
      · subst h2
        by_cases hx : 0 ≤ x ∧ x < n
        · exact begin_2_yno x y n w hx.1 hx.2 fun hy => h ⟨by omega, by omega, hx, fun _ => hy⟩
        · exact begin_2_xno x y n w hx
      · by_cases h3 : k = 3
        · subst h3
          by_cases hx : 0 ≤ x ∧ x < n
          · exact begin_3_yno x y n w hx.1 hx.2 fun hy => h ⟨by omega, by omega, hx, fun _ => hy⟩
          · exact begin_3_xno x y n w hx
        · exact begin_bad k x y n w (by simpa using h1) (by simpa using h2) (by simpa using h3)

/-- What the document's Begin tells. -/
def begR (k x y n : Int) : Value := if okB k x y n then .agg #[.int .i64 k, .int .i64 x, .int .i64 y, .int .i64 1, .int .i64 x, .int .i64 y, .int .i64 0, .int .i64 0, .bool false, .int .i64 0, .bool true] else .agg #[.int .i64 0, .int .i64 0, .int .i64 0, .int .i64 0, .int .i64 0, .int .i64 0, .int .i64 0, .int .i64 0, .bool false, .int .i64 0, .bool false]
theorem begR_yes {k x y n : Int} (h : okB k x y n) : begR k x y n = .agg #[.int .i64 k, .int .i64 x, .int .i64 y, .int .i64 1, .int .i64 x, .int .i64 y, .int .i64 0, .int .i64 0, .bool false, .int .i64 0, .bool true] := if_pos h
theorem begR_no {k x y n : Int} (h : ¬ okB k x y n) : begR k x y n = .agg #[.int .i64 0, .int .i64 0, .int .i64 0, .int .i64 0, .int .i64 0, .int .i64 0, .int .i64 0, .int .i64 0, .bool false, .int .i64 0, .bool false] := if_neg h

theorem rbegin_any (k x y n : Int) (w : World) :
    Calls Tryd.prog 39 #[.agg #[.int .i64 k, .int .i64 x, .int .i64 y], .int .i64 n] w fun e w' => e = .returned (begR k x y n) ∧ Below w.heap.size w w' := by
  by_cases h : okB k x y n
  · rw [begR_yes h]
    obtain ⟨h1, h2, h3, h4⟩ := h
    have hk : k = 1 ∨ k = 2 ∨ k = 3 := by omega
    rcases hk with rfl | rfl | rfl
    · exact rbegin_1_yes x y n w h3.1 h3.2
    · exact rbegin_2_yes x y n w h3.1 h3.2 (h4 (by omega)).1 (h4 (by omega)).2
    · exact rbegin_3_yes x y n w h3.1 h3.2 (h4 (by omega)).1 (h4 (by omega)).2
  · rw [begR_no h]
    by_cases h1 : k = 1
    · subst h1
      exact rbegin_1_xno x y n w fun hx => h ⟨by omega, by omega, hx, by omega⟩
    · by_cases h2 : k = 2
      · subst h2
        by_cases hx : 0 ≤ x ∧ x < n
        · exact rbegin_2_yno x y n w hx.1 hx.2 fun hy => h ⟨by omega, by omega, hx, fun _ => hy⟩
        · exact rbegin_2_xno x y n w hx
      · by_cases h3 : k = 3
        · subst h3
          by_cases hx : 0 ≤ x ∧ x < n
          · exact rbegin_3_yno x y n w hx.1 hx.2 fun hy => h ⟨by omega, by omega, hx, fun _ => hy⟩
          · exact rbegin_3_xno x y n w hx
        · by_cases h4 : k < 1
          · exact rbegin_lt k x y n w h4
          · exact rbegin_gt k x y n w h4 (by omega)

end Go.Proofs.YthhcchdjeeigpaaDoor
