/- Contracts of there, below, look of package cuf and of the document. -/
import Derived.Test.YthhcchdjeeigpaaDoorInts
import Derived.Test.YthhcchdjeeigpaaDoorCufm
namespace Go.Proofs.YthhcchdjeeigpaaDoor
open Go.RowKit
set_option linter.unusedVariables false

theorem there_yes (n x : Int) (w : World) (h : 0 ≤ x) (h2 : x < n) :
    Calls Tryd.prog 87 #[.int .i64 n, .int .i64 x] w fun e w' => e = .returned (.bool true) ∧ w = w' := by
  go_enter Tryd.func87, Tryd.ntmps87
  go_wp2
  go_ret
  exact ⟨rfl, rfl⟩
theorem there_no (n x : Int) (w : World) (h : ¬ (0 ≤ x ∧ x < n)) :
    Calls Tryd.prog 87 #[.int .i64 n, .int .i64 x] w fun e w' => e = .returned (.bool false) ∧ w = w' := by
  by_cases h0 : 0 ≤ x
  · have h1 : ¬ x < n := fun h1 => h ⟨h0, h1⟩
    clear h
    go_enter Tryd.func87, Tryd.ntmps87
    go_wp2
    go_ret
    exact ⟨rfl, rfl⟩
  · clear h
    go_enter Tryd.func87, Tryd.ntmps87
    go_wp2
    go_ret
    exact ⟨rfl, rfl⟩
theorem rthere_yes (n x : Int) (w : World) (h : 0 ≤ x) (h2 : x < n) :
    Calls Tryd.prog 44 #[.int .i64 n, .int .i64 x] w fun e w' => e = .returned (.bool true) ∧ w = w' := by
  go_enter Tryd.func44, Tryd.ntmps44
  go_wp2
  go_ret
  exact ⟨rfl, rfl⟩
theorem rthere_no (n x : Int) (w : World) (h : ¬ (0 ≤ x ∧ x < n)) :
    Calls Tryd.prog 44 #[.int .i64 n, .int .i64 x] w fun e w' => e = .returned (.bool false) ∧ w = w' := by
  by_cases h0 : 0 ≤ x
  · have h1 : ¬ x < n := fun h1 => h ⟨h0, h1⟩
    clear h
    go_enter Tryd.func44, Tryd.ntmps44
    go_wp2
    go_ret
    exact ⟨rfl, rfl⟩
  · clear h
    go_enter Tryd.func44, Tryd.ntmps44
    go_wp2
    go_ret
    exact ⟨rfl, rfl⟩
theorem there_yes_q (n x : Int) (w : World) (h : 0 ≤ x) (h2 : x < n) :
    Calls Tryd.prog 87 #[.int .i64 n, .int .i64 x] w fun e w' => e = .returned (.bool true) ∧ w' = w := (there_yes n x w h h2).mono fun _ _ h => ⟨h.1, h.2.symm⟩
theorem rthere_yes_q (n x : Int) (w : World) (h : 0 ≤ x) (h2 : x < n) :
    Calls Tryd.prog 44 #[.int .i64 n, .int .i64 x] w fun e w' => e = .returned (.bool true) ∧ w' = w := (rthere_yes n x w h h2).mono fun _ _ h => ⟨h.1, h.2.symm⟩
theorem rthere_no_q (n x : Int) (w : World) (h : ¬ (0 ≤ x ∧ x < n)) :
    Calls Tryd.prog 44 #[.int .i64 n, .int .i64 x] w fun e w' => e = .returned (.bool false) ∧ w' = w := (rthere_no n x w h).mono fun _ _ h => ⟨h.1, h.2.symm⟩

theorem cast_beq (u v : Nat) : ((u : Int) == (v : Int)) = decide (u = v) := by
  rw [Bool.eq_iff_iff]; simp; omega
theorem ret_bool {b c : Bool} (h : b = c) : Ending.returned (.bool b) = .returned (.bool c) := by rw [h]
theorem ret_i64 {b c : Int} (h : b = c) : Ending.returned (.int .i64 b) = .returned (.int .i64 c) := by rw [h]

section
variable {lo hi : Nat} {w : World} {a : Option Addr} {len : Nat} {xs : List Int}
theorem RowF.ati (h : Row lo hi w a len xs) {i : Nat} (hi' : i < len) : ∃ b off, a = some ⟨b, off, none⟩ ∧ lo ≤ b ∧ b < hi ∧ ∀ i, i < len → w.cell? ⟨b, off + i, none⟩ = some (.int .i64 (xs.getD i 0)) :=
  h.2.resolve_left (by omega)
end

theorem bel_val {pr : List Int} {x y : Nat} {p q : Int} (hp : pr.getD x 0 = p) (hq : pr.getD y 0 = q) : decide (bel pr x y) = (decide (p < q) || (decide (p = q) && decide (x < y))) := by
  have : bel pr x y ↔ (p < q ∨ (p = q ∧ x < y)) := by unfold bel pri; rw [hp, hq]
  rw [Bool.eq_iff_iff]; simp [this]

set_option maxRecDepth 100000 in
set_option maxHeartbeats 1000000 in
theorem below_any (a : Option Addr) (la ca : Nat) (pr : List Int) (x y : Nat) (w : World) {lo hi : Nat} (hp : Row lo hi w a la pr) (hx : x < la) (hy : y < la) (hm : la ≤ 1000000) :
    Calls Tryd.prog 94 #[.slice a la ca, .int .i64 (x : Int), .int .i64 (y : Int)] w fun e w' => e = .returned (.bool (decide (bel pr x y))) ∧ ∃ n, w' = w.drewN n := by
  obtain ⟨b, off, rfl, _, _, hc⟩ := hp.ati hx
  have cx := hc x hx
  have cy := hc y hy
  obtain ⟨p, hpx⟩ : ∃ v, pr.getD x 0 = v := ⟨_, rfl⟩
  obtain ⟨q, hqy⟩ : ∃ v, pr.getD y 0 = v := ⟨_, rfl⟩
  rw [bel_val hpx hqy]
  rw [hpx] at cx
  rw [hqy] at cy
  have hx0 : (0 : Int) ≤ x := by omega
  have hy0 : (0 : Int) ≤ y := by omega
  have hx1 : (x : Int) < la := by omega
  have hy1 : (y : Int) < la := by omega
  clear hc hp hpx hqy
  by_cases h1 : p < q
  · have d1 : decide (p < q) = true := by simpa using h1
    go_enter Tryd.func94, Tryd.ntmps94
    go_wp2_with (first | (go_at_call 87; (with_reducible refine (there_yes _ _ _ hx0 hx1).mono ?_); rintro e w' ⟨rfl, rfl⟩) | (go_at_call 87; (with_reducible refine (there_yes _ _ _ hy0 hy1).mono ?_); rintro e w' ⟨rfl, rfl⟩))
    go_quiet (fail)
    go_wp2_with fail
    go_ret
    exact ⟨ret_bool (by simp [h1]), nq, rfl⟩
  · have d1 : decide (p < q) = false := by simpa using h1
    by_cases h2 : p = q
    · subst h2
      have d2 : (p == p) = true := by simp
      by_cases h3 : x < y
      · have d3 : decide (x < y) = true := by simpa using h3
        go_enter Tryd.func94, Tryd.ntmps94
        go_wp2_with (first | (go_at_call 87; (with_reducible refine (there_yes _ _ _ hx0 hx1).mono ?_); rintro e w' ⟨rfl, rfl⟩) | (go_at_call 87; (with_reducible refine (there_yes _ _ _ hy0 hy1).mono ?_); rintro e w' ⟨rfl, rfl⟩))
        go_quiet (fail)
        go_wp2_with fail
        go_ret
        exact ⟨ret_bool (by simp [h3]), nq, rfl⟩
      · have d3 : decide (x < y) = false := by simpa using h3
        go_enter Tryd.func94, Tryd.ntmps94
        go_wp2_with (first | (go_at_call 87; (with_reducible refine (there_yes _ _ _ hx0 hx1).mono ?_); rintro e w' ⟨rfl, rfl⟩) | (go_at_call 87; (with_reducible refine (there_yes _ _ _ hy0 hy1).mono ?_); rintro e w' ⟨rfl, rfl⟩))
        go_quiet (fail)
        go_wp2_with fail
        go_ret
        exact ⟨ret_bool (by simp [h3]), nq, rfl⟩
    · have d2 : (p == q) = false := by simpa using h2
      go_enter Tryd.func94, Tryd.ntmps94
      go_wp2_with (first | (go_at_call 87; (with_reducible refine (there_yes _ _ _ hx0 hx1).mono ?_); rintro e w' ⟨rfl, rfl⟩) | (go_at_call 87; (with_reducible refine (there_yes _ _ _ hy0 hy1).mono ?_); rintro e w' ⟨rfl, rfl⟩))
      go_quiet (fail)
      go_wp2_with fail
      go_ret
      exact ⟨ret_bool (by simp [h1, h2]), nq, rfl⟩

theorem below_out (a : Option Addr) (la ca : Nat) (x : Nat) (y : Int) (w : World) (hx : x < la) (hy : ¬ (0 ≤ y ∧ y < la)) (hm : la ≤ 1000000) :
    Calls Tryd.prog 94 #[.slice a la ca, .int .i64 (x : Int), .int .i64 y] w fun e w' => e = .returned (.bool false) ∧ w = w' := by
  have hx0 : (0 : Int) ≤ x := by omega
  have hx1 : (x : Int) < la := by omega
  have HY := Lib.hid hy
  clear hy
  go_enter Tryd.func94, Tryd.ntmps94
  go_wp2_with (first | (go_at_call 87; (with_reducible refine (there_yes _ _ _ hx0 hx1).mono ?_); rintro e w' ⟨rfl, rfl⟩) | (go_at_call 87; (with_reducible refine (there_no _ _ _ HY.out).mono ?_); rintro e w' ⟨rfl, rfl⟩))
  go_ret
  exact ⟨rfl, rfl⟩

set_option maxRecDepth 100000 in
set_option maxHeartbeats 1000000 in
theorem rbelow_any (a : Option Addr) (la ca : Nat) (pr : List Int) (x y : Nat) (w : World) {lo hi : Nat} (hp : Row lo hi w a la pr) (hx : x < la) (hy : y < la) (hm : la ≤ 1000000) :
    Calls Tryd.prog 67 #[.slice a la ca, .int .i64 (x : Int), .int .i64 (y : Int)] w fun e w' => e = .returned (.bool (decide (bel pr x y))) ∧ ∃ n, w' = w.drewN n := by
  obtain ⟨b, off, rfl, _, _, hc⟩ := hp.ati hx
  have cx := hc x hx
  have cy := hc y hy
  obtain ⟨p, hpx⟩ : ∃ v, pr.getD x 0 = v := ⟨_, rfl⟩
  obtain ⟨q, hqy⟩ : ∃ v, pr.getD y 0 = v := ⟨_, rfl⟩
  rw [bel_val hpx hqy]
  rw [hpx] at cx
  rw [hqy] at cy
  have hx0 : (0 : Int) ≤ x := by omega
  have hy0 : (0 : Int) ≤ y := by omega
  have hx1 : (x : Int) < la := by omega
  have hy1 : (y : Int) < la := by omega
  clear hc hp hpx hqy
  by_cases h1 : p < q
  · have d1 : decide (p < q) = true := by simpa using h1
    go_enter Tryd.func67, Tryd.ntmps67
    go_wp2_with fail
    go_quiet (fail)
    go_wp2_with fail
    go_ret
    exact ⟨ret_bool (by simp [h1]), nq, rfl⟩
  · have d1 : decide (p < q) = false := by simpa using h1
    by_cases h2 : p = q
    · subst h2
      have d2 : (p == p) = true := by simp
      by_cases h3 : x < y
      · have d3 : decide (x < y) = true := by simpa using h3
        go_enter Tryd.func67, Tryd.ntmps67
        go_wp2_with fail
        go_quiet (fail)
        go_wp2_with fail
        go_ret
        exact ⟨ret_bool (by simp [h3]), nq, rfl⟩
      · have d3 : decide (x < y) = false := by simpa using h3
        go_enter Tryd.func67, Tryd.ntmps67
        go_wp2_with fail
        go_quiet (fail)
        go_wp2_with fail
        go_ret
        exact ⟨ret_bool (by simp [h3]), nq, rfl⟩
    · have d2 : (p == q) = false := by simpa using h2
      go_enter Tryd.func67, Tryd.ntmps67
      go_wp2_with fail
      go_quiet (fail)
      go_wp2_with fail
      go_ret
      exact ⟨ret_bool (by simp [h1, h2]), nq, rfl⟩

theorem look_in (a : Option Addr) (la ca : Nat) (up : List Nat) (x : Nat) (w : World) {lo hi : Nat} (hp : RowN lo hi w a la up) (hx : x < la) (hm : la ≤ 1000000) :
    Calls Tryd.prog 91 #[.slice a la ca, .int .i64 (x : Int)] w fun e w' => e = .returned (.int .i64 (el up x : Nat)) ∧ w = w' := by
  obtain ⟨b, off, rfl, _, _, hc⟩ := hp.at_ hx
  have cx := hc x hx
  have hx0 : (0 : Int) ≤ x := by omega
  have hx1 : (x : Int) < la := by omega
  clear hc hp
  go_enter Tryd.func91, Tryd.ntmps91
  go_wp2_with (go_at_call 87; (with_reducible refine (there_yes _ _ _ hx0 hx1).mono ?_); rintro e w' ⟨rfl, rfl⟩)
  go_ret
  exact ⟨rfl, rfl⟩
theorem look_out (a : Option Addr) (la ca : Nat) (x : Int) (w : World) (hx : ¬ (0 ≤ x ∧ x < la)) :
    Calls Tryd.prog 91 #[.slice a la ca, .int .i64 x] w fun e w' => e = .returned (.int .i64 (-1)) ∧ w = w' := by
  have HX := Lib.hid hx
  clear hx
  go_enter Tryd.func91, Tryd.ntmps91
  go_wp2_with (go_at_call 87; (with_reducible refine (there_no _ _ _ HX.out).mono ?_); rintro e w' ⟨rfl, rfl⟩)
  go_ret
  exact ⟨rfl, rfl⟩

end Go.Proofs.YthhcchdjeeigpaaDoor
