/- Package data: Con, at one declaration with two Cons. -/
import Derived.Test.YtjfogodfpmfhhaaDtzD
namespace Go.Proofs.Ytjfogodfpmfhhaa
open Go.RowKit Go.Maps
set_option linter.unusedVariables false
set_option linter.unusedSimpArgs false

def cI (t : Nat) : Int := if t = 2 then -1 else 0
def cJ (t : Nat) : Int := if t = 2 then -1 else (t : Int)
def cN : Nat → ByteArray
  | 0 => ⟨#[65]⟩
  | 1 => ⟨#[66]⟩
  | _ => ⟨#[67]⟩

set_option maxRecDepth 100000 in
set_option maxHeartbeats 8000000 in
theorem k_ConABC (w : World) (g h q : Nat) (zs z3 : ByteArray) (a1 : Option Addr) (n c1 : Nat) (X : One2 w g h q zs ⟨#[65]⟩ ⟨#[66]⟩ z3 a1 n c1) (t : Nat) (ht : t < 3) :
    Calls Try.prog 26 #[.slice (some ⟨g, 0, none⟩) 1 1, .string (cN t)] w fun e w' => e = .returned (.tuple #[.int .i64 (cI t), .int .i64 (cJ t)]) ∧ Below w.heap.size w w' := by
  obtain ⟨l1, l2, l3, d0, d1, d2, d3, e0, e1, e2, e3, e4, e5, f0, f1, f2, f3⟩ := X
  have h012 : t = 0 ∨ t = 1 ∨ t = 2 := by omega
  rcases h012 with rfl | rfl | rfl
  · show Calls Try.prog 26 #[.slice (some ⟨g, 0, none⟩) 1 1, .string ⟨#[65]⟩] w fun e w' => e = .returned (.tuple #[.int .i64 (0), .int .i64 (0)]) ∧ Below w.heap.size w w'
    go_enter Try.func26, Try.ntmps26
    go_wp2_with fail
    refine wp_loop_rounds 2 ?_
    rw [rounds_succ]
    go_wp2_with fail
    refine wp_loop_rounds 3 ?_
    rw [rounds_succ]
    go_wp2_with fail
    refine bodyPost_ret (v := .tuple #[.int .i64 (0), .int .i64 (0)]) (by simp only [results, Try.results26]; go_simp <;> rfl) rfl ⟨rfl, ?_⟩
    repeat (first | exact Below.refl _ _ | refine Below.setCell ?_ (by simp <;> omega) _ | refine Below.alloc ?_ (by simp <;> omega) _)
  · show Calls Try.prog 26 #[.slice (some ⟨g, 0, none⟩) 1 1, .string ⟨#[66]⟩] w fun e w' => e = .returned (.tuple #[.int .i64 (0), .int .i64 (1)]) ∧ Below w.heap.size w w'
    go_enter Try.func26, Try.ntmps26
    go_wp2_with fail
    refine wp_loop_rounds 2 ?_
    rw [rounds_succ]
    go_wp2_with fail
    refine wp_loop_rounds 3 ?_
    rw [rounds_succ]
    go_wp2_with fail
    rw [rounds_succ]
    go_wp2_with fail
    refine bodyPost_ret (v := .tuple #[.int .i64 (0), .int .i64 (1)]) (by simp only [results, Try.results26]; go_simp <;> rfl) rfl ⟨rfl, ?_⟩
    repeat (first | exact Below.refl _ _ | refine Below.setCell ?_ (by simp <;> omega) _ | refine Below.alloc ?_ (by simp <;> omega) _)
  · show Calls Try.prog 26 #[.slice (some ⟨g, 0, none⟩) 1 1, .string ⟨#[67]⟩] w fun e w' => e = .returned (.tuple #[.int .i64 (-1), .int .i64 (-1)]) ∧ Below w.heap.size w w'
    go_enter Try.func26, Try.ntmps26
    go_wp2_with fail
    refine wp_loop_rounds 2 ?_
    rw [rounds_succ]
    go_wp2_with fail
    refine wp_loop_rounds 3 ?_
    rw [rounds_succ]
    go_wp2_with fail
    rw [rounds_succ]
    go_wp2_with fail
    rw [rounds_succ]
    go_wp2_with fail
    rw [rounds_succ]
    go_wp2_with fail
    refine bodyPost_ret (v := .tuple #[.int .i64 (-1), .int .i64 (-1)]) (by simp only [results, Try.results26]; go_simp <;> rfl) rfl ⟨rfl, ?_⟩
    repeat (first | exact Below.refl _ _ | refine Below.setCell ?_ (by simp <;> omega) _ | refine Below.alloc ?_ (by simp <;> omega) _)

end Go.Proofs.Ytjfogodfpmfhhaa
