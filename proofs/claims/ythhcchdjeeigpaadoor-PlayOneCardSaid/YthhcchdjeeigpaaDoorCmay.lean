/- Contracts of May of package cuf and of the document's MayUp. -/
import Derived.Test.YthhcchdjeeigpaaDoorCrow
namespace Go.Proofs.YthhcchdjeeigpaaDoor
open Go.RowKit
set_option linter.unusedVariables false

/-- May the number at place i stand there? -/
def mayAt (xs pr : List Int) (n i : Nat) : Prop := 0 ≤ xs.getD i 0 ∧ xs.getD i 0 < n ∧ (xs.getD i 0 = i ∨ bel pr i (xs.getD i 0).toNat)
instance (xs pr : List Int) (n i : Nat) : Decidable (mayAt xs pr n i) := by unfold mayAt; infer_instance
def mayU (xs pr : List Int) : Bool := decide (xs.length = pr.length ∧ xs.length ≤ 65536 ∧ ∀ i, i < xs.length → mayAt xs pr xs.length i)

theorem mayU_yes {xs pr : List Int} {n : Nat} (hl : xs.length = n) (hp : pr.length = n) (h0 : n ≤ 65536) (h : ∀ i, i < n → mayAt xs pr n i) : mayU xs pr = true := by
  subst hl; unfold mayU; exact decide_eq_true ⟨hp.symm, h0, h⟩
theorem mayU_no {xs pr : List Int} {n k : Nat} (hl : xs.length = n) (hk : k < n) (h : ¬ mayAt xs pr n k) : mayU xs pr = false := by
  subst hl; unfold mayU; exact decide_eq_false fun h2 => h (h2.2.2 k hk)
theorem mayU_long {xs pr : List Int} {n : Nat} (hl : xs.length = n) (h : ¬ n ≤ 65536) : mayU xs pr = false := by
  subst hl; unfold mayU; exact decide_eq_false fun h2 => h h2.2.1
theorem mayU_ne {xs pr : List Int} {n m : Nat} (hl : xs.length = n) (hp : pr.length = m) (h : n ≠ m) : mayU xs pr = false := by
  subst hl hp; unfold mayU; exact decide_eq_false fun h2 => h h2.1
theorem mayU_for {n : Nat} {pr : List Int} {up : List Nat} (F : For n pr up) (hp : pr.length = n) (h0 : n ≤ 65536) : mayU (up.map fun n : Nat => (n : Int)) pr = true := by
  refine mayU_yes (by simp [F.len]) hp h0 fun i hi => ?_
  have e : (up.map fun n : Nat => (n : Int)).getD i 0 = (el up i : Nat) := by unfold el; simp [List.getD, F.len, hi]
  unfold mayAt
  rw [e]
  have h1 := F.lt i hi
  refine ⟨by omega, by omega, ?_⟩
  rcases F.ok i hi with h | h
  · left; omega
  · right; rwa [Int.toNat_natCast]
theorem for_mayU {xs pr : List Int} (h : mayU xs pr = true) : For xs.length pr (xs.map Int.toNat) ∧ (∀ i, i < xs.length → 0 ≤ xs.getD i 0) ∧ pr.length = xs.length := by
  unfold mayU at h
  obtain ⟨h1, h2, h⟩ := of_decide_eq_true h
  have e : ∀ j, j < xs.length → el (xs.map Int.toNat) j = (xs.getD j 0).toNat := fun j hj => by unfold el; simp [List.getD, hj]
  refine ⟨⟨by simp, fun i hi => ?_, fun i hi => ?_⟩, fun i hi => (h i hi).1, h1.symm⟩
  · rw [e i hi]; have := h i hi; unfold mayAt at this; omega
  · rw [e i hi]
    obtain ⟨a, b, c⟩ := h i hi
    rcases c with c | c
    · left; omega
    · exact .inr c

theorem below_v (a : Option Addr) (la ca : Nat) (pr : List Int) (x y : Nat) (w : World) {lo hi : Nat} (hp : Row lo hi w a la pr) (hx : x < la) (hy : y < la) (hm : la ≤ 1000000) (v : Bool) (hv : decide (bel pr x y) = v) :
    Calls Tryd.prog 94 #[.slice a la ca, .int .i64 (x : Int), .int .i64 (y : Int)] w fun e w' => e = .returned (.bool v) ∧ ∃ n, w' = w.drewN n := hv ▸ below_any a la ca pr x y w hp hx hy hm
theorem rbelow_v (a : Option Addr) (la ca : Nat) (pr : List Int) (x y : Nat) (w : World) {lo hi : Nat} (hp : Row lo hi w a la pr) (hx : x < la) (hy : y < la) (hm : la ≤ 1000000) (v : Bool) (hv : decide (bel pr x y) = v) :
    Calls Tryd.prog 67 #[.slice a la ca, .int .i64 (x : Int), .int .i64 (y : Int)] w fun e w' => e = .returned (.bool v) ∧ ∃ n, w' = w.drewN n := hv ▸ rbelow_any a la ca pr x y w hp hx hy hm

end Go.Proofs.YthhcchdjeeigpaaDoor
