/- Contracts in the words of the laws: all that read or make memory leave what was there ('Below'); the statements' own awake. -/
import Derived.Test.YtodkdjgpmfegcaaPairs
namespace Go.Proofs.Ytodkdjgpmfegcaa
open Go.RowKit
set_option linter.unusedVariables false

theorem of_nat (n : Nat) (a : Option Addr) (np c : Nat) (ps : List (Int × Int)) (w : World) {lo hi : Nat} (hp : RowP lo hi w a np ps) (hhi : hi ≤ w.heap.size) (hm : np ≤ 1000000) (hf : ∀ q ∈ ps, fits q.1 ∧ fits q.2) (hn : n ≤ 65536) :
    Calls Try.prog 24 #[.int .i64 (n : Int), .slice a np c] w fun e w' => ∃ a' c', e = .returned (.slice a' n c') ∧ RowN w.heap.size w'.heap.size w' a' n (ofL n ps) ∧ Below w.heap.size w w' := by
  have := of_any n a np c ps w hp hhi hm hf
  rwa [cutN_nat hn] at this

theorem pairs_m (a : Option Addr) (la ca : Nat) (ns : List Nat) (n : Nat) (w : World) {lo hi : Nat} (hp : RowY lo hi w a la ns) (hby : ∀ i, i < la → ns.getD i 0 ≤ 255) (hhi : hi ≤ w.heap.size) (hm : la ≤ 1000) (hn : n ≤ 65536) :
    Calls Try.prog 23 #[.slice a la ca, .int .i64 n] w fun e w' => ∃ a' m c', e = .returned (.slice a' m c') ∧ m ≤ la ∧ RowP w.heap.size w'.heap.size w' a' m (prs ns n) ∧ (a' = none → m = 0 ∧ c' = 0) ∧ Below w.heap.size w w' :=
  (pairs_any a la ca ns n w hp hby hhi hm hn).mono fun e w' ⟨a', c', h1, h2, h3, h4⟩ => ⟨a', _, c', h1, by have := prs_length_le ns n; have := hp.1; omega, h2, h3, h4⟩

theorem ints_b (a b : Option Addr) (la lb ca cb : Nat) (p q : List Nat) (w : World) {l1 l2 h1 h2 : Nat} (hx : RowN l1 h1 w a la p) (hy : RowN l2 h2 w b lb q) (hm : la ≤ 9223372036854775807) (v : Bool) (hv : decide (p = q) = v) :
    Calls Try.prog 12 #[.slice a la ca, .slice b lb cb] w fun e w' => e = .returned (.bool v) ∧ Below w.heap.size w w' :=
  (ints_any a b la lb ca cb _ _ w hx.ints hy.ints hm).mono fun e w' ⟨h1, n, h2⟩ => ⟨by rw [h1, ints_eq, hv], by subst h2; exact below_drewN (Below.refl _ _) _⟩
theorem same_b (a : Option Addr) (la ca : Nat) (p : List Nat) (x y : Int) (w : World) {lo hi : Nat} (hp : RowN lo hi w a la p) (hm : la ≤ 9223372036854775807) (v : Bool) (hv : sameB p x y = v) :
    Calls Try.prog 15 #[.slice a la ca, .int .i64 x, .int .i64 y] w fun e w' => e = .returned (.bool v) ∧ Below w.heap.size w w' :=
  (same_any a la ca p x y w hp hm).mono fun e w' ⟨h1, n, h2⟩ => ⟨by rw [h1, hv], by subst h2; exact below_drewN (Below.refl _ _) _⟩
theorem rsame_b (a : Option Addr) (la ca : Nat) (p : List Nat) (x y : Int) (w : World) {lo hi : Nat} (hp : RowN lo hi w a la p) (hm : la ≤ 9223372036854775807) (v : Bool) (hv : sameB p x y = v) :
    Calls Try.prog 16 #[.slice a la ca, .int .i64 x, .int .i64 y] w fun e w' => e = .returned (.bool v) ∧ Below w.heap.size w w' :=
  (rsame_any a la ca p x y w hp hm).mono fun e w' ⟨h1, n, h2⟩ => ⟨by rw [h1, hv], by subst h2; exact below_drewN (Below.refl _ _) _⟩
theorem le_b (a b : Option Addr) (la ca lb cb : Nat) (p q : List Nat) (w : World) {lo hi lo2 hi2 : Nat} (hp : RowN lo hi w a la p) (hq : RowN lo2 hi2 w b lb q) (hg : Good p) (hm : la ≤ 9223372036854775807) (v : Bool) (hv : leB p q = v) :
    Calls Try.prog 21 #[.slice a la ca, .slice b lb cb] w fun e w' => e = .returned (.bool v) ∧ Below w.heap.size w w' :=
  (le_any a b la ca lb cb p q w hp hq (fun i hi => by have := good_lt hg (i := i) (by rw [hp.1]; exact hi); rwa [hp.1] at this) hm).mono fun e w' ⟨h1, n, h2⟩ => ⟨by rw [h1, hv], by subst h2; exact below_drewN (Below.refl _ _) _⟩
theorem rle_b (a b : Option Addr) (la ca lb cb : Nat) (p q : List Nat) (w : World) {lo hi lo2 hi2 : Nat} (hp : RowN lo hi w a la p) (hq : RowN lo2 hi2 w b lb q) (hg : Good p) (hm : la ≤ 9223372036854775807) (v : Bool) (hv : leB p q = v) :
    Calls Try.prog 22 #[.slice a la ca, .slice b lb cb] w fun e w' => e = .returned (.bool v) ∧ Below w.heap.size w w' :=
  (rle_any a b la ca lb cb p q w hp hq (fun i hi => by have := good_lt hg (i := i) (by rw [hp.1]; exact hi); rwa [hp.1] at this) hm).mono fun e w' ⟨h1, n, h2⟩ => ⟨by rw [h1, hv], by subst h2; exact below_drewN (Below.refl _ _) _⟩
theorem cls_b (a : Option Addr) (la ca : Nat) (p : List Nat) (w : World) {lo hi : Nat} (hp : RowN lo hi w a la p) (hm : la ≤ 9223372036854775807) (v : Nat) (hv : clsN p = v) :
    Calls Try.prog 19 #[.slice a la ca] w fun e w' => e = .returned (.int .i64 (v : Int)) ∧ Below w.heap.size w w' :=
  (cls_any a la ca p w hp hm).mono fun e w' ⟨h1, h2⟩ => ⟨by rw [h1, hv], by subst h2; exact Below.refl _ _⟩
theorem rcls_b (a : Option Addr) (la ca : Nat) (p : List Nat) (w : World) {lo hi : Nat} (hp : RowN lo hi w a la p) (hm : la ≤ 9223372036854775807) (v : Nat) (hv : clsN p = v) :
    Calls Try.prog 20 #[.slice a la ca] w fun e w' => e = .returned (.int .i64 (v : Int)) ∧ Below w.heap.size w w' :=
  (rcls_any a la ca p w hp hm).mono fun e w' ⟨h1, h2⟩ => ⟨by rw [h1, hv], by subst h2; exact Below.refl _ _⟩
theorem may_b (a : Option Addr) (la ca : Nat) (xs : List Int) (w : World) {lo hi : Nat} (hp : Row lo hi w a la xs) (hm : la ≤ 9223372036854775807) (v : Bool) (hv : mayB xs = v) :
    Calls Try.prog 10 #[.slice a la ca] w fun e w' => e = .returned (.bool v) ∧ Below w.heap.size w w' :=
  (may_any a la ca xs w hp hm).mono fun e w' ⟨h1, h2⟩ => ⟨by rw [h1, hv], by subst h2; exact Below.refl _ _⟩
theorem rmay_b (a : Option Addr) (la ca : Nat) (xs : List Int) (w : World) {lo hi : Nat} (hp : Row lo hi w a la xs) (hm : la ≤ 9223372036854775807) (v : Bool) (hv : mayB xs = v) :
    Calls Try.prog 11 #[.slice a la ca] w fun e w' => e = .returned (.bool v) ∧ Below w.heap.size w w' :=
  (rmay_any a la ca xs w hp hm).mono fun e w' ⟨h1, n, h2⟩ => ⟨by rw [h1, hv], by subst h2; exact below_drewN (Below.refl _ _) _⟩

theorem awake_any (w : World) : Calls Try.prog 9 #[] w fun e w' => e = .returned (.bool true) ∧ Below w.heap.size w w' := by
  have k0 : Below w.heap.size w (w.alloc (.cells #[.int .i64 0, .int .i64 2] 35)) := by go_grown
  have hp : RowP w.heap.size (w.heap.size + 1) (w.alloc (.cells #[.int .i64 0, .int .i64 2] 35)) (some ⟨w.heap.size, 0, none⟩) 1 [(0, 2)] := by
    refine ⟨rfl, .inr ⟨w.heap.size, 0, rfl, Nat.le_refl _, by omega, fun i hi => ?_⟩⟩
    obtain rfl : i = 0 := by omega
    simp
  have HP := Lib.hid hp
  clear hp
  go_enter Try.func9, Try.ntmps9
  go_wp2_with fail
  refine (of_nat 3 _ 1 _ [(0, 2)] _ HP.out (by simp) (by omega) (by intro q hq; simp at hq; subst hq; unfold fits; omega) (by omega)).mono ?_
  have e : ofL 3 [(0, 2)] = [0, 1, 0] := by decide
  rw [e]
  clear e
  rintro e w1 ⟨a1, c1, rfl, hr1, hb1⟩
  have s1 := hb1.size
  rw [World.size_alloc] at s1
  have k1 := k0.trans (hb1.mono (by simp))
  have hq : RowN w1.heap.size (w1.heap.size + 1) (w1.alloc (.cells #[.int .i64 0, .int .i64 1, .int .i64 0] 3)) (some ⟨w1.heap.size, 0, none⟩) 3 [0, 1, 0] := by
    refine ⟨rfl, .inr ⟨w1.heap.size, 0, rfl, Nat.le_refl _, by omega, fun i hi => ?_⟩⟩
    match i, hi with
    | 0, _ => simp
    | 1, _ => simp
    | 2, _ => simp
  have HQ := Lib.hid hq
  have HR := Lib.hid (hr1.alloc (Nat.le_refl _) (.cells #[.int .i64 0, .int .i64 1, .int .i64 0] 3))
  clear hq hr1
  go_wp2_with fail
  refine (ints_b _ _ _ _ _ _ _ _ _ HR.out HQ.out (by omega) true (by decide)).mono ?_
  rintro e w2 ⟨rfl, hb2⟩
  go_wp2_with fail
  go_ret
  refine ⟨rfl, (k1.alloc (by omega) _).trans (hb2.mono ?_)⟩
  rw [World.size_alloc]; omega

end Go.Proofs.Ytodkdjgpmfegcaa
