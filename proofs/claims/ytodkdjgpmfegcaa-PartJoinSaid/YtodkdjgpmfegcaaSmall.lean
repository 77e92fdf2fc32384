/- Contracts of there, Same, Classes of package part and of the document. -/
import Derived.Test.YtodkdjgpmfegcaaInts
namespace Go.Proofs.Ytodkdjgpmfegcaa
open Go.RowKit
set_option linter.unusedVariables false

theorem there_yes (a : Option Addr) (la ca : Nat) (x : Int) (w : World) (h : 0 ≤ x) (h2 : x < la) :
    Calls Try.prog 25 #[.slice a la ca, .int .i64 x] w fun e w' => e = .returned (.bool true) ∧ w = w' := by
  go_enter Try.func25, Try.ntmps25
  go_wp2
  go_ret
  exact ⟨rfl, rfl⟩
theorem there_no (a : Option Addr) (la ca : Nat) (x : Int) (w : World) (h : ¬ (0 ≤ x ∧ x < la)) :
    Calls Try.prog 25 #[.slice a la ca, .int .i64 x] w fun e w' => e = .returned (.bool false) ∧ w = w' := by
  by_cases h0 : 0 ≤ x
  · have h1 : ¬ x < la := fun h1 => h ⟨h0, h1⟩
    clear h
    go_enter Try.func25, Try.ntmps25
    go_wp2
    go_ret
    exact ⟨rfl, rfl⟩
  · clear h
    go_enter Try.func25, Try.ntmps25
    go_wp2
    go_ret
    exact ⟨rfl, rfl⟩
theorem rthere_yes (la : Nat) (x : Int) (w : World) (h : 0 ≤ x) (h2 : x < la) :
    Calls Try.prog 26 #[.int .i64 la, .int .i64 x] w fun e w' => e = .returned (.bool true) ∧ w = w' := by
  go_enter Try.func26, Try.ntmps26
  go_wp2
  go_ret
  exact ⟨rfl, rfl⟩
theorem rthere_no (la : Nat) (x : Int) (w : World) (h : ¬ (0 ≤ x ∧ x < la)) :
    Calls Try.prog 26 #[.int .i64 la, .int .i64 x] w fun e w' => e = .returned (.bool false) ∧ w = w' := by
  by_cases h0 : 0 ≤ x
  · have h1 : ¬ x < la := fun h1 => h ⟨h0, h1⟩
    clear h
    go_enter Try.func26, Try.ntmps26
    go_wp2
    go_ret
    exact ⟨rfl, rfl⟩
  · clear h
    go_enter Try.func26, Try.ntmps26
    go_wp2
    go_ret
    exact ⟨rfl, rfl⟩

theorem there_yes_q (a : Option Addr) (la ca : Nat) (x : Int) (w : World) (h : 0 ≤ x) (h2 : x < la) :
    Calls Try.prog 25 #[.slice a la ca, .int .i64 x] w fun e w' => e = .returned (.bool true) ∧ w' = w := (there_yes a la ca x w h h2).mono fun _ _ h => ⟨h.1, h.2.symm⟩
theorem there_no_q (a : Option Addr) (la ca : Nat) (x : Int) (w : World) (h : ¬ (0 ≤ x ∧ x < la)) :
    Calls Try.prog 25 #[.slice a la ca, .int .i64 x] w fun e w' => e = .returned (.bool false) ∧ w' = w := (there_no a la ca x w h).mono fun _ _ h => ⟨h.1, h.2.symm⟩
theorem rthere_yes_q (la : Nat) (x : Int) (w : World) (h : 0 ≤ x) (h2 : x < la) :
    Calls Try.prog 26 #[.int .i64 la, .int .i64 x] w fun e w' => e = .returned (.bool true) ∧ w' = w := (rthere_yes la x w h h2).mono fun _ _ h => ⟨h.1, h.2.symm⟩
theorem rthere_no_q (la : Nat) (x : Int) (w : World) (h : ¬ (0 ≤ x ∧ x < la)) :
    Calls Try.prog 26 #[.int .i64 la, .int .i64 x] w fun e w' => e = .returned (.bool false) ∧ w' = w := (rthere_no la x w h).mono fun _ _ h => ⟨h.1, h.2.symm⟩

theorem cast_beq (u v : Nat) : ((u : Int) == (v : Int)) = decide (u = v) := by
  rw [Bool.eq_iff_iff]; simp; omega
theorem ret_bool {b c : Bool} (h : b = c) : Ending.returned (.bool b) = .returned (.bool c) := by rw [h]
theorem ret_i64 {b c : Int} (h : b = c) : Ending.returned (.int .i64 b) = .returned (.int .i64 c) := by rw [h]

theorem same_any (a : Option Addr) (la ca : Nat) (p : List Nat) (x y : Int) (w : World) {lo hi : Nat} (hp : RowN lo hi w a la p) (hm : la ≤ 9223372036854775807) :
    Calls Try.prog 15 #[.slice a la ca, .int .i64 x, .int .i64 y] w fun e w' => e = .returned (.bool (sameB p x y)) ∧ ∃ n, w' = w.drewN n := by
  have hl := hp.1
  by_cases hx : 0 ≤ x ∧ x < la
  · by_cases hy : 0 ≤ y ∧ y < la
    · obtain ⟨i, rfl⟩ : ∃ i : Nat, x = i := ⟨x.toNat, by omega⟩
      obtain ⟨j, rfl⟩ : ∃ j : Nat, y = j := ⟨y.toNat, by omega⟩
      have hi' : i < la := by omega
      have hj' : j < la := by omega
      obtain ⟨b, off, rfl, _, _, hc⟩ := hp.at_ hi'
      have ci := hc i hi'
      have cj := hc j hj'
      have e : sameB p i j = decide (el p i = el p j) := by
        unfold sameB; rw [decide_eq_decide]; simp; omega
      obtain ⟨u, hu⟩ : ∃ u, el p i = u := ⟨_, rfl⟩
      obtain ⟨v, hv⟩ : ∃ v, el p j = v := ⟨_, rfl⟩
      rw [e]
      rw [hu] at ci ⊢
      rw [hv] at cj ⊢
      have hx0 : (0 : Int) ≤ i := by omega
      have hy0 : (0 : Int) ≤ j := by omega
      have hx1 : (i : Int) < la := by omega
      have hy1 : (j : Int) < la := by omega
      clear hc hl hp e hu hv hx hy
      go_enter Try.func15, Try.ntmps15
      go_wp2_with fail
      go_quiet ((go_at_call 25; refine Calls.quiet_of_same (there_yes_q _ _ _ _ _ (by assumption) (by assumption))))
      go_wp2_with fail
      go_ret
      exact ⟨ret_bool (cast_beq _ _), nq, rfl⟩
    · have e : sameB p x y = false := by unfold sameB; simp; omega
      obtain ⟨hx0, hx1⟩ := hx
      rw [e]
      clear e hp hl
      go_enter Try.func15, Try.ntmps15
      go_wp2_with fail
      go_quiet (first | (go_at_call 25; refine Calls.quiet_of_same (there_no_q _ _ _ _ _ (by assumption))) | (go_at_call 25; refine Calls.quiet_of_same (there_yes_q _ _ _ _ _ (by assumption) (by assumption))))
      go_wp2_with fail
      go_ret
      exact ⟨rfl, nq, rfl⟩
  · have e : sameB p x y = false := by unfold sameB; simp; omega
    rw [e]
    clear e hp hl
    go_enter Try.func15, Try.ntmps15
    go_wp2_with fail
    go_quiet ((go_at_call 25; refine Calls.quiet_of_same (there_no_q _ _ _ _ _ (by assumption))))
    go_wp2_with fail
    go_ret
    exact ⟨rfl, nq, rfl⟩

theorem rsame_any (a : Option Addr) (la ca : Nat) (p : List Nat) (x y : Int) (w : World) {lo hi : Nat} (hp : RowN lo hi w a la p) (hm : la ≤ 9223372036854775807) :
    Calls Try.prog 16 #[.slice a la ca, .int .i64 x, .int .i64 y] w fun e w' => e = .returned (.bool (sameB p x y)) ∧ ∃ n, w' = w.drewN n := by
  have hl := hp.1
  by_cases hx : 0 ≤ x ∧ x < la
  · by_cases hy : 0 ≤ y ∧ y < la
    · obtain ⟨i, rfl⟩ : ∃ i : Nat, x = i := ⟨x.toNat, by omega⟩
      obtain ⟨j, rfl⟩ : ∃ j : Nat, y = j := ⟨y.toNat, by omega⟩
      have hi' : i < la := by omega
      have hj' : j < la := by omega
      obtain ⟨b, off, rfl, _, _, hc⟩ := hp.at_ hi'
      have ci := hc i hi'
      have cj := hc j hj'
      have e : sameB p i j = decide (el p i = el p j) := by
        unfold sameB; rw [decide_eq_decide]; simp; omega
      obtain ⟨u, hu⟩ : ∃ u, el p i = u := ⟨_, rfl⟩
      obtain ⟨v, hv⟩ : ∃ v, el p j = v := ⟨_, rfl⟩
      rw [e]
      rw [hu] at ci ⊢
      rw [hv] at cj ⊢
      have hx0 : (0 : Int) ≤ i := by omega
      have hy0 : (0 : Int) ≤ j := by omega
      have hx1 : (i : Int) < la := by omega
      have hy1 : (j : Int) < la := by omega
      clear hc hl hp e hu hv hx hy
      go_enter Try.func16, Try.ntmps16
      go_wp2_with fail
      go_quiet ((go_at_call 26; refine Calls.quiet_of_same (rthere_yes_q _ _ _ (by assumption) (by assumption))))
      go_wp2_with fail
      go_ret
      exact ⟨ret_bool (cast_beq _ _), nq, rfl⟩
    · have e : sameB p x y = false := by unfold sameB; simp; omega
      obtain ⟨hx0, hx1⟩ := hx
      rw [e]
      clear e hp hl
      go_enter Try.func16, Try.ntmps16
      go_wp2_with fail
      go_quiet (first | (go_at_call 26; refine Calls.quiet_of_same (rthere_no_q _ _ _ (by assumption))) | (go_at_call 26; refine Calls.quiet_of_same (rthere_yes_q _ _ _ (by assumption) (by assumption))))
      go_wp2_with fail
      go_ret
      exact ⟨rfl, nq, rfl⟩
  · have e : sameB p x y = false := by unfold sameB; simp; omega
    rw [e]
    clear e hp hl
    go_enter Try.func16, Try.ntmps16
    go_wp2_with fail
    go_quiet ((go_at_call 26; refine Calls.quiet_of_same (rthere_no_q _ _ _ (by assumption))))
    go_wp2_with fail
    go_ret
    exact ⟨rfl, nq, rfl⟩

/-- How many of the first k are least elements. -/
def clsK (p : List Nat) (k : Nat) : Nat := (List.range k).countP (fun i => el p i == i)
theorem clsK_succ_yes {p : List Nat} {k : Nat} (h : el p k = k) : clsK p (k + 1) = clsK p k + 1 := by
  unfold clsK; rw [List.range_succ, List.countP_append]; simp [h]
theorem clsK_succ_no {p : List Nat} {k : Nat} (h : el p k ≠ k) : clsK p (k + 1) = clsK p k := by
  unfold clsK; rw [List.range_succ, List.countP_append]; simp [h]
theorem clsK_le (p : List Nat) (k : Nat) : clsK p k ≤ k := by
  unfold clsK; have := List.countP_le_length (p := fun i => el p i == i) (l := List.range k); simpa using this

theorem cls_any (a : Option Addr) (la ca : Nat) (p : List Nat) (w : World) {lo hi : Nat} (hp : RowN lo hi w a la p) (hm : la ≤ 9223372036854775807) :
    Calls Try.prog 19 #[.slice a la ca] w fun e w' => e = .returned (.int .i64 (clsN p : Nat)) ∧ w = w' := by
  have HL := Lib.hid hp.1
  have HP := Lib.hid hp
  clear hp
  go_enter Try.func19, Try.ntmps19
  go_wp2
  go_loop [3, 8] (fun c i => ∃ k : Nat, k ≤ la ∧ i = .int .i64 k ∧ c = .int .i64 (clsK p k : Nat)) (fun _ i => la - (intOf i).toNat)
  case atStart => exact ⟨0, Nat.zero_le _, rfl, rfl⟩
  case round =>
    obtain ⟨k, hk, rfl, rfl⟩ := hrel
    have hle := clsK_le p k
    by_cases hlt : k < la
    · obtain ⟨b, off, rfl, _, _, hc⟩ := HP.out.at_ hlt
      have ck := hc k hlt
      clear hc
      by_cases he : el p k = k
      · have HS := Lib.hid (clsK_succ_yes he)
        rw [he] at ck
        clear he
        go_wp2
        go_round
        case rel => exact ⟨k + 1, by omega, by go_num, by rw [HS.out]; go_num⟩
        case measure => simp [intOf]; omega
      · have HS := Lib.hid (clsK_succ_no he)
        have hne : (((el p k : Nat) : Int) == (k : Int)) = false := by rw [cast_beq]; simpa using he
        generalize el p k = v at *
        clear he
        go_wp2
        go_round
        case rel => exact ⟨k + 1, by omega, by go_num, by rw [HS.out]⟩
        case measure => simp [intOf]; omega
    · obtain rfl : k = la := by omega
      go_wp2
      go_ret
      refine ⟨ret_i64 ?_, rfl⟩
      unfold clsN clsK; rw [HL.out]

theorem rcls_any (a : Option Addr) (la ca : Nat) (p : List Nat) (w : World) {lo hi : Nat} (hp : RowN lo hi w a la p) (hm : la ≤ 9223372036854775807) :
    Calls Try.prog 20 #[.slice a la ca] w fun e w' => e = .returned (.int .i64 (clsN p : Nat)) ∧ w = w' := by
  have HL := Lib.hid hp.1
  have HP := Lib.hid hp
  clear hp
  go_enter Try.func20, Try.ntmps20
  go_wp2
  go_loop [3, 4] (fun c i => ∃ k : Nat, k ≤ la ∧ i = .int .i64 k ∧ c = .int .i64 (clsK p k : Nat)) (fun _ i => la - (intOf i).toNat)
  case atStart => exact ⟨0, Nat.zero_le _, rfl, rfl⟩
  case round =>
    obtain ⟨k, hk, rfl, rfl⟩ := hrel
    have hle := clsK_le p k
    by_cases hlt : k < la
    · obtain ⟨b, off, rfl, _, _, hc⟩ := HP.out.at_ hlt
      have ck := hc k hlt
      clear hc
      by_cases he : el p k = k
      · have HS := Lib.hid (clsK_succ_yes he)
        rw [he] at ck
        clear he
        go_wp2
        go_round
        case rel => exact ⟨k + 1, by omega, by go_num, by rw [HS.out]; go_num⟩
        case measure => simp [intOf]; omega
      · have HS := Lib.hid (clsK_succ_no he)
        have hne : (((el p k : Nat) : Int) == (k : Int)) = false := by rw [cast_beq]; simpa using he
        generalize el p k = v at *
        clear he
        go_wp2
        go_round
        case rel => exact ⟨k + 1, by omega, by go_num, by rw [HS.out]⟩
        case measure => simp [intOf]; omega
    · obtain rfl : k = la := by omega
      go_wp2
      go_ret
      refine ⟨ret_i64 ?_, rfl⟩
      unfold clsN clsK; rw [HL.out]

end Go.Proofs.Ytodkdjgpmfegcaa
