/- Contracts of May of package part and of the document. -/
import Derived.Test.YtodkdjgpmfegcaaLe
namespace Go.Proofs.Ytodkdjgpmfegcaa
open Go.RowKit
set_option linter.unusedVariables false

/-- May the number at place i stand there? -/
def mayAt (xs : List Int) (i : Nat) : Prop := 0 ≤ xs.getD i 0 ∧ xs.getD i 0 ≤ i ∧ xs.getD (xs.getD i 0).toNat 0 = xs.getD i 0
instance (xs : List Int) (i : Nat) : Decidable (mayAt xs i) := by unfold mayAt; infer_instance
def mayB (xs : List Int) : Bool := decide (xs.length ≤ 65536 ∧ ∀ i, i < xs.length → mayAt xs i)

theorem mayB_yes {xs : List Int} {n : Nat} (hl : xs.length = n) (h0 : n ≤ 65536) (h : ∀ i, i < n → mayAt xs i) : mayB xs = true := by
  subst hl; unfold mayB; exact decide_eq_true ⟨h0, h⟩
theorem mayB_no {xs : List Int} {n k : Nat} (hl : xs.length = n) (hk : k < n) (h : ¬ mayAt xs k) : mayB xs = false := by
  subst hl; unfold mayB; exact decide_eq_false fun h2 => h (h2.2 k hk)
theorem mayB_long {xs : List Int} {n : Nat} (hl : xs.length = n) (h : ¬ n ≤ 65536) : mayB xs = false := by
  subst hl; unfold mayB; exact decide_eq_false fun h2 => h h2.1
theorem mayB_good {p : List Nat} (h : Good p) (hl : p.length ≤ 65536) : mayB (p.map fun n : Nat => (n : Int)) = true := by
  refine mayB_yes (by simp) hl fun i hi => ?_
  have e : ∀ j, j < p.length → (p.map fun n : Nat => (n : Int)).getD j 0 = (el p j : Nat) := fun j hj => by unfold el; simp [List.getD, hj]
  obtain ⟨h1, h2⟩ := h i hi
  unfold mayAt
  rw [e i hi]
  refine ⟨by omega, by omega, ?_⟩
  rw [Int.toNat_natCast, e _ (by omega), h2]
theorem good_mayB {xs : List Int} (h : mayB xs = true) : Good (xs.map Int.toNat) ∧ ∀ i, i < xs.length → 0 ≤ xs.getD i 0 := by
  unfold mayB at h
  obtain ⟨_, h⟩ := of_decide_eq_true h
  refine ⟨fun i hi => ?_, fun i hi => (h i hi).1⟩
  have hi : i < xs.length := by simpa using hi
  have e : ∀ j, j < xs.length → el (xs.map Int.toNat) j = (xs.getD j 0).toNat := fun j hj => by unfold el; simp [List.getD, hj]
  obtain ⟨h1, h2, h3⟩ := h i hi
  rw [e i hi]
  refine ⟨by omega, ?_⟩
  rw [e _ (by omega), h3]

theorem may_any (a : Option Addr) (la ca : Nat) (xs : List Int) (w : World) {lo hi : Nat} (hp : Row lo hi w a la xs) (hm : la ≤ 9223372036854775807) :
    Calls Try.prog 10 #[.slice a la ca] w fun e w' => e = .returned (.bool (mayB xs)) ∧ w = w' := by
  by_cases h6 : la ≤ 65536
  · have HL := Lib.hid hp.1
    have HP := Lib.hid hp.2
    clear hp
    go_enter Try.func10, Try.ntmps10
    go_wp2_with fail
    go_loop [10] (fun i => ∃ k : Nat, k ≤ la ∧ i = .int .i64 k ∧ Hid (∀ i, i < k → mayAt xs i)) (fun i => la - (intOf i).toNat)
    case atStart => exact ⟨0, Nat.zero_le _, rfl, fun i hi => absurd hi (by omega)⟩
    case round =>
      obtain ⟨k, hk, rfl, hp⟩ := hrel
      by_cases hlt : k < la
      · obtain ⟨b, off, rfl, _, _, hc⟩ := HP.out.resolve_left (by omega)
        have ck := hc k hlt
        by_cases he : mayAt xs k
        · have HN := Lib.hid (lt_succ_all hp.out he)
          obtain ⟨e1, e2, e3⟩ := he
          obtain ⟨u, hu⟩ : ∃ u : Nat, xs.getD k 0 = u := ⟨(xs.getD k 0).toNat, by omega⟩
          rw [hu] at ck e1 e2 e3
          have cu := hc u (by omega)
          rw [Int.toNat_natCast] at e3
          rw [e3] at cu
          have hs : ((u : Int) != (u : Int)) = false := by simp
          have hu1 : (u : Int) < la := by omega
          have hul : u < la := by omega
          clear hc hp hu e3
          go_wp2_with fail
          go_round
          case rel => exact ⟨k + 1, by omega, by go_num, HN⟩
          case measure => simp [intOf]; omega
        · have HN := Lib.hid (mayB_no HL.out hlt he)
          by_cases e1 : 0 ≤ xs.getD k 0
          · obtain ⟨u, hu⟩ : ∃ u : Nat, xs.getD k 0 = u := ⟨(xs.getD k 0).toNat, by omega⟩
            by_cases e2 : (u : Int) ≤ k
            · have e3 : ¬ xs.getD u 0 = u := fun e3 => he ⟨e1, by rw [hu]; exact e2, by rw [hu]; simpa using e3⟩
              have cu := hc u (by omega)
              rw [hu] at ck e1
              have hs : (xs.getD u 0 != (u : Int)) = true := by simpa using e3
              generalize xs.getD u 0 = v at *
              have hu1 : (u : Int) < la := by omega
              have hul : u < la := by omega
              clear hc hp hu e3 he
              go_wp2_with fail
              go_ret
              exact ⟨ret_bool HN.out.symm, rfl⟩
            · rw [hu] at ck e1
              have e2 : (k : Int) < u := by omega
              clear hc hp hu he
              go_wp2_with fail
              go_ret
              exact ⟨ret_bool HN.out.symm, rfl⟩
          · have e1 : xs.getD k 0 < 0 := by omega
            generalize xs.getD k 0 = v at *
            clear hc hp he
            go_wp2_with fail
            go_ret
            exact ⟨ret_bool HN.out.symm, rfl⟩
      · obtain rfl : k = la := by omega
        have HN := Lib.hid (mayB_yes HL.out h6 hp.out)
        clear hp
        go_wp2_with fail
        go_ret
        exact ⟨ret_bool HN.out.symm, rfl⟩
  · have HN := Lib.hid (mayB_long hp.1 h6)
    clear hp
    go_enter Try.func10, Try.ntmps10
    go_wp2_with fail
    go_ret
    exact ⟨ret_bool HN.out.symm, rfl⟩

theorem rmay_any (a : Option Addr) (la ca : Nat) (xs : List Int) (w : World) {lo hi : Nat} (hp : Row lo hi w a la xs) (hm : la ≤ 9223372036854775807) :
    Calls Try.prog 11 #[.slice a la ca] w fun e w' => e = .returned (.bool (mayB xs)) ∧ ∃ n, w' = w.drewN n := by
  have HL := Lib.hid hp.1
  have HP := Lib.hid hp.2
  clear hp
  go_enter Try.func11, Try.ntmps11
  go_wp2_with fail
  go_loopw [3] (fun i wr => ∃ k n : Nat, k ≤ la ∧ i = .int .i64 k ∧ wr = w.drewN n ∧ Hid (∀ i, i < k → mayAt xs i)) (fun i _ => la - (intOf i).toNat)
  case atStart => exact ⟨0, 0, Nat.zero_le _, rfl, rfl, fun i hi => absurd hi (by omega)⟩
  case round =>
    obtain ⟨k, n, hk, rfl, rfl, hp⟩ := hrel
    by_cases hlt : k < la
    · obtain ⟨b, off, rfl, _, _, hc⟩ := HP.out.resolve_left (by omega)
      have ck := hc k hlt
      have hk0 : (0 : Int) ≤ k := by omega
      have hk1 : (k : Int) < la := by omega
      by_cases he : mayAt xs k
      · have HN := Lib.hid (lt_succ_all hp.out he)
        obtain ⟨e1, e2, e3⟩ := he
        obtain ⟨u, hu⟩ : ∃ u : Nat, xs.getD k 0 = u := ⟨(xs.getD k 0).toNat, by omega⟩
        rw [hu] at ck e1 e2 e3
        have cu := hc u (by omega)
        rw [Int.toNat_natCast] at e3
        rw [e3] at cu
        have hs : ((u : Int) != (u : Int)) = false := by simp
        have hu1 : (u : Int) < la := by omega
        have hul : u < la := by omega
        have d1 : decide ((u : Int) < 0) = false := by simp
        have d2 : decide (k < u) = false := by simp; omega
        clear hc hp hu e3
        go_wp2_with fail
        go_quiet (fail)
        go_wp2_with fail
        go_roundw
        case rel => exact ⟨k + 1, _, by omega, by go_num, rfl, HN⟩
        case measure => simp [intOf]; omega
      · have HN := Lib.hid (mayB_no HL.out hlt he)
        by_cases e1 : 0 ≤ xs.getD k 0
        · obtain ⟨u, hu⟩ : ∃ u : Nat, xs.getD k 0 = u := ⟨(xs.getD k 0).toNat, by omega⟩
          by_cases e2 : (u : Int) ≤ k
          · have e3 : ¬ xs.getD u 0 = u := fun e3 => he ⟨e1, by rw [hu]; exact e2, by rw [hu]; simpa using e3⟩
            have cu := hc u (by omega)
            rw [hu] at ck e1
            have hs : (xs.getD u 0 != (u : Int)) = true := by simpa using e3
            generalize xs.getD u 0 = v at *
            have hu1 : (u : Int) < la := by omega
            have hul : u < la := by omega
            have d1 : decide ((u : Int) < 0) = false := by simp
            have d2 : decide (k < u) = false := by simp; omega
            clear hc hp hu e3 he
            go_wp2_with fail
            go_quiet (fail)
            go_wp2_with fail
            go_ret
            exact ⟨ret_bool HN.out.symm, _, by first | exact rfl | exact World.drewN_drewN _ _ _⟩
          · rw [hu] at ck e1
            have d1 : decide ((u : Int) < 0) = false := by simp
            have e2 : decide (k < u) = true := by simp; omega
            clear hc hp hu he
            go_wp2_with fail
            go_quiet (fail)
            go_wp2_with fail
            go_ret
            exact ⟨ret_bool HN.out.symm, _, by first | exact rfl | exact World.drewN_drewN _ _ _⟩
        · have e1 : decide (xs.getD k 0 < 0) = true := by simp at e1 ⊢; omega
          generalize xs.getD k 0 = v at *
          clear hc hp he
          go_wp2_with fail
          go_quiet (fail)
          go_wp2_with fail
          go_ret
          exact ⟨ret_bool HN.out.symm, _, by first | exact rfl | exact World.drewN_drewN _ _ _⟩
    · obtain rfl : k = la := by omega
      have HN : Hid (decide ((k : Int) ≤ 65536) = mayB xs) := by
        have := HL.out
        unfold mayB
        show _ = _
        rw [decide_eq_decide]
        exact ⟨fun h => ⟨by omega, by rw [this]; exact hp.out⟩, fun h => by omega⟩
      clear hp
      go_wp2_with fail
      go_ret
      exact ⟨ret_bool HN.out, _, rfl⟩

end Go.Proofs.Ytodkdjgpmfegcaa
