/- The walk of the law PartAll: it returns true and changes nothing that was there. -/
import Derived.Test.YtodkdjgpmfegcaaLawlaws
namespace Go.Proofs.Ytodkdjgpmfegcaa
open Go.RowKit
set_option linter.unusedVariables false

/-- The contracts that both branches want, of a list that came in. -/
theorem all_early (a : Option Addr) (la ca : Nat) (xs : List Int) (w : World) (hx : Row 0 w.heap.size w a la xs) (hm : la ≤ 9223372036854775807) (m : Bool) (h : mayB xs = m) :
    (∀ w', Below w.heap.size w w' → Calls Try.prog 10 #[.slice a la ca] w' fun e w'' => e = .returned (.bool m) ∧ Below w.heap.size w w'') ∧
    (∀ w', Below w.heap.size w w' → Calls Try.prog 11 #[.slice a la ca] w' fun e w'' => e = .returned (.bool m) ∧ Below w.heap.size w w'') :=
  ⟨lift fun w' hb => may_b a la ca xs w' (hx.below hb (Nat.le_refl _)) hm m h, lift fun w' hb => rmay_b a la ca xs w' (hx.below hb (Nat.le_refl _)) hm m h⟩

theorem new_then (n : Int) (w : World) : ∀ w', Below w.heap.size w w' → Calls Try.prog 13 #[.int .i64 n] w' fun e w'' => ∃ g, e = .returned (.slice (some ⟨g, 0, none⟩) (cutN n) (cutN n)) ∧ Hid (RowN w.heap.size w''.heap.size w'' (some ⟨g, 0, none⟩) (cutN n) (List.range (cutN n))) ∧ Below w.heap.size w w'' := fun w' h =>
  (new_any n w').mono fun e w'' ⟨g, h1, h2, h3, h4, h5⟩ => ⟨g, h1, h4.rowN (by simp) (Nat.le_trans h.size h2) h3, h.trans (h5.mono h.size)⟩
theorem rnew_then (n : Int) (w : World) : ∀ g w', Hid (RowN w.heap.size w'.heap.size w' (some ⟨g, 0, none⟩) (cutN n) (List.range (cutN n))) → Below w.heap.size w w' → Calls Try.prog 14 #[.int .i64 n] w' fun e w'' =>
    ∃ a c, e = .returned (.slice a (cutN n) c) ∧ Hid (RowN w.heap.size w''.heap.size w'' (some ⟨g, 0, none⟩) (cutN n) (List.range (cutN n))) ∧ Hid (RowN w.heap.size w''.heap.size w'' a (cutN n) (List.range (cutN n))) ∧ Below w.heap.size w w'' := fun g w' hr h =>
  (rnew_any n w').mono fun e w'' ⟨a, c, h1, h2, h3, h4⟩ => ⟨a, c, h1, (hr.out.below h4 (Nat.le_refl _)).mono (Nat.le_refl _) h4.size, h2.mono h.size (Nat.le_refl _), h.trans (h4.mono h.size)⟩
theorem ints_then (n : Nat) (p : List Nat) (w : World) (hm : n ≤ 9223372036854775807) : ∀ a c b d w', Hid (RowN w.heap.size w'.heap.size w' a n p) → Hid (RowN w.heap.size w'.heap.size w' b n p) → Below w.heap.size w w' →
    Calls Try.prog 12 #[.slice a n c, .slice b n d] w' fun e w'' => e = .returned (.bool true) ∧ Below w.heap.size w w'' := fun a c b d w' h1 h2 h =>
  (ints_b a b n n c d p p w' h1.out h2.out hm true (by simp)).mono fun e w'' ⟨h3, h4⟩ => ⟨h3, h.trans (h4.mono h.size)⟩
theorem unite_then (a : Option Addr) (la ca : Nat) (p : List Nat) (x y : Int) (w : World) (hp : RowN 0 w.heap.size w a la p) (hm : la ≤ 1000000) : ∀ w', Below w.heap.size w w' → Calls Try.prog 17 #[.slice a la ca, .int .i64 x, .int .i64 y] w' fun e w'' =>
    ∃ a' c', e = .returned (.slice a' la c') ∧ Hid (RowN w.heap.size w''.heap.size w'' a' la (uniL p x y)) ∧ Below w.heap.size w w'' := fun w' h =>
  (unite_any a la ca p x y w' (hp.below h (Nat.le_refl _)) h.size hm).mono fun e w'' ⟨a', c', h1, h2, h3⟩ => ⟨a', c', h1, h2.mono h.size (Nat.le_refl _), h.trans (h3.mono h.size)⟩
theorem runite_then (a : Option Addr) (la ca : Nat) (p : List Nat) (x y : Int) (w : World) (hp : RowN 0 w.heap.size w a la p) (hm : la ≤ 1000000) (hnil : a = none → ca = 0) : ∀ b w', Hid (RowN w.heap.size w'.heap.size w' b la (uniL p x y)) → Below w.heap.size w w' → Calls Try.prog 18 #[.slice a la ca, .int .i64 x, .int .i64 y] w' fun e w'' =>
    ∃ a' c', e = .returned (.slice a' la c') ∧ Hid (RowN w.heap.size w''.heap.size w'' b la (uniL p x y)) ∧ Hid (RowN w.heap.size w''.heap.size w'' a' la (uniL p x y)) ∧ Below w.heap.size w w'' := fun b w' hr h =>
  (runite_any a la ca p x y w' (hp.below h (Nat.le_refl _)) h.size hm hnil).mono fun e w'' ⟨a', c', h1, h2, _, h3⟩ => ⟨a', c', h1, (hr.out.below h3 (Nat.le_refl _)).mono (Nat.le_refl _) h3.size, h2.mono h.size (Nat.le_refl _), h.trans (h3.mono h.size)⟩

set_option maxRecDepth 100000 in
set_option maxHeartbeats 2000000 in
theorem all_law (a b : Option Addr) (la ca lb cb : Nat) (xs ys : List Int) (x y n : Int) (w : World) (hx : Row 0 w.heap.size w a la xs) (hy : Row 0 w.heap.size w b lb ys) (hna : a = none → ca = 0) :
    Calls Try.prog 3 #[.slice a la ca, .slice b lb cb, .int .i64 x, .int .i64 y, .int .i64 n] w fun e w' => e = .returned (.bool true) ∧ Below w.heap.size w w' := by
  have HX := Lib.hid hx
  have HY := Lib.hid hy
  have HNA := Lib.hid hna
  clear hx hy hna
  have HAW := Lib.hid (lift (w6 := w) fun w' _ => awake_any w')
  have HB : Below w.heap.size w w := Below.refl _ _
  by_cases h1 : 100 < la
  · go_enter Try.func3, Try.ntmps3
    go_wp2_with (go_at_call 9; (with_reducible refine (HAW.out _ HB).mono ?_); clear HB; rintro e wz ⟨rfl, HB⟩)
    go_ret
    exact ⟨rfl, HB⟩
  · by_cases h2 : 100 < lb
    · go_enter Try.func3, Try.ntmps3
      go_wp2_with (go_at_call 9; (with_reducible refine (HAW.out _ HB).mono ?_); clear HB; rintro e wz ⟨rfl, HB⟩)
      go_ret
      exact ⟨rfl, HB⟩
    · by_cases h3 : 300 < n
      · go_enter Try.func3, Try.ntmps3
        go_wp2_with (go_at_call 9; (with_reducible refine (HAW.out _ HB).mono ?_); clear HB; rintro e wz ⟨rfl, HB⟩)
        go_ret
        exact ⟨rfl, HB⟩
      · obtain ⟨mx, hmx⟩ : ∃ v, mayB xs = v := ⟨_, rfl⟩
        obtain ⟨my, hmy⟩ : ∃ v, mayB ys = v := ⟨_, rfl⟩
        have e1 := all_early a la ca xs w HX.out (by omega) mx hmx
        have e2 := all_early b lb cb ys w HY.out (by omega) my hmy
        have HMX := Lib.hid e1.1
        have HRX := Lib.hid e1.2
        have HRY := Lib.hid e2.2
        have HNEW := Lib.hid (new_then n w)
        have HRNEW := Lib.hid (rnew_then n w)
        have HNI := Lib.hid (ints_then (cutN n) (List.range (cutN n)) w (by have := cutN_le n; omega))
        clear e1 e2
        cases mx with
        | false =>
          clear hmx hmy
          go_enter Try.func3, Try.ntmps3
          go_wp2_with (first
            | (go_at_call 10; (with_reducible refine (HMX.out _ HB).mono ?_); clear HB; rintro e wz ⟨rfl, HB⟩)
            | (go_at_call 11; (with_reducible refine (HRX.out _ HB).mono ?_); clear HB; rintro e wz ⟨rfl, HB⟩)
            | (go_at_call 13; (with_reducible refine (HNEW.out _ HB).mono ?_); clear HB; rintro e wz ⟨g1, rfl, hr1, HB⟩)
            | (go_at_call 14; (with_reducible refine (HRNEW.out _ _ hr1 HB).mono ?_); clear HB hr1; rintro e wz ⟨a2, c2, rfl, hr1, hr2, HB⟩)
            | (go_at_call 12; (with_reducible refine (HNI.out _ _ _ _ _ hr1 hr2 HB).mono ?_); clear HB hr1 hr2; rintro e wz ⟨rfl, HB⟩)
            | (go_at_call 9; (with_reducible refine (HAW.out _ HB).mono ?_); clear HB; rintro e wz ⟨rfl, HB⟩))
          go_ret
          exact ⟨rfl, HB⟩
        | true =>
          cases my with
          | false =>
            clear hmx hmy
            go_enter Try.func3, Try.ntmps3
            go_wp2_with (first
              | (go_at_call 10; (with_reducible refine (HMX.out _ HB).mono ?_); clear HB; rintro e wz ⟨rfl, HB⟩)
              | (go_at_call 11; (with_reducible refine (HRX.out _ HB).mono ?_); clear HB; rintro e wz ⟨rfl, HB⟩)
              | (go_at_call 11; (with_reducible refine (HRY.out _ HB).mono ?_); clear HB; rintro e wz ⟨rfl, HB⟩)
              | (go_at_call 13; (with_reducible refine (HNEW.out _ HB).mono ?_); clear HB; rintro e wz ⟨g1, rfl, hr1, HB⟩)
              | (go_at_call 14; (with_reducible refine (HRNEW.out _ _ hr1 HB).mono ?_); clear HB hr1; rintro e wz ⟨a2, c2, rfl, hr1, hr2, HB⟩)
              | (go_at_call 12; (with_reducible refine (HNI.out _ _ _ _ _ hr1 hr2 HB).mono ?_); clear HB hr1 hr2; rintro e wz ⟨rfl, HB⟩)
              | (go_at_call 9; (with_reducible refine (HAW.out _ HB).mono ?_); clear HB; rintro e wz ⟨rfl, HB⟩))
            go_ret
            exact ⟨rfl, HB⟩
          | true =>
            obtain ⟨gp, np⟩ := good_mayB hmx
            obtain ⟨gq, nq⟩ := good_mayB hmy
            have hp := HX.out.nats (fun i hi => np i (by rw [HX.out.1]; exact hi))
            have hq := HY.out.nats (fun i hi => nq i (by rw [HY.out.1]; exact hi))
            clear hmx hmy np nq
            generalize xs.map Int.toNat = p at *
            generalize ys.map Int.toNat = q at *
            have hkm : la ≤ 9223372036854775807 := by omega
            obtain ⟨s, hs⟩ : ∃ v, sameB p x y = v := ⟨_, rfl⟩
            obtain ⟨l, hl⟩ : ∃ v, leB p q = v := ⟨_, rfl⟩
            obtain ⟨c, hc⟩ : ∃ v, clsN p = v := ⟨_, rfl⟩
            have HS := Lib.hid (lift (w6 := w) fun w' h => same_b a la ca p x y w' (hp.below h (Nat.le_refl _)) hkm s hs)
            have HRS := Lib.hid (lift (w6 := w) fun w' h => rsame_b a la ca p x y w' (hp.below h (Nat.le_refl _)) hkm s hs)
            have HC := Lib.hid (lift (w6 := w) fun w' h => cls_b a la ca p w' (hp.below h (Nat.le_refl _)) hkm c hc)
            have HRC := Lib.hid (lift (w6 := w) fun w' h => rcls_b a la ca p w' (hp.below h (Nat.le_refl _)) hkm c hc)
            have HLE := Lib.hid (lift (w6 := w) fun w' h => le_b a b la ca lb cb p q w' (hp.below h (Nat.le_refl _)) (hq.below h (Nat.le_refl _)) gp hkm l hl)
            have HRLE := Lib.hid (lift (w6 := w) fun w' h => rle_b a b la ca lb cb p q w' (hp.below h (Nat.le_refl _)) (hq.below h (Nat.le_refl _)) gp hkm l hl)
            have HU := Lib.hid (unite_then a la ca p x y w hp (by omega))
            have HRU := Lib.hid (runite_then a la ca p x y w hp (by omega) HNA.out)
            have HUI := Lib.hid (ints_then la (uniL p x y) w hkm)
            clear hs hl hc hp hq gp gq
            go_enter Try.func3, Try.ntmps3
            go_wp2_with (first
              | (go_at_call 10; (with_reducible refine (HMX.out _ HB).mono ?_); clear HB; rintro e wz ⟨rfl, HB⟩)
              | (go_at_call 11; (with_reducible refine (HRX.out _ HB).mono ?_); clear HB; rintro e wz ⟨rfl, HB⟩)
              | (go_at_call 11; (with_reducible refine (HRY.out _ HB).mono ?_); clear HB; rintro e wz ⟨rfl, HB⟩)
              | (go_at_call 13; (with_reducible refine (HNEW.out _ HB).mono ?_); clear HB; rintro e wz ⟨g1, rfl, hr1, HB⟩)
              | (go_at_call 14; (with_reducible refine (HRNEW.out _ _ hr1 HB).mono ?_); clear HB hr1; rintro e wz ⟨a2, c2, rfl, hr1, hr2, HB⟩)
              | (go_at_call 12; (with_reducible refine (HNI.out _ _ _ _ _ hr1 hr2 HB).mono ?_); clear HB hr1 hr2; rintro e wz ⟨rfl, HB⟩)
              | (go_at_call 15; (with_reducible refine (HS.out _ HB).mono ?_); clear HB; rintro e wz ⟨rfl, HB⟩)
              | (go_at_call 16; (with_reducible refine (HRS.out _ HB).mono ?_); clear HB; rintro e wz ⟨rfl, HB⟩)
              | (go_at_call 17; (with_reducible refine (HU.out _ HB).mono ?_); clear HB; rintro e wz ⟨a3, c3, rfl, hr3, HB⟩)
              | (go_at_call 18; (with_reducible refine (HRU.out _ _ hr3 HB).mono ?_); clear HB hr3; rintro e wz ⟨a4, c4, rfl, hr3, hr4, HB⟩)
              | (go_at_call 12; (with_reducible refine (HUI.out _ _ _ _ _ hr3 hr4 HB).mono ?_); clear HB hr3 hr4; rintro e wz ⟨rfl, HB⟩)
              | (go_at_call 19; (with_reducible refine (HC.out _ HB).mono ?_); clear HB; rintro e wz ⟨rfl, HB⟩)
              | (go_at_call 20; (with_reducible refine (HRC.out _ HB).mono ?_); clear HB; rintro e wz ⟨rfl, HB⟩)
              | (go_at_call 21; (with_reducible refine (HLE.out _ HB).mono ?_); clear HB; rintro e wz ⟨rfl, HB⟩)
              | (go_at_call 22; (with_reducible refine (HRLE.out _ HB).mono ?_); clear HB; rintro e wz ⟨rfl, HB⟩)
              | (go_at_call 9; (with_reducible refine (HAW.out _ HB).mono ?_); clear HB; rintro e wz ⟨rfl, HB⟩))
            go_ret
            exact ⟨rfl, HB⟩

end Go.Proofs.Ytodkdjgpmfegcaa
