/- Package term: what may be (isCon, mayHave, mayNode), and the document's. -/
import Derived.Test.YtpfcpeljfgmjgaaDoorKbs
import Derived.Test.YtpfcpeljfgmjgaaDoorKma
import Derived.Test.YtpfcpeljfgmjgaaDoorLexk
namespace Go.Proofs.YtpfcpeljfgmjgaaDoor
open Go.RowKit
set_option linter.unusedVariables false
set_option linter.unusedSimpArgs false

theorem ty_isUpper (c : Nat) (w : World) (hc : c ≤ 255) :
    Calls Tryd.prog 129 #[.int .u8 (c : Int)] w fun e w' => e = .returned (.bool (uppN c)) ∧ w' = w := by
  go_enter Tryd.func129, Tryd.ntmps129
  go_wp2
  all_goals
    go_ret
    refine ⟨ret_bool ?_, rfl⟩
    rw [Bool.eq_iff_iff]; simp [uppN]; omega
theorem ty_isLower (c : Nat) (w : World) (hc : c ≤ 255) :
    Calls Tryd.prog 135 #[.int .u8 (c : Int)] w fun e w' => e = .returned (.bool (lowN c)) ∧ w' = w := by
  go_enter Tryd.func135, Tryd.ntmps135
  go_wp2
  all_goals
    go_ret
    refine ⟨ret_bool ?_, rfl⟩
    rw [Bool.eq_iff_iff]; simp [lowN]; omega
theorem ty_isDigit (c : Nat) (w : World) (hc : c ≤ 255) :
    Calls Tryd.prog 136 #[.int .u8 (c : Int)] w fun e w' => e = .returned (.bool (digN c)) ∧ w' = w := by
  go_enter Tryd.func136, Tryd.ntmps136
  go_wp2
  all_goals
    go_ret
    refine ⟨ret_bool ?_, rfl⟩
    rw [Bool.eq_iff_iff]; simp [digN]; omega
theorem ty_isOfName (c : Nat) (w : World) (hc : c ≤ 255) :
    Calls Tryd.prog 130 #[.int .u8 (c : Int)] w fun e w' => e = .returned (.bool (resN c)) ∧ w' = w := by
  go_enter Tryd.func130, Tryd.ntmps130
  have e1 : (((c : Nat) : Int) == 95) = decide (c = 95) := by rw [Bool.eq_iff_iff]; simp; omega
  cases h1 : lowN c <;> cases h2 : uppN c <;> cases h3 : digN c
  all_goals
    go_wp2_with (first
      | (go_at_call 135; refine (ty_isLower _ _ hc).mono ?_; rw [h1]; rintro e w' ⟨rfl, rfl⟩)
      | (go_at_call 129; refine (ty_isUpper _ _ hc).mono ?_; rw [h2]; rintro e w' ⟨rfl, rfl⟩)
      | (go_at_call 136; refine (ty_isDigit _ _ hc).mono ?_; rw [h3]; rintro e w' ⟨rfl, rfl⟩))
    go_ret
    refine ⟨ret_bool ?_, rfl⟩
    simp [resN, h1, h2, h3]

set_option maxHeartbeats 1000000 in
theorem ty_isCon (s : ByteArray) (w : World) (hs : s.size ≤ maxLen) :
    Calls Tryd.prog 124 #[.string s] w fun e w' => e = .returned (.bool (conN s.data.toList)) ∧ w' = w := by
  unfold maxLen at hs
  by_cases h0 : s.size = 0
  · have e0 : s = ⟨#[]⟩ := by apply ByteArray.ext; exact Array.eq_empty_of_size_eq_zero h0
    subst e0
    go_enter Tryd.func124, Tryd.ntmps124
    go_wp2
    go_ret
    exact ⟨rfl, rfl⟩
  · have e1 := toList_ne (s := s) (by omega)
    have hpos : 0 < s.size := by omega
    by_cases h30 : 30 < s.size
    · have e2 : decide ((30 : Int) < (s.size : Int)) = true := decide_eq_true (by omega)
      have hF : conN s.data.toList = false := by
        cases hb : rowB s.data.toList with
        | false => unfold conN; rw [hb]; rfl
        | true => have := (rowB_iff _).1 hb; rw [len_data] at this; omega
      rw [hF]
      clear hF
      go_enter Tryd.func124, Tryd.ntmps124
      go_wp2_with fail
      go_ret
      exact ⟨rfl, rfl⟩
    · have e2 : decide ((30 : Int) < (s.size : Int)) = false := decide_eq_false (by omega)
      have hb0 : s[0].toNat ≤ 255 := byte_le _
      cases hu : uppN s[0].toNat with
      | false =>
        have hF : conN s.data.toList = false := by unfold conN; rw [head_data s hpos, hu, Bool.and_false]
        rw [hF]
        clear hF
        go_enter Tryd.func124, Tryd.ntmps124
        go_wp2_with (go_at_call 129; refine (ty_isUpper _ _ hb0).mono ?_; rw [hu]; rintro e w' ⟨rfl, rfl⟩)
        go_ret
        exact ⟨rfl, rfl⟩
      | true =>
        have HF : Hid (conN s.data.toList = decide ((rowL resN s.data.toList).length = s.size)) := by
          show _ = _
          unfold conN
          rw [head_data s hpos, hu, Bool.and_true, Bool.eq_iff_iff, rowB_iff, len_data]
          constructor
          · intro h; exact decide_eq_true h.2.2
          · intro h; exact ⟨h0, by omega, of_decide_eq_true h⟩
        go_enter Tryd.func124, Tryd.ntmps124
        go_wp2_with (go_at_call 129; refine (ty_isUpper _ _ hb0).mono ?_; rw [hu]; rintro e w' ⟨rfl, rfl⟩)
        go_loop [19] (fun i => ∃ k : Nat, k ≤ s.size ∧ i = .int .i64 k ∧ (rowL resN s.data.toList).length = k + (rowL resN (s.data.toList.drop k)).length) (fun i => s.size - (intOf i).toNat)
        case atStart => exact ⟨0, Nat.zero_le _, rfl, by simp⟩
        case round =>
          obtain ⟨k, hk, rfl, hr⟩ := hrel
          have HR := Lib.hid hr
          clear hr
          by_cases hlt : k < s.size
          · have hb : s[k].toNat ≤ 255 := byte_le _
            cases hp : resN s[k].toNat
            · go_wp2_with (go_at_call 130; refine (ty_isOfName _ _ hb).mono ?_; rw [hp]; rintro e w' ⟨rfl, rfl⟩)
              go_ret
              refine ⟨ret_bool ?_, rfl⟩
              rw [HF.out, HR.out, rowL_stop s k hlt hp]; simp; omega
            · go_wp2_with (go_at_call 130; refine (ty_isOfName _ _ hb).mono ?_; rw [hp]; rintro e w' ⟨rfl, rfl⟩)
              go_round
              case rel => exact ⟨k + 1, by omega, by go_num, by rw [HR.out, rowL_step s k hlt hp]; omega⟩
              case measure => simp [intOf]; omega
          · have hr2 : (rowL resN s.data.toList).length = s.size := by rw [HR.out, List.drop_of_length_le (by simp; omega)]; simp [rowL]; omega
            have HR2 := Lib.hid hr2
            clear hr2
            go_wp2_with fail
            go_ret
            refine ⟨ret_bool ?_, rfl⟩
            rw [HF.out, HR2.out]; simp

/-- A name against `->` and `,`. -/
theorem toList_dec (z : ByteArray) (l : By) : (z.toList == l) = decide (z.data.toList = l) := by
  rw [Bool.eq_iff_iff]; simp [ByteArray.toList_eq]
def haveL (s : By) (m : Nat) : Bool := if s = tArrow then decide (m = 2) else if s = tComma then decide (2 ≤ m) && decide (m ≤ 8) else conN s && decide (m ≤ 20)
set_option maxHeartbeats 1000000 in
theorem ty_mayHave (z : ByteArray) (s : By) (hz : z.data.toList = s) (m : Nat) (w : World) (hs : z.size ≤ maxLen) (hm : m ≤ maxLen) :
    Calls Tryd.prog 108 #[.string z, .int .i64 (m : Int)] w fun e w' => e = .returned (.bool (haveL s m)) ∧ w' = w := by
  have HC := Lib.hid (fun (W : World) => ty_isCon z W hs)
  unfold maxLen at hm
  by_cases h1 : s = tArrow
  · have e1 : (z.toList == [45, 62]) = true := by rw [toList_dec, hz]; exact decide_eq_true h1
    have hF : haveL s m = decide (m = 2) := if_pos h1
    have e9 : ((m : Int) == 2) = decide (m = 2) := by rw [Bool.eq_iff_iff]; simp; omega
    rw [hF]
    clear hF h1 hz HC
    go_enter Tryd.func108, Tryd.ntmps108
    go_wp2_with fail
    go_ret
    refine ⟨ret_bool ?_, rfl⟩
    first | exact e9 | (simp; try omega)
  · have e1 : (z.toList == [45, 62]) = false := by rw [toList_dec, hz]; exact decide_eq_false h1
    by_cases h2 : s = tComma
    · have e2 : (z.toList == [44]) = true := by rw [toList_dec, hz]; exact decide_eq_true h2
      have hF : haveL s m = (decide (2 ≤ m) && decide (m ≤ 8)) := by unfold haveL; rw [if_neg h1, if_pos h2]
      rw [hF]
      clear hF h1 h2 hz HC
      by_cases h3 : 2 ≤ m
      · have e3 : decide ((2 : Int) ≤ (m : Int)) = true := decide_eq_true (by omega)
        go_enter Tryd.func108, Tryd.ntmps108
        go_wp2_with fail
        go_ret
        refine ⟨ret_bool ?_, rfl⟩
        rw [Bool.eq_iff_iff]; simp; omega
      · have e3 : decide ((2 : Int) ≤ (m : Int)) = false := decide_eq_false (by omega)
        go_enter Tryd.func108, Tryd.ntmps108
        go_wp2_with fail
        go_ret
        refine ⟨ret_bool ?_, rfl⟩
        rw [Bool.eq_iff_iff]; simp
        try omega
    · have e2 : (z.toList == [44]) = false := by rw [toList_dec, hz]; exact decide_eq_false h2
      have hF : haveL s m = (conN s && decide (m ≤ 20)) := by unfold haveL; rw [if_neg h1, if_neg h2]
      rw [hF]
      rw [hz] at HC
      obtain ⟨v, hv⟩ : ∃ v, conN s = v := ⟨_, rfl⟩
      rw [hv] at HC ⊢
      clear hF h1 h2 hz hv
      cases v with
      | true =>
        go_enter Tryd.func108, Tryd.ntmps108
        go_wp2_with (go_at_call 124; refine (HC.out _).mono ?_; rintro e w' ⟨rfl, rfl⟩)
        go_ret
        refine ⟨ret_bool ?_, rfl⟩
        rw [Bool.eq_iff_iff]; simp
        try omega
      | false =>
        go_enter Tryd.func108, Tryd.ntmps108
        go_wp2_with (go_at_call 124; refine (HC.out _).mono ?_; rintro e w' ⟨rfl, rfl⟩)
        go_ret
        exact ⟨rfl, rfl⟩
theorem headMay_eq (k n : Int) (s : By) (m : Nat) : headMay k n s m = if k = 1 then decide (0 ≤ n) && decide (n ≤ 2147483647) && decide (s = []) && decide (m = 0) else if k = 2 then decide (n = 0) && haveL s m else false := rfl

set_option maxRecDepth 100000 in
set_option maxHeartbeats 4000000 in
theorem ty_mayNode (k n : Int) (z : ByteArray) (s : By) (hz : z.data.toList = s) (a : Option Addr) (m c : Nat) (w : World) (hs : z.size ≤ maxLen) (hm : m ≤ maxLen) :
    Calls Tryd.prog 85 #[.agg #[.int .i64 k, .int .i64 n, .string z, .slice a m c]] w fun e w' => e = .returned (.bool (headMay k n s m)) ∧ Below w.heap.size w w' := by
  have HH := Lib.hid (fun (W : World) => ty_mayHave z s hz m W hs hm)
  unfold maxLen at hm
  have HB : Hid (Below w.heap.size w (w.alloc (.cells #[.int .i64 k, .int .i64 n, .string z, .slice a m c] 47))) := (Below.refl _ w).alloc (Nat.le_refl _) _
  rw [headMay_eq]
  by_cases h1 : k = 1
  · subst h1
    rw [if_pos rfl]
    have e3 : (z.toList == []) = decide (s = []) := by rw [toList_dec, hz]
    have e4 : ((m : Int) == 0) = decide (m = 0) := by rw [Bool.eq_iff_iff]; simp
    obtain ⟨v3, hv3⟩ : ∃ v, decide (s = []) = v := ⟨_, rfl⟩
    obtain ⟨v4, hv4⟩ : ∃ v, decide (m = 0) = v := ⟨_, rfl⟩
    obtain ⟨v1, hv1⟩ : ∃ v, decide ((0 : Int) ≤ n) = v := ⟨_, rfl⟩
    obtain ⟨v2, hv2⟩ : ∃ v, decide (n ≤ (2147483647 : Int)) = v := ⟨_, rfl⟩
    rw [hv3] at e3
    rw [hv4] at e4
    rw [hv1, hv2, hv3, hv4]
    clear hz hv3 hv4 HH
    cases v1 <;> cases v2 <;> cases v3 <;> cases v4
    all_goals
      go_enter Tryd.func85, Tryd.ntmps85
      go_wp2_with fail
      go_ret
      exact ⟨rfl, HB.out⟩
  · have e1 : (k == 1) = false := by simpa using h1
    rw [if_neg h1]
    by_cases h2 : k = 2
    · subst h2
      rw [if_pos rfl]
      have e3 : (n == 0) = decide (n = 0) := by rw [Bool.eq_iff_iff]; simp
      obtain ⟨v3, hv3⟩ : ∃ v, decide (n = 0) = v := ⟨_, rfl⟩
      obtain ⟨v4, hv4⟩ : ∃ v, haveL s m = v := ⟨_, rfl⟩
      rw [hv3] at e3
      rw [hv4] at HH
      rw [hv3, hv4]
      clear hz hv3 hv4 h1
      cases v3
      all_goals
        go_enter Tryd.func85, Tryd.ntmps85
        go_wp2_with (go_at_call 108; refine (HH.out _).mono ?_; rintro e w' ⟨rfl, rfl⟩)
        go_ret
        exact ⟨rfl, HB.out⟩
    · have e2 : (k == 2) = false := by simpa using h2
      rw [if_neg h2]
      clear h1 h2 hz
      go_enter Tryd.func85, Tryd.ntmps85
      go_wp2_with fail
      go_ret
      exact ⟨rfl, HB.out⟩

end Go.Proofs.YtpfcpeljfgmjgaaDoor
