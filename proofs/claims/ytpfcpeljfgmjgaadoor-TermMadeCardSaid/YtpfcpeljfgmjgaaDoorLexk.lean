/- Contracts: what kind a row is (package lex), whether it is a name or a Con (both). -/
import Derived.Test.YtpfcpeljfgmjgaaDoorLexw
namespace Go.Proofs.YtpfcpeljfgmjgaaDoor
open Go.RowKit
set_option linter.unusedVariables false
set_option linter.unusedSimpArgs false

theorem rowL_all (p : Nat → Bool) : ∀ l : By, (rowL p l).length = l.length ↔ l.all (fun c => p c.toNat) = true
  | [] => by simp [rowL]
  | c :: r => by
    have ih := rowL_all p r
    unfold rowL
    by_cases h : p c.toNat = true
    · rw [if_pos h]; simp [h, ih]
    · rw [if_neg h]; simp [h]
theorem rowB_iff (l : By) : rowB l = true ↔ l.length ≠ 0 ∧ l.length ≤ 30 ∧ (rowL resN l).length = l.length := by
  unfold rowB
  rw [rowL_all]
  simp [List.length_eq_zero_iff, and_assoc]
theorem len_data (s : ByteArray) : s.data.toList.length = s.size := by simp
theorem kindL_no {l : By} (h : ¬ rowB l = true) : kindL l = 0 := by unfold kindL; rw [if_pos (by simpa using h)]
theorem head_data (s : ByteArray) (h : 0 < s.size) : s.data.toList.headD 0 = s[0] := by
  have := drop_at s 0 h
  rw [List.drop_zero] at this
  rw [this]; rfl
theorem kindL_yes {s : ByteArray} (h : rowB s.data.toList = true) (h0 : 0 < s.size) : kindL s.data.toList = if wordB s.data.toList then 4 else if lowN s[0].toNat then 1 else if uppN s[0].toNat then 2 else 0 := by
  unfold kindL; rw [if_neg (by rw [h]; simp), head_data s h0]
theorem toList_ne {s : ByteArray} (h : 0 < s.size) : (s.toList == []) = false := by
  rw [Lib.toList_data]
  cases e : (s.data.toList == [])
  · rfl
  · exfalso
    simp at e
    rw [ByteArray.size, e] at h
    simp at h

theorem word_low {l : By} (h : wordB l = true) : lowN (l.headD 0).toNat = true := by
  rw [wordB_or] at h
  simp only [Bool.or_eq_true, beq_iff_eq] at h
  rcases h with h | h | h | h | h | h | h | h | h | h <;> subst h <;> decide
theorem low_upp {n : Nat} (h : lowN n = true) : uppN n = false := by
  simp [lowN] at h; simp [uppN]; omega
/-- A name; a Con. -/
def nameL (l : By) : Bool := kindL l == 1
def conL (l : By) : Bool := kindL l == 2
theorem nameL_eq (l : By) : nameL l = (rowB l && (lowN (l.headD 0).toNat && !wordB l)) := by
  unfold nameL kindL
  cases rowB l <;> cases wordB l <;> cases lowN (l.headD 0).toNat <;> cases uppN (l.headD 0).toNat <;> rfl
theorem conL_eq (l : By) : conL l = (rowB l && uppN (l.headD 0).toNat) := by
  unfold conL kindL
  cases hr : rowB l
  · rfl
  cases hw : wordB l
  · cases hl : lowN (l.headD 0).toNat
    · cases hu : uppN (l.headD 0).toNat <;> rfl
    · rw [low_upp hl]; rfl
  · rw [low_upp (word_low hw)]; rfl

set_option maxHeartbeats 1000000 in
theorem r_row (s : ByteArray) (w : World) (hs : s.size ≤ maxLen) :
    Calls Tryd.prog 109 #[.string s] w fun e w' => e = .returned (.bool (rowB s.data.toList)) ∧ w' = w := by
  unfold maxLen at hs
  go_enter Tryd.func109, Tryd.ntmps109
  go_wp2
  go_loop [3] (fun i => ∃ k : Nat, k ≤ s.size ∧ i = .int .i64 k ∧ (rowL resN s.data.toList).length = k + (rowL resN (s.data.toList.drop k)).length) (fun i => s.size - (intOf i).toNat)
  case atStart => exact ⟨0, Nat.zero_le _, rfl, by simp⟩
  case round =>
    obtain ⟨k, hk, rfl, hr⟩ := hrel
    have HR := Lib.hid hr
    clear hr
    by_cases hlt : k < s.size
    · have hb : s[k].toNat ≤ 255 := byte_le _
      cases hp : resN s[k].toNat
      · go_wp2_with (go_at_call 125; refine (r_rest _ _ hb).mono ?_; rw [hp]; rintro e w' ⟨rfl, rfl⟩)
        go_ret
        refine ⟨ret_bool ?_, rfl⟩
        rw [Bool.eq_iff_iff, rowB_iff, HR.out, rowL_stop s k hlt hp, len_data]; simp; omega
      · go_wp2_with (go_at_call 125; refine (r_rest _ _ hb).mono ?_; rw [hp]; rintro e w' ⟨rfl, rfl⟩)
        go_round
        case rel => exact ⟨k + 1, by omega, by go_num, by rw [HR.out, rowL_step s k hlt hp]; omega⟩
        case measure => simp [intOf]; omega
    · have hr2 : (rowL resN s.data.toList).length = s.size := by rw [HR.out, List.drop_of_length_le (by simp; omega)]; simp [rowL]; omega
      have HR2 := Lib.hid hr2
      clear hr2
      by_cases h0 : s.size = 0
      · have e0 : s = ⟨#[]⟩ := by apply ByteArray.ext; exact Array.eq_empty_of_size_eq_zero h0
        subst e0
        go_wp2
        go_ret
        exact ⟨rfl, rfl⟩
      · have e1 := toList_ne (s := s) (by omega)
        go_wp2
        go_ret
        refine ⟨ret_bool ?_, rfl⟩
        rw [Bool.eq_iff_iff, rowB_iff, HR2.out, len_data]
        constructor
        · intro h
          have h' := of_decide_eq_true h
          exact ⟨h0, by omega, rfl⟩
        · intro h
          have h' := h.2.1
          exact decide_eq_true (by omega)

set_option maxHeartbeats 1000000 in
theorem r_Con (s : ByteArray) (w : World) (hs : s.size ≤ maxLen) :
    Calls Tryd.prog 86 #[.string s] w fun e w' => e = .returned (.bool (conL s.data.toList)) ∧ w' = w := by
  rw [conL_eq]
  cases hr : rowB s.data.toList
  · go_enter Tryd.func86, Tryd.ntmps86
    go_wp2_with (go_at_call 109; refine (r_row _ _ hs).mono ?_; rw [hr]; rintro e w' ⟨rfl, rfl⟩)
    go_ret
    exact ⟨rfl, rfl⟩
  · have hpos : 0 < s.size := by have := (rowB_iff _).1 hr; rw [len_data] at this; omega
    rw [head_data s hpos]
    have hb : s[0].toNat ≤ 255 := byte_le _
    have HS := Lib.hid hs
    clear hs
    cases hl : uppN s[0].toNat
    all_goals
      go_enter Tryd.func86, Tryd.ntmps86
      go_wp2_with (first
        | (go_at_call 109; refine (r_row _ _ HS.out).mono ?_; rw [hr]; rintro e w' ⟨rfl, rfl⟩)
        | (go_at_call 110; refine (r_upper _ _ hb).mono ?_; rw [hl]; rintro e w' ⟨rfl, rfl⟩))
      go_ret
      exact ⟨rfl, rfl⟩

end Go.Proofs.YtpfcpeljfgmjgaaDoor
