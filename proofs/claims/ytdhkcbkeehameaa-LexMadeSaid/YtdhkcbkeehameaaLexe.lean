/- Contract of package lex: skip. -/
import Derived.Test.YtdhkcbkeehameaaLexd
namespace Go.Proofs.Ytdhkcbkeehameaa
open Go.RowKit
set_option linter.unusedVariables false
set_option linter.unusedSimpArgs false

abbrev D (s : ByteArray) (k : Nat) : By := s.data.toList.drop k
/-- Nothing at k goes: no blank, no remark. -/
def Stands (s : ByteArray) (k : Nat) : Prop := ∀ h : k < s.size, blaN s[k].toNat = false ∧ ¬ (s[k].toNat = 45 ∧ (D s (k + 1)).head? = some 45)

theorem ext_from (s : ByteArray) (k : Nat) : (s.extract k s.size).data.toList = D s k := by
  rw [ext_data, List.take_of_length_le (by simp)]
theorem lex_blank (s : ByteArray) (k : Nat) (h : k < s.size) (hb : blaN s[k].toNat = true) : lexL (D s k) k = lexL (D s (k + 1)) (k + 1) := by
  unfold D; rw [drop_at s k h, lexL_blank k hb]
theorem dash_of {c : UInt8} (h : c.toNat = 45) : c = 45 := UInt8.toNat_inj.1 (by rw [h]; rfl)
theorem rem_iff (s : ByteArray) (k : Nat) (h : k < s.size) (z : Bool) (hz : Lib.hasPrefix (D s k) [45, 45] = z) : z = true ↔ (s[k].toNat = 45 ∧ (D s (k + 1)).head? = some 45) := by
  subst hz
  by_cases h4 : s[k] = 45
  · rw [prefix_two s 45 45 k h (by rw [h4]; rfl)]
    rw [h4]; simp [D]
  · rw [prefix_not s 45 45 k h h4]
    simp only [Bool.false_eq_true, false_iff]
    exact fun hh => h4 (dash_of hh.1)
theorem lex_rem (s : ByteArray) (k : Nat) (h : k < s.size) (hr : s[k].toNat = 45 ∧ (D s (k + 1)).head? = some 45) (m : Nat) (hm : (rowL noNl (D s k)).length = m) :
    0 < m ∧ k + m ≤ s.size ∧ lexL (D s k) k = lexL (D s (k + m)) (k + m) := by
  have hd := drop_at s k h
  have hn : noNl s[k].toNat = true := by rw [hr.1]; rfl
  have e1 : (rowL noNl (D s k)).length = (rowL noNl (D s (k + 1))).length + 1 := by unfold D; rw [hd, rowL_yes hn]; rfl
  have hle := rowL_le noNl (D s k)
  have hl : (D s k).length = s.size - k := by unfold D; rw [List.length_drop, len_data]
  refine ⟨by omega, by omega, ?_⟩
  have e2 := lexL_rem (b := s[k]) (r := D s (k + 1)) k hr.1 hr.2
  rw [show D s k = s[k] :: D s (k + 1) from hd, e2]
  have e3 : (D s (k + 1)).drop (rowL noNl (D s (k + 1))).length = D s (k + m) := by
    unfold D at *; rw [List.drop_drop]; congr 1; omega
  rw [e3]; congr 1; omega

set_option maxRecDepth 100000 in
set_option maxHeartbeats 2000000 in
theorem t_skip (s : ByteArray) (a : Nat) (w : World) (hs : s.size ≤ 1000000) (ha : a ≤ s.size) :
    Calls Try.prog 20 #[.string s, .int .i64 (a : Int)] w fun e w' => ∃ k : Nat, e = .returned (.int .i64 (k : Int)) ∧ a ≤ k ∧ k ≤ s.size ∧ lexL (D s a) a = lexL (D s k) k ∧ Stands s k ∧ w' = w := by
  go_enter Try.func20, Try.ntmps20
  go_wp2
  go_loop [1] (fun i => ∃ k : Nat, a ≤ k ∧ k ≤ s.size ∧ i = .int .i64 k ∧ lexL (D s a) a = lexL (D s k) k) (fun i => s.size - (intOf i).toNat)
  case atStart => exact ⟨a, Nat.le_refl _, ha, rfl, rfl⟩
  case round =>
    obtain ⟨k, hak, hk, rfl, hr⟩ := hrel
    have HR := Lib.hid hr
    clear hr
    by_cases hlt : k < s.size
    · have hb : s[k].toNat ≤ 255 := byte_le _
      cases hl : blaN s[k].toNat
      · obtain ⟨x, hx⟩ : ∃ x, s.extract k s.size = x := ⟨_, rfl⟩
        have hxd : x.data.toList = D s k := by rw [← hx]; exact ext_from s k
        have hxs : x.size ≤ maxLen := by rw [← len_data, hxd]; unfold D maxLen; rw [List.length_drop, len_data]; omega
        have T : ∀ W, Sem.run Try.prog (Instr.slice 9 (.string s) (some (.int .i64 (k : Int))) none none) W = .ok (.string x) W := fun W => by
          have h := run_slice_string_from_if (P := Try.prog) W 9 s .i64 (k : Int) Try.underlying9
          rw [if_pos (by omega), show ((k : Nat) : Int).toNat = k from rfl, hx] at h
          exact h
        have HX := Lib.hid hxs
        have HD := Lib.hid hxd
        obtain ⟨z, hz⟩ : ∃ z, Lib.hasPrefix (D s k) [45, 45] = z := ⟨_, rfl⟩
        have HZ := Lib.hid hz
        obtain ⟨m, hm⟩ : ∃ m, (rowL noNl (D s k)).length = m := ⟨_, rfl⟩
        have HM := Lib.hid hm
        have hZ : Lib.hasPrefix x.data.toList [45, 45] = z := by rw [hxd]; exact hz
        have HZX := Lib.hid hZ
        have HMX := Lib.hid (show (rowL noNl x.data.toList).length = m by rw [hxd]; exact hm)
        clear hx hxd hxs hz hm hZ
        cases z
        · go_wp2_with (first
            | (go_at_call 31; refine (p_isBlank _ _ hb).mono ?_; rw [hl]; rintro e w' ⟨rfl, rfl⟩)
            | (go_at_call 32; refine (s_prefix _ _ _).mono ?_; rw [show Lib.hasPrefix x.data.toList (ByteArray.mk #[45, 45]).data.toList = _ from HZX.out]; rintro e w' ⟨rfl, rfl⟩))
          go_ret
          refine ⟨k, rfl, hak, hk, HR.out, fun h => ⟨hl, fun hh => ?_⟩, rfl⟩
          have := (rem_iff s k h false HZ.out).2 hh
          cases this
        · have hrr := lex_rem s k hlt ((rem_iff s k hlt true HZ.out).1 rfl) m HM.out
          obtain ⟨hm0, hms, hle⟩ := hrr
          have HL := Lib.hid hle
          clear hle
          go_wp2_with (first
            | (go_at_call 31; refine (p_isBlank _ _ hb).mono ?_; rw [hl]; rintro e w' ⟨rfl, rfl⟩)
            | (go_at_call 32; refine (s_prefix _ _ _).mono ?_; rw [show Lib.hasPrefix x.data.toList (ByteArray.mk #[45, 45]).data.toList = _ from HZX.out]; rintro e w' ⟨rfl, rfl⟩)
            | (go_at_call 33; refine (row_isInLine _ _ HX.out).mono ?_; rw [HMX.out]; rintro e w' ⟨rfl, rfl⟩))
          go_round
          case rel => exact ⟨k + m, by omega, by omega, by go_num, by rw [HR.out, HL.out]⟩
          case measure => simp [intOf]; omega
      · have hle := lex_blank s k hlt hl
        have HL := Lib.hid hle
        clear hle
        go_wp2_with (go_at_call 31; refine (p_isBlank _ _ hb).mono ?_; rw [hl]; rintro e w' ⟨rfl, rfl⟩)
        go_round
        case rel => exact ⟨k + 1, by omega, by omega, by go_num, by rw [HR.out, HL.out]⟩
        case measure => simp [intOf]; omega
    · go_wp2
      go_ret
      exact ⟨k, rfl, hak, hk, HR.out, fun h => absurd h hlt, rfl⟩

end Go.Proofs.Ytdhkcbkeehameaa
