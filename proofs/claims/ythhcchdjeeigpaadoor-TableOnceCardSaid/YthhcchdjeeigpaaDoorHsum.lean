/- Contracts of package hash: withByte, Sum; of the statements' own Sum. -/
import Derived.Test.YthhcchdjeeigpaaDoorProg
import Derived.Test.YthhcchdjeeigpaaDoorBase
namespace Go.Proofs.YthhcchdjeeigpaaDoor
open Go.RowKit

/-- A sum with one byte more. -/
def stp (x c : Int) : Int := IntKind.u32.wrap (bits .xor .u32 x c * 16777619)
theorem stp_bd (x c : Int) : 0 ≤ stp x c ∧ stp x c ≤ 4294967295 := by unfold stp; rw [IntKind.wrap_u32]; omega
/-- The sum of a list of bytes, from x on. -/
def sumF (x : Int) (l : List UInt8) : Int := l.foldl (fun y c => stp y (c.toNat : Int)) x
def sumI (l : List UInt8) : Int := sumF 2166136261 l
theorem sumF_bd (x : Int) (h : 0 ≤ x ∧ x ≤ 4294967295) (l : List UInt8) : 0 ≤ sumF x l ∧ sumF x l ≤ 4294967295 := by
  unfold sumF
  induction l generalizing x with
  | nil => exact h
  | cons c l ih => exact ih _ (stp_bd _ _)
theorem sumI_bd (l : List UInt8) : 0 ≤ sumI l ∧ sumI l ≤ 4294967295 := sumF_bd _ (by omega) l
theorem sumI_snoc (l : List UInt8) (c : UInt8) : sumI (l ++ [c]) = stp (sumI l) (c.toNat : Int) := by
  unfold sumI sumF; rw [List.foldl_append]; rfl
theorem take_snoc (s : ByteArray) (k : Nat) (h : k < s.size) : s.data.toList.take (k + 1) = s.data.toList.take k ++ [s[k]] := by
  rw [List.take_succ_eq_append_getElem (by simpa using h)]; rfl

theorem withbyte_any (x c : Int) (w : World) (hc : 0 ≤ c) (hc2 : c ≤ 255) :
    Calls Tryd.prog 98 #[.int .u32 x, .int .u8 c] w fun e w' => e = .returned (.int .u32 (stp x c)) ∧ w = w' := by
  go_enter Tryd.func98, Tryd.ntmps98
  go_wp2
  go_ret
  exact ⟨rfl, rfl⟩

theorem ret_u32 {a b : Int} (h : a = b) : Ending.returned (.int .u32 a) = .returned (.int .u32 b) := by rw [h]

set_option maxHeartbeats 400000 in
theorem sum_any (s : ByteArray) (w : World) (hs : s.size ≤ maxLen) :
    Calls Tryd.prog 97 #[.string s] w fun e w' => e = .returned (.int .u32 (sumI s.data.toList)) ∧ w = w' := by
  unfold maxLen at hs
  go_enter Tryd.func97, Tryd.ntmps97
  go_wp2
  go_loop [3, 7] (fun x i => ∃ k : Nat, k ≤ s.size ∧ i = .int .i64 k ∧ x = .int .u32 (sumI (s.data.toList.take k))) (fun _ i => s.size - (intOf i).toNat)
  case atStart => exact ⟨0, Nat.zero_le _, rfl, rfl⟩
  case round =>
    obtain ⟨k, hk, rfl, rfl⟩ := hrel
    have hd := sumI_bd (s.data.toList.take k)
    by_cases hlt : k < s.size
    · have hb : s[k].toNat ≤ 255 := by have := s[k].toNat_lt; omega
      have HS : Hid (sumI (s.data.toList.take (k + 1)) = stp (sumI (s.data.toList.take k)) (s[k].toNat : Int)) := by rw [take_snoc s k hlt]; exact sumI_snoc _ _
      go_wp2_with (go_at_call 98; refine (withbyte_any _ _ _ (by omega) (by omega)).mono ?_; rintro e w' ⟨rfl, rfl⟩)
      go_round
      case rel => exact ⟨k + 1, by omega, by go_num, by rw [HS.out]⟩
      case measure => simp [intOf]; omega
    · go_wp2
      go_ret
      exact ⟨ret_u32 (by rw [List.take_of_length_le (by simp; omega)]), rfl⟩

set_option maxHeartbeats 400000 in
theorem rsum_any (s : ByteArray) (w : World) (hs : s.size ≤ maxLen) :
    Calls Tryd.prog 86 #[.string s] w fun e w' => e = .returned (.int .u32 (sumI s.data.toList)) ∧ w = w' := by
  unfold maxLen at hs
  go_enter Tryd.func86, Tryd.ntmps86
  go_wp2
  go_loop [3, 4] (fun x i => ∃ k : Nat, k ≤ s.size ∧ i = .int .i64 k ∧ x = .int .u32 (sumI (s.data.toList.take k))) (fun _ i => s.size - (intOf i).toNat)
  case atStart => exact ⟨0, Nat.zero_le _, rfl, rfl⟩
  case round =>
    obtain ⟨k, hk, rfl, rfl⟩ := hrel
    have hd := sumI_bd (s.data.toList.take k)
    by_cases hlt : k < s.size
    · have hb : s[k].toNat ≤ 255 := by have := s[k].toNat_lt; omega
      have HS : Hid (sumI (s.data.toList.take (k + 1)) = stp (sumI (s.data.toList.take k)) (s[k].toNat : Int)) := by rw [take_snoc s k hlt]; exact sumI_snoc _ _
      go_wp2
      go_round
      case rel => exact ⟨k + 1, by omega, by go_num, by rw [HS.out]; trace_state; unfold stp; rfl⟩
      case measure => simp [intOf]; omega
    · go_wp2
      go_ret
      exact ⟨ret_u32 (by rw [List.take_of_length_le (by simp; omega)]), rfl⟩

end Go.Proofs.YthhcchdjeeigpaaDoor
