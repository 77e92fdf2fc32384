/- Contract of the statements' own number. -/
import Derived.Test.YtgkeblpjmfdhkaaZAM
namespace Go.Proofs.Ytgkeblpjmfdhkaa
open Go.RowKit
set_option linter.unusedVariables false
set_option linter.unusedSimpArgs false

set_option maxHeartbeats 2000000 in
theorem r_number (s : ByteArray) (w : World) (hs : s.size ≤ maxLen) (ha : s.data.toList.all (fun c => digN c.toNat) = true) (hpos : 0 < s.size) :
    Calls Try.prog 100 #[.string s] w fun e w' => e = .returned (.int .i64 (if badInt s then (-1 : Int) else ((numL s.data.toList : Nat) : Int))) ∧ w' = w := by
  have HA := Lib.hid ha
  clear ha
  have hs2 : s.size ≤ 9223372036854775807 := hs
  clear hs
  have hb0 : s[0].toNat ≤ 255 := byte_le _
  have hh := head_data s hpos
  have hbad : badInt s ↔ (1 < s.size ∧ s[0].toNat = 48) ∨ 2147483647 < numL s.data.toList := by unfold badInt; rw [hh]
  have HB := Lib.hid hbad
  obtain ⟨V, hV⟩ : ∃ V : Int, (if badInt s then (-1 : Int) else ((numL s.data.toList : Nat) : Int)) = V := ⟨_, rfl⟩
  rw [hV]
  have HV := Lib.hid hV
  clear hV hbad hh
  go_enter Try.func100, Try.ntmps100
  go_wp2
  go_loop [3, 4] (fun n i => ∃ k : Nat, k ≤ s.size ∧ i = .int .i64 k ∧ n = .int .i64 (numL (s.data.toList.take k) : Nat) ∧ numL (s.data.toList.take k) ≤ 2147483647) (fun _ i => s.size - (intOf i).toNat)
  case atStart => exact ⟨0, Nat.zero_le _, rfl, rfl, by simp [numL]⟩
  case round =>
    obtain ⟨k, hk, rfl, rfl, hn⟩ := hrel
    by_cases hlt : k < s.size
    · have hd := all_at s HA.out k hlt
      have hd2 : 48 ≤ s[k].toNat ∧ s[k].toNat ≤ 57 := by simpa [digN] using hd
      have hsn := numL_snoc s k hlt
      obtain ⟨d, hd3⟩ : ∃ d, s[k].toNat - 48 = d := ⟨_, rfl⟩
      obtain ⟨m, hm⟩ : ∃ m, numL (s.data.toList.take k) = m := ⟨_, rfl⟩
      have e2 : ((s[k].toNat : Int) - 48) % 256 = (d : Int) := by omega
      rw [hd3, hm] at hsn
      rw [hm] at hn ⊢
      have hd9 : d ≤ 9 := by omega
      have HS := Lib.hid hsn
      clear hsn hd hd2 hd3 hm
      by_cases hbig : 2147483647 < m * 10 + d
      · have hB : badInt s := HB.out.2 (.inr (Nat.lt_of_lt_of_le (by rw [HS.out]; exact hbig) (numL_take _ (k + 1))))
        go_wp2
        go_ret
        exact ⟨ret_i64 (by rw [← HV.out, if_pos hB]), rfl⟩
      · go_wp2
        go_round
        case rel => exact ⟨k + 1, by omega, by go_num, by rw [HS.out]; go_num, by rw [HS.out]; omega⟩
        case measure => simp [intOf]; omega
    · have hkk : k = s.size := by omega
      have htk : s.data.toList.take k = s.data.toList := List.take_of_length_le (by simp; omega)
      rw [htk] at hn ⊢
      clear htk
      by_cases h1 : 1 < s.size
      · by_cases h2 : s[0].toNat = 48
        · have hB : badInt s := HB.out.2 (.inl ⟨h1, h2⟩)
          have e1 : ((s[0].toNat : Int) == 48) = true := by simp; omega
          clear h2
          go_wp2
          go_ret
          exact ⟨ret_i64 (by rw [← HV.out, if_pos hB]), rfl⟩
        · have hB : ¬ badInt s := fun h => by
            rcases HB.out.1 h with h | h
            · exact h2 h.2
            · omega
          have e1 : ((s[0].toNat : Int) == 48) = false := by simp; omega
          go_wp2
          go_ret
          exact ⟨ret_i64 (by rw [← HV.out, if_neg hB]), rfl⟩
      · have hB : ¬ badInt s := fun h => by
          rcases HB.out.1 h with h | h
          · exact h1 h.1
          · omega
        go_wp2
        go_ret
        exact ⟨ret_i64 (by rw [← HV.out, if_neg hB]), rfl⟩

end Go.Proofs.Ytgkeblpjmfdhkaa
