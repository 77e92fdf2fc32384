/- Contracts of package lex: nameToken, signToken, intToken, strings.HasPrefix, strings.Clone. -/
import Derived.Test.YtdhkcbkeehameaaLexk
import Derived.Lib.BufferWrite
import Derived.Lib.UnsafeStr
import Derived.Laws.MakeOwn
import Derived.Laws.Strings3
namespace Go.Proofs.Ytdhkcbkeehameaa
open Go.RowKit
set_option linter.unusedVariables false
set_option linter.unusedSimpArgs false

/-- A token as a value. -/
def tokV (k : Int) (p : Int) (s : ByteArray) (n : Int) : Value := .agg #[.int .i64 k, .int .i64 p, .string s, .int .i64 n]
def twV (k : Int) (s : ByteArray) (n w : Int) : Value := .tuple #[tokV k 0 s n, .int .i64 w]
def noTok : Value := twV 0 ⟨#[]⟩ 0 0
theorem ret_tw {k k' n n' w w' : Int} {s s' : ByteArray} (h1 : k = k') (h2 : s = s') (h3 : n = n') (h4 : w = w') : Ending.returned (twV k s n w) = .returned (twV k' s' n' w') := by rw [h1, h2, h3, h4]

set_option maxHeartbeats 1000000 in
theorem t_sign (s : ByteArray) (w : World) (hs : s.size ≤ maxLen) :
    Calls Try.prog 41 #[.string s] w fun e w' => e = .returned (twV 5 s 0 (s.size : Int)) ∧ Below w.heap.size w w' := by
  have HM : Hid (s.size ≤ maxLen) := Lib.hid hs
  clear hs
  go_enter Try.func41, Try.ntmps41
  go_wp2
  refine bodyPost_ret (v := twV 5 s 0 (s.size : Int)) (by simp only [results, Try.results41]; go_simp; rfl) rfl ⟨rfl, ?_⟩
  go_grown

set_option maxHeartbeats 1000000 in
theorem t_name (s : ByteArray) (w : World) (hs : s.size ≤ maxLen) :
    Calls Try.prog 36 #[.string s] w fun e w' => e = .returned (if kindL s.data.toList = 0 then noTok else twV (kindL s.data.toList : Nat) s 0 (s.size : Int)) ∧ Below w.heap.size w w' := by
  have HM : Hid (s.size ≤ maxLen) := Lib.hid hs
  clear hs
  obtain ⟨k, hk⟩ : ∃ k, kindL s.data.toList = k := ⟨_, rfl⟩
  have HK := Lib.hid hk
  rw [hk]
  clear hk
  by_cases h0 : k = 0
  · subst h0
    go_enter Try.func36, Try.ntmps36
    go_wp2_with (go_at_call 29; refine (k_kind _ _ HM.out).mono ?_; rw [HK.out]; rintro e w' ⟨rfl, rfl⟩)
    refine bodyPost_ret (v := noTok) (by simp only [results, Try.results36]; go_simp; rfl) rfl ⟨rfl, ?_⟩
    go_grown
  · rw [if_neg h0]
    have e0 : ((k : Int) == 0) = false := by simp; omega
    go_enter Try.func36, Try.ntmps36
    go_wp2_with (go_at_call 29; refine (k_kind _ _ HM.out).mono ?_; rw [HK.out]; rintro e w' ⟨rfl, rfl⟩)
    refine bodyPost_ret (v := twV k s 0 (s.size : Int)) (by simp only [results, Try.results36]; go_simp; rfl) rfl ⟨rfl, ?_⟩
    go_grown

theorem ret_of {a b : Value} (h : a = b) : Ending.returned a = .returned b := by rw [h]
/-! ### Numbers of digits -/
def stepN (n : Nat) (c : UInt8) : Nat := n * 10 + (c.toNat - 48)
theorem numL_le_app (b : By) : ∀ n : Nat, n ≤ b.foldl stepN n := by
  induction b with
  | nil => intro n; exact Nat.le_refl _
  | cons c r ih => intro n; exact Nat.le_trans (by unfold stepN; omega) (ih (stepN n c))
theorem numL_take (l : By) (k : Nat) : numL (l.take k) ≤ numL l := by
  have : numL l = (l.drop k).foldl stepN (numL (l.take k)) := by
    show l.foldl stepN 0 = (l.drop k).foldl stepN ((l.take k).foldl stepN 0)
    rw [← List.foldl_append, List.take_append_drop]
  rw [this]; exact numL_le_app _ _
theorem take_snoc (s : ByteArray) (k : Nat) (h : k < s.size) : s.data.toList.take (k + 1) = s.data.toList.take k ++ [s[k]] := by
  rw [List.take_succ_eq_append_getElem (by simpa using h)]; rfl
theorem numL_snoc (s : ByteArray) (k : Nat) (h : k < s.size) : numL (s.data.toList.take (k + 1)) = numL (s.data.toList.take k) * 10 + (s[k].toNat - 48) := by
  rw [take_snoc s k h]; unfold numL; rw [List.foldl_append]; rfl
theorem all_at {p : Nat → Bool} (s : ByteArray) (ha : s.data.toList.all (fun c => p c.toNat) = true) (k : Nat) (h : k < s.size) : p s[k].toNat = true :=
  List.all_eq_true.1 ha _ (by
    have : s[k] = s.data.toList[k]'(by simpa using h) := rfl
    rw [this]; exact List.getElem_mem _)
def badInt (s : ByteArray) : Prop := (1 < s.size ∧ (s.data.toList.headD 0).toNat = 48) ∨ 2147483647 < numL s.data.toList
instance decBadInt (s : ByteArray) : Decidable (badInt s) := by unfold badInt; infer_instance

set_option maxHeartbeats 2000000 in
theorem t_int (s : ByteArray) (w : World) (hs : s.size ≤ maxLen) (ha : s.data.toList.all (fun c => digN c.toNat) = true) (hpos : 0 < s.size) :
    Calls Try.prog 39 #[.string s] w fun e w' => e = .returned (if badInt s then noTok else twV 3 ⟨#[]⟩ (numL s.data.toList : Nat) (s.size : Int)) ∧ Below w.heap.size w w' := by
  have HA := Lib.hid ha
  clear ha
  have hs2 : s.size ≤ 9223372036854775807 := hs
  clear hs
  have hb0 : s[0].toNat ≤ 255 := byte_le _
  have hh := head_data s hpos
  by_cases h1 : 1 < s.size ∧ s[0].toNat = 48
  · obtain ⟨h11, h12⟩ := h1
    rw [if_pos (show badInt s from .inl ⟨h11, by rw [hh]; exact h12⟩)]
    have e1 : ((s[0].toNat : Int) == 48) = true := by simp; omega
    clear hh h12
    go_enter Try.func39, Try.ntmps39
    go_wp2
    refine bodyPost_ret (v := noTok) (by simp only [results, Try.results39]; go_simp; rfl) rfl ⟨rfl, ?_⟩
    go_grown
  · have hbad : badInt s ↔ 2147483647 < numL s.data.toList := by
      unfold badInt; rw [hh]
      constructor
      · rintro (h | h)
        · exact absurd h h1
        · exact h
      · exact .inr
    have HB := Lib.hid hbad
    have e1 : 1 < s.size → ((s[0].toNat : Int) == 48) = false := fun h => by simp; omega
    clear hbad hh h1
    have E1 := Lib.hid e1
    clear e1
    obtain ⟨V, hV⟩ : ∃ V, (if badInt s then noTok else twV 3 ⟨#[]⟩ (numL s.data.toList : Nat) (s.size : Int)) = V := ⟨_, rfl⟩
    rw [hV]
    have HV := Lib.hid hV
    clear hV
    by_cases h11 : 1 < s.size
    · have e1 := E1.out h11
      go_enter Try.func39, Try.ntmps39
      go_wp2
      go_loopw [4, 17] (fun n i wr => ∃ k : Nat, k ≤ s.size ∧ i = .int .i64 k ∧ n = .int .i64 (numL (s.data.toList.take k) : Nat) ∧ numL (s.data.toList.take k) ≤ 2147483647 ∧ wr = w.alloc (.cells #[.int .i64 0, .int .i64 0, .string ⟨#[]⟩, .int .i64 0] 38)) (fun _ i _ => s.size - (intOf i).toNat)
      case atStart => exact ⟨0, Nat.zero_le _, rfl, rfl, by simp [numL], rfl⟩
      case round =>
        obtain ⟨k, hk, rfl, rfl, hn, rfl⟩ := hrel
        by_cases hlt : k < s.size
        · have hd := all_at s HA.out k hlt
          have hd2 : 48 ≤ s[k].toNat ∧ s[k].toNat ≤ 57 := by simpa [digN] using hd
          have hsn := numL_snoc s k hlt
          obtain ⟨d, hd3⟩ : ∃ d, s[k].toNat - 48 = d := ⟨_, rfl⟩
          obtain ⟨m, hm⟩ : ∃ m, numL (s.data.toList.take k) = m := ⟨_, rfl⟩
          have e2 : ((s[k].toNat : Int) - 48) % 256 = (d : Int) := by omega
          rw [hd3, hm] at hsn
          rw [hm] at hn ⊢
          have hd9 : d ≤ 9 := by omega
          have HS := Lib.hid hsn
          clear hsn hd hd2 hd3 hm
          by_cases hbig : 2147483647 < m * 10 + d
          · have hB : badInt s := HB.out.2 (Nat.lt_of_lt_of_le (by rw [HS.out]; exact hbig) (numL_take _ (k + 1)))
            go_wp2
            refine bodyPost_ret (v := noTok) (by simp only [results, Try.results39]; go_simp; rfl) rfl ⟨ret_of (by rw [← HV.out, if_pos hB]), ?_⟩
            go_grown
          · go_wp2
            go_roundw
            case rel => exact ⟨k + 1, by omega, by go_num, by rw [HS.out]; go_num, by rw [HS.out]; omega, trivial⟩
            case measure => simp [intOf]; omega
        · have hkk : k = s.size := by omega
          have htk : s.data.toList.take k = s.data.toList := List.take_of_length_le (by simp; omega)
          rw [htk] at hn ⊢
          have hnb : ¬ badInt s := fun h => by have := HB.out.1 h; omega
          clear htk
          go_wp2
          refine bodyPost_ret (v := twV 3 ⟨#[]⟩ (numL s.data.toList : Nat) (s.size : Int)) (by simp only [results, Try.results39]; go_simp; rfl) rfl ⟨ret_of (by rw [← HV.out, if_neg hnb]), ?_⟩
          go_grown
    · clear E1
      go_enter Try.func39, Try.ntmps39
      go_wp2
      go_loopw [4, 17] (fun n i wr => ∃ k : Nat, k ≤ s.size ∧ i = .int .i64 k ∧ n = .int .i64 (numL (s.data.toList.take k) : Nat) ∧ numL (s.data.toList.take k) ≤ 2147483647 ∧ wr = w.alloc (.cells #[.int .i64 0, .int .i64 0, .string ⟨#[]⟩, .int .i64 0] 38)) (fun _ i _ => s.size - (intOf i).toNat)
      case atStart => exact ⟨0, Nat.zero_le _, rfl, rfl, by simp [numL], rfl⟩
      case round =>
        obtain ⟨k, hk, rfl, rfl, hn, rfl⟩ := hrel
        by_cases hlt : k < s.size
        · have hd := all_at s HA.out k hlt
          have hd2 : 48 ≤ s[k].toNat ∧ s[k].toNat ≤ 57 := by simpa [digN] using hd
          have hsn := numL_snoc s k hlt
          obtain ⟨d, hd3⟩ : ∃ d, s[k].toNat - 48 = d := ⟨_, rfl⟩
          obtain ⟨m, hm⟩ : ∃ m, numL (s.data.toList.take k) = m := ⟨_, rfl⟩
          have e2 : ((s[k].toNat : Int) - 48) % 256 = (d : Int) := by omega
          rw [hd3, hm] at hsn
          rw [hm] at hn ⊢
          have hd9 : d ≤ 9 := by omega
          have HS := Lib.hid hsn
          clear hsn hd hd2 hd3 hm
          by_cases hbig : 2147483647 < m * 10 + d
          · have hB : badInt s := HB.out.2 (Nat.lt_of_lt_of_le (by rw [HS.out]; exact hbig) (numL_take _ (k + 1)))
            go_wp2
            refine bodyPost_ret (v := noTok) (by simp only [results, Try.results39]; go_simp; rfl) rfl ⟨ret_of (by rw [← HV.out, if_pos hB]), ?_⟩
            go_grown
          · go_wp2
            go_roundw
            case rel => exact ⟨k + 1, by omega, by go_num, by rw [HS.out]; go_num, by rw [HS.out]; omega, trivial⟩
            case measure => simp [intOf]; omega
        · have hkk : k = s.size := by omega
          have htk : s.data.toList.take k = s.data.toList := List.take_of_length_le (by simp; omega)
          rw [htk] at hn ⊢
          have hnb : ¬ badInt s := fun h => by have := HB.out.1 h; omega
          clear htk
          go_wp2
          refine bodyPost_ret (v := twV 3 ⟨#[]⟩ (numL s.data.toList : Nat) (s.size : Int)) (by simp only [results, Try.results39]; go_simp; rfl) rfl ⟨ret_of (by rw [← HV.out, if_neg hnb]), ?_⟩
          go_grown

end Go.Proofs.Ytdhkcbkeehameaa
