/- Contracts of package crew's Count. -/
import Derived.Test.YthhcchdjeeigpaaDoorTwo
import Derived.Test.YthhcchdjeeigpaaDoorProg
import Derived.IntWalk
namespace Go.Proofs.YthhcchdjeeigpaaDoor
open Go.RowKit
set_option linter.unusedVariables false
set_option linter.unusedSimpArgs false

/-- A slice of slices of these lengths. -/
def Heads (w : World) (a : Option Addr) (n : Nat) (ls : List Nat) : Prop :=
  ls.length = n ∧ (n = 0 ∨ ∃ b off, a = some ⟨b, off, none⟩ ∧ ∀ i m, ls[i]? = some m → ∃ a' c', w.cell? ⟨b, off + i, none⟩ = some (.slice a' m c'))
theorem sum_take_succ (l : List Nat) (k m : Nat) (h : l[k]? = some m) : (l.take (k + 1)).sum = (l.take k).sum + m := by
  rw [List.take_add_one, h]; simp
theorem sum_take_le (l : List Nat) (k : Nat) : (l.take k).sum ≤ l.sum := by
  conv => rhs; rw [← List.take_append_drop k l]
  rw [List.sum_append]; omega

theorem count_op (a : Option Addr) (la ca : Nat) (ls : List Nat) (w : World) (hs : Heads w a la ls) (hm : la ≤ 1000000) (ho : ls.sum ≤ 1000000) (v : Nat) (hv : ls.sum = v) :
    Calls Tryd.prog 53 #[.slice a la ca] w fun e w' => e = .returned (.int .i64 (v : Int)) ∧ w = w' := by
  obtain ⟨hl, hs⟩ := hs
  have HS := Lib.hid hs
  have HL := Lib.hid hl
  have HO := Lib.hid ho
  have HV := Lib.hid hv
  clear hs hl ho hv
  go_enter Tryd.func53, Tryd.ntmps53
  go_wp2_with fail
  go_loop [3, 8] (fun c i => ∃ k : Nat, k ≤ la ∧ i = .int .i64 k ∧ c = .int .i64 ((ls.take k).sum : Nat)) (fun _ i => la - (intOf i).toNat)
  case atStart => exact ⟨0, Nat.zero_le _, rfl, by simp⟩
  case round =>
    obtain ⟨k, hk, rfl, rfl⟩ := hrel
    by_cases hlt : k < la
    · obtain ⟨b, off, rfl, hc⟩ := HS.out.resolve_left (by omega)
      obtain ⟨m, hsk⟩ : ∃ m, ls[k]? = some m := ⟨_, List.getElem?_eq_getElem (by have := HL.out; omega)⟩
      obtain ⟨a', c', h3⟩ := hc k m hsk
      have e1 := sum_take_succ ls k m hsk
      have e2 := sum_take_le ls (k + 1)
      have e3 := HO.out
      obtain ⟨q, hq⟩ : ∃ q, (ls.take (k + 1)).sum = q := ⟨_, rfl⟩
      obtain ⟨p, hp⟩ : ∃ p, (ls.take k).sum = p := ⟨_, rfl⟩
      have HQ := Lib.hid hq
      rw [hq, hp] at e1
      rw [hq] at e2
      rw [hp]
      clear hc hsk hq hp
      have w1 : IntKind.i64.wrap ((p : Int) + (m : Int)) = (q : Int) := by rw [e1]; exact (IntWalk.i64_in _ (by omega)).trans (by omega)
      go_wp2_with fail
      go_round
      case rel => exact ⟨k + 1, by omega, by go_num, by rw [HQ.out]; congr 1; omega⟩
      case measure => simp [intOf]; omega
    · obtain rfl : k = la := by omega
      have e : ls.take k = ls := List.take_of_length_le (by rw [HL.out]; exact Nat.le_refl _)
      rw [e, HV.out]
      clear e
      go_wp2_with fail
      go_ret
      exact ⟨rfl, rfl⟩

theorem count_key (a : Option Addr) (la ca : Nat) (ls : List Nat) (w : World) (hs : Heads w a la ls) (hm : la ≤ 1000000) (ho : ls.sum ≤ 1000000) (v : Nat) (hv : ls.sum = v) :
    Calls Tryd.prog 45 #[.slice a la ca] w fun e w' => e = .returned (.int .i64 (v : Int)) ∧ w = w' := by
  obtain ⟨hl, hs⟩ := hs
  have HS := Lib.hid hs
  have HL := Lib.hid hl
  have HO := Lib.hid ho
  have HV := Lib.hid hv
  clear hs hl ho hv
  go_enter Tryd.func45, Tryd.ntmps45
  go_wp2_with fail
  go_loop [3, 8] (fun c i => ∃ k : Nat, k ≤ la ∧ i = .int .i64 k ∧ c = .int .i64 ((ls.take k).sum : Nat)) (fun _ i => la - (intOf i).toNat)
  case atStart => exact ⟨0, Nat.zero_le _, rfl, by simp⟩
  case round =>
    obtain ⟨k, hk, rfl, rfl⟩ := hrel
    by_cases hlt : k < la
    · obtain ⟨b, off, rfl, hc⟩ := HS.out.resolve_left (by omega)
      obtain ⟨m, hsk⟩ : ∃ m, ls[k]? = some m := ⟨_, List.getElem?_eq_getElem (by have := HL.out; omega)⟩
      obtain ⟨a', c', h3⟩ := hc k m hsk
      have e1 := sum_take_succ ls k m hsk
      have e2 := sum_take_le ls (k + 1)
      have e3 := HO.out
      obtain ⟨q, hq⟩ : ∃ q, (ls.take (k + 1)).sum = q := ⟨_, rfl⟩
      obtain ⟨p, hp⟩ : ∃ p, (ls.take k).sum = p := ⟨_, rfl⟩
      have HQ := Lib.hid hq
      rw [hq, hp] at e1
      rw [hq] at e2
      rw [hp]
      clear hc hsk hq hp
      have w1 : IntKind.i64.wrap ((p : Int) + (m : Int)) = (q : Int) := by rw [e1]; exact (IntWalk.i64_in _ (by omega)).trans (by omega)
      go_wp2_with fail
      go_round
      case rel => exact ⟨k + 1, by omega, by go_num, by rw [HQ.out]; congr 1; omega⟩
      case measure => simp [intOf]; omega
    · obtain rfl : k = la := by omega
      have e : ls.take k = ls := List.take_of_length_le (by rw [HL.out]; exact Nat.le_refl _)
      rw [e, HV.out]
      clear e
      go_wp2_with fail
      go_ret
      exact ⟨rfl, rfl⟩

end Go.Proofs.YthhcchdjeeigpaaDoor
