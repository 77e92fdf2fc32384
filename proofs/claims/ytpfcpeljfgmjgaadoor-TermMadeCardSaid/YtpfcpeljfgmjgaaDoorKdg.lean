/- The document's own Digits, as strconv's. -/
import Derived.Test.YtpfcpeljfgmjgaaDoorKtt
import Derived.Laws.BytesArg
import Derived.Deep.CutRange
import Derived.Deep.LoopGhost
namespace Go.Proofs.YtpfcpeljfgmjgaaDoor
open Go.RowKit
set_option linter.unusedVariables false
set_option linter.unusedSimpArgs false

theorem strB_app17 (a b : By) : strB a ++ strB b = strB (a ++ b) := by
  apply ByteArray.ext; simp [strB]
def dg17 (n : Nat) : UInt8 := UInt8.ofNat (48 + n % 10)
theorem dec_small {m : Nat} (h : m < 10) : Lib.decDigits m = [dg17 m] := by
  rw [Lib.decDigits, dif_pos h]; unfold dg17; rw [Nat.mod_eq_of_lt h]
theorem dec_big {m : Nat} (h : ¬ m < 10) : Lib.decDigits m = Lib.decDigits (m / 10) ++ [dg17 m] := by
  rw [Lib.decDigits, dif_neg h]; rfl
theorem dig_str17 (n : Nat) (d : Nat) (hq : n % 10 = d) (W : World) (b : Nat) (h : W.cell? ⟨b, 0, none⟩ = some (.int .u8 (48 + (d : Int)))) :
    (convert 35 9 (.slice (some ⟨b, 0, none⟩) 1 1)).run Tryd.prog W = .ok (.string (strB [dg17 n])) W := by
  have h2 := run_convert_bytes_arg W 35 5 Tryd.underlying35 Tryd.underlying5 b 0 1 1 [48 + (d : Int)] rfl (fun i hi => by have hi0 : i = 0 := (by omega); rw [hi0]; exact h) 9 Tryd.underlying9
  rw [h2]
  have : strOfNums [48 + (d : Int)] = strB [dg17 n] := by
    have e : (48 + (d : Int)).toNat = 48 + d := by omega
    show ByteArray.mk #[UInt8.ofNat (48 + (d : Int)).toNat] = ByteArray.mk #[UInt8.ofNat (48 + n % 10)]
    rw [e, hq]
  rw [this]

set_option maxRecDepth 100000 in
set_option maxHeartbeats 2000000 in
theorem r_Digits (n : Nat) (w : World) (hn : n ≤ 4294967296) :
    Calls Tryd.prog 65 #[.int .i64 (n : Int)] w fun e w' => e = .returned (.string (strB (Lib.decDigits n))) ∧ Below w.heap.size w w' := by
  have hlen := decDigits_le 10 n (by omega)
  have HLEN := Lib.hid hlen
  clear hlen
  go_enter Tryd.func65, Tryd.ntmps65
  go_wp2_with fail
  go_loopg [0, 3] (n) (fun gn i s wr => ∃ (m : Nat) (X : By), m ≤ gn ∧ i = .int .i64 (m : Int) ∧ s = .string (strB X) ∧ m ≤ n ∧ Hid (Lib.decDigits m ++ X = Lib.decDigits n) ∧ Hid (Below w.heap.size w wr))
  case atStart => exact ⟨n, [], Nat.le_refl _, rfl, rfl, Nat.le_refl _, List.append_nil _, Below.refl _ _⟩
  case round =>
    obtain ⟨m, X, hmg, rfl, rfl, hmn, HD, HB⟩ := hrel
    obtain ⟨d, hd⟩ : ∃ d, m % 10 = d := ⟨_, rfl⟩
    have e1 : (m : Int) % 10 = (d : Int) := by omega
    have e2 : (m : Int).tmod 10 = (d : Int) := by rw [Int.tmod_eq_emod_of_nonneg (by omega)]; exact e1
    have hd9 : d ≤ 9 := by omega
    have hX : X.length ≤ 11 := by
      have h1 := congrArg List.length HD.out
      rw [List.length_append] at h1
      have := HLEN.out
      omega
    have hsz := strB_size X
    have T3 : ∀ W, Sem.run Tryd.prog (Op.stringOp .add (strB [dg17 m]) (strB X)) W = .ok (.string (strB (dg17 m :: X))) W := fun W => by rw [run_string_add_sum W _ _ (by rw [strB_size, strB_size]; simp; omega), strB_app17]; rfl
    have hB := dig_str17 m d hd
    by_cases hlt : m < 10
    · have hdm : d = m := by omega
      subst hdm
      have HW := Lib.hid (HB.out.alloc HB.out.size (.cells #[.int .u8 (48 + (d : Int))] 5))
      have hfin : Lib.decDigits n = dg17 d :: X := by rw [← HD.out, dec_small hlt]; rfl
      have HFIN := Lib.hid hfin
      clear hd hfin
      go_wp2_with fail
      go_ret
      exact ⟨ret_of (by rw [HFIN.out]; rfl), HW.out⟩
    · have HW := Lib.hid (HB.out.alloc HB.out.size (.cells #[.int .u8 (48 + (d : Int))] 5))
      obtain ⟨m2, hm2⟩ : ∃ m2, m / 10 = m2 := ⟨_, rfl⟩
      have e5 : (m : Int) / 10 = (m2 : Int) := by omega
      have e6 : (m : Int).tdiv 10 = (m2 : Int) := by rw [Int.tdiv_eq_ediv_of_nonneg (by omega)]; exact e5
      have HD2 : Hid (Lib.decDigits m2 ++ (dg17 m :: X) = Lib.decDigits n) := by show _ = _; rw [← HD.out, dec_big hlt, hm2]; simp
      have hm9 : m2 < m := by omega
      clear hd hm2
      go_wp2_with fail
      go_roundg (m2)
      case measure => omega
      case rel => exact ⟨m2, _, Nat.le_refl _, by go_num, rfl, by omega, HD2.out, HW.out⟩

end Go.Proofs.YtpfcpeljfgmjgaaDoor
