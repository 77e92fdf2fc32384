/- Contract of the statements' Words: a text by numbers. -/
import Derived.Test.YtdhkcbkeehameaaLexd
import Derived.Deep.QuietTactic
namespace Go.Proofs.Ytdhkcbkeehameaa
open Go.RowKit
set_option linter.unusedVariables false
set_option linter.unusedSimpArgs false

/-- Bytes read in memory. -/
abbrev RowY := RowF (fun n : Nat => Value.int .u8 (n : Int)) (0 : Nat)
def wtab : List By := [[108, 101, 116, 32], [120], [102, 32], [67, 111, 110, 115], [61], [45, 62], [92], [40], [41], [44], [123], [125], [59], [124], [100, 97, 116, 97, 32], [105, 110, 32], [49, 50], [48], [99, 97, 115, 101, 32], [111, 102, 32], [45, 45, 32, 114, 10], [10], [9], [32], [116, 114, 117, 101, 32], [105, 102, 32], [97, 95, 49], [84, 50, 32], [101, 108, 115, 101, 32], [116, 104, 101, 110, 32], [48, 48, 55], [95], [45], [62], [102, 97, 108, 115, 101], [50, 49, 52, 55, 52, 56, 51, 54, 52, 55], [50, 49, 52, 55, 52, 56, 51, 54, 52, 56]]
def wat (b : Nat) : By := wtab.getD (b % 37) []
/-- The text of numbers. -/
def textL (bs : List Nat) : By := (bs.take 200).flatMap wat
theorem wat_le (b : Nat) : (wat b).length ≤ 10 := by
  have h : ∀ m, m < 37 → (wtab.getD m []).length ≤ 10 := by decide
  exact h _ (Nat.mod_lt _ (by omega))
theorem strB_app (a b : By) : strB a ++ strB b = strB (a ++ b) := by
  apply ByteArray.ext; simp [strB]
theorem words_take_le (bs : List Nat) : ∀ k, ((bs.take k).flatMap wat).length ≤ k * 10 := by
  induction bs with
  | nil => intro k; simp
  | cons b r ih =>
    intro k
    cases k with
    | zero => simp
    | succ k =>
      have h1 := ih k
      have h2 := wat_le b
      rw [List.take_succ_cons, List.flatMap_cons, List.length_append]
      omega
theorem textL_len (bs : List Nat) : (textL bs).length ≤ 2000 := words_take_le bs 200
theorem words_snoc (bs : List Nat) (k : Nat) (h : k < bs.length) : (bs.take (k + 1)).flatMap wat = (bs.take k).flatMap wat ++ wat (bs.getD k 0) := by
  rw [List.take_succ_eq_append_getElem h, List.flatMap_append]
  simp [List.getD, h]

set_option maxRecDepth 100000 in
set_option maxHeartbeats 2000000 in
theorem words_any (a : Option Addr) (n c : Nat) (bs : List Nat) (w : World) (hr : RowY 0 w.heap.size w a n bs) (hb : ∀ i, i < n → bs.getD i 0 ≤ 255) (hn : n ≤ 9223372036854775807) :
    Calls Try.prog 18 #[.slice a n c] w fun e w' => e = .returned (.string (strB (textL bs))) ∧ Below w.heap.size w w' := by
  have HR := Lib.hid hr
  have HB := Lib.hid hb
  have HL := Lib.hid hr.1
  clear hr hb
  go_enter Try.func18, Try.ntmps18
  go_wp2_with fail
  have hbx : Box (w.alloc (.cells #[.string ⟨#[108, 101, 116, 32]⟩, .string ⟨#[120]⟩, .string ⟨#[102, 32]⟩, .string ⟨#[67, 111, 110, 115]⟩, .string ⟨#[61]⟩, .string ⟨#[45, 62]⟩, .string ⟨#[92]⟩, .string ⟨#[40]⟩, .string ⟨#[41]⟩, .string ⟨#[44]⟩, .string ⟨#[123]⟩, .string ⟨#[125]⟩, .string ⟨#[59]⟩, .string ⟨#[124]⟩, .string ⟨#[100, 97, 116, 97, 32]⟩, .string ⟨#[105, 110, 32]⟩, .string ⟨#[49, 50]⟩, .string ⟨#[48]⟩, .string ⟨#[99, 97, 115, 101, 32]⟩, .string ⟨#[111, 102, 32]⟩, .string ⟨#[45, 45, 32, 114, 10]⟩, .string ⟨#[10]⟩, .string ⟨#[9]⟩, .string ⟨#[32]⟩, .string ⟨#[116, 114, 117, 101, 32]⟩, .string ⟨#[105, 102, 32]⟩, .string ⟨#[97, 95, 49]⟩, .string ⟨#[84, 50, 32]⟩, .string ⟨#[101, 108, 115, 101, 32]⟩, .string ⟨#[116, 104, 101, 110, 32]⟩, .string ⟨#[48, 48, 55]⟩, .string ⟨#[95]⟩, .string ⟨#[45]⟩, .string ⟨#[62]⟩, .string ⟨#[102, 97, 108, 115, 101]⟩, .string ⟨#[50, 49, 52, 55, 52, 56, 51, 54, 52, 55]⟩, .string ⟨#[50, 49, 52, 55, 52, 56, 51, 54, 52, 56]⟩] 9)) w.heap.size 9 (wtab.map fun l => Value.string (strB l)) := Box.new w 9 (wtab.map fun l => Value.string (strB l))
  have hbw : Below w.heap.size w (w.alloc (.cells #[.string ⟨#[108, 101, 116, 32]⟩, .string ⟨#[120]⟩, .string ⟨#[102, 32]⟩, .string ⟨#[67, 111, 110, 115]⟩, .string ⟨#[61]⟩, .string ⟨#[45, 62]⟩, .string ⟨#[92]⟩, .string ⟨#[40]⟩, .string ⟨#[41]⟩, .string ⟨#[44]⟩, .string ⟨#[123]⟩, .string ⟨#[125]⟩, .string ⟨#[59]⟩, .string ⟨#[124]⟩, .string ⟨#[100, 97, 116, 97, 32]⟩, .string ⟨#[105, 110, 32]⟩, .string ⟨#[49, 50]⟩, .string ⟨#[48]⟩, .string ⟨#[99, 97, 115, 101, 32]⟩, .string ⟨#[111, 102, 32]⟩, .string ⟨#[45, 45, 32, 114, 10]⟩, .string ⟨#[10]⟩, .string ⟨#[9]⟩, .string ⟨#[32]⟩, .string ⟨#[116, 114, 117, 101, 32]⟩, .string ⟨#[105, 102, 32]⟩, .string ⟨#[97, 95, 49]⟩, .string ⟨#[84, 50, 32]⟩, .string ⟨#[101, 108, 115, 101, 32]⟩, .string ⟨#[116, 104, 101, 110, 32]⟩, .string ⟨#[48, 48, 55]⟩, .string ⟨#[95]⟩, .string ⟨#[45]⟩, .string ⟨#[62]⟩, .string ⟨#[102, 97, 108, 115, 101]⟩, .string ⟨#[50, 49, 52, 55, 52, 56, 51, 54, 52, 55]⟩, .string ⟨#[50, 49, 52, 55, 52, 56, 51, 54, 52, 56]⟩] 9)) := (Below.refl _ _).alloc (Nat.le_refl _) _
  generalize (w.alloc (.cells #[.string ⟨#[108, 101, 116, 32]⟩, .string ⟨#[120]⟩, .string ⟨#[102, 32]⟩, .string ⟨#[67, 111, 110, 115]⟩, .string ⟨#[61]⟩, .string ⟨#[45, 62]⟩, .string ⟨#[92]⟩, .string ⟨#[40]⟩, .string ⟨#[41]⟩, .string ⟨#[44]⟩, .string ⟨#[123]⟩, .string ⟨#[125]⟩, .string ⟨#[59]⟩, .string ⟨#[124]⟩, .string ⟨#[100, 97, 116, 97, 32]⟩, .string ⟨#[105, 110, 32]⟩, .string ⟨#[49, 50]⟩, .string ⟨#[48]⟩, .string ⟨#[99, 97, 115, 101, 32]⟩, .string ⟨#[111, 102, 32]⟩, .string ⟨#[45, 45, 32, 114, 10]⟩, .string ⟨#[10]⟩, .string ⟨#[9]⟩, .string ⟨#[32]⟩, .string ⟨#[116, 114, 117, 101, 32]⟩, .string ⟨#[105, 102, 32]⟩, .string ⟨#[97, 95, 49]⟩, .string ⟨#[84, 50, 32]⟩, .string ⟨#[101, 108, 115, 101, 32]⟩, .string ⟨#[116, 104, 101, 110, 32]⟩, .string ⟨#[48, 48, 55]⟩, .string ⟨#[95]⟩, .string ⟨#[45]⟩, .string ⟨#[62]⟩, .string ⟨#[102, 97, 108, 115, 101]⟩, .string ⟨#[50, 49, 52, 55, 52, 56, 51, 54, 52, 55]⟩, .string ⟨#[50, 49, 52, 55, 52, 56, 51, 54, 52, 56]⟩] 9)) = w1 at *
  have HX := Lib.hid hbx
  have HW := Lib.hid hbw
  clear hbx hbw
  go_loop [4, 5] (fun s i => ∃ k : Nat, k ≤ n ∧ k ≤ 200 ∧ i = .int .i64 (k : Int) ∧ s = .string (strB ((bs.take k).flatMap wat))) (fun _ i => n - (intOf i).toNat)
  case atStart => exact ⟨0, Nat.zero_le _, by omega, rfl, rfl⟩
  case round =>
    obtain ⟨k, hk, hk2, rfl, rfl⟩ := hrel
    by_cases hlt : k < n
    · by_cases hlt2 : k < 200
      · obtain ⟨hl, hc | ⟨b, off, rfl, _, hbb, hcell⟩⟩ := HR.out
        · omega
        · have hbl : b < w1.heap.size := Nat.lt_of_lt_of_le hbb HW.out.size
          have c1 := (HW.out.cell (p := ⟨b, off + k, none⟩) hbb).trans (hcell k hlt)
          have hb255 := HB.out k hlt
          obtain ⟨x, hx⟩ : ∃ x, bs.getD k 0 = x := ⟨_, rfl⟩
          have hsn := words_snoc bs k (by omega)
          rw [hx] at c1 hb255 hsn
          obtain ⟨m, hm⟩ : ∃ m, x % 37 = m := ⟨_, rfl⟩
          have hm37 : m < 37 := by rw [← hm]; exact Nat.mod_lt _ (by omega)
          have em : (x : Int) % 37 = (m : Int) := by omega
          have em2 : (x : Int).tmod 37 = (m : Int) := by rw [Int.tmod_eq_emod_of_nonneg (by omega)]; exact em
          have c2 : w1.cell? ⟨w.heap.size, m, none⟩ = some (.string (strB (wat x))) := by
            rw [HX.out.cell m, List.getElem?_map, List.getElem?_eq_getElem (show m < wtab.length from hm37)]
            unfold wat
            rw [hm, List.getD_eq_getElem?_getD, List.getElem?_eq_getElem (show m < wtab.length from hm37)]
            rfl
          have HSN : Hid (strB ((bs.take (k + 1)).flatMap wat) = strB ((bs.take k).flatMap wat) ++ strB (wat x)) := by show _ = _; rw [hsn, strB_app]
          have z1 : (strB ((bs.take k).flatMap wat)).size ≤ 2000 := by rw [strB_size]; have := words_take_le bs k; omega
          have z2 : (strB (wat x)).size ≤ 10 := by rw [strB_size]; exact wat_le x
          generalize strB ((bs.take k).flatMap wat) = L at *
          generalize strB (wat x) = S at *
          have T3 : ∀ W, Sem.run Try.prog (Op.stringOp .add L S) W = .ok (.string (L ++ S)) W := fun W => run_string_add_sum W L S (by omega)
          have hwz : w.heap.size < w1.heap.size := HX.out.lt
          clear hcell hx hsn hm em
          go_wp2_with fail
          go_round
          case rel => exact ⟨k + 1, by omega, by omega, by go_num, by rw [HSN.out]⟩
          case measure => simp [intOf]; omega
      · obtain rfl : k = 200 := by omega
        go_wp2_with fail
        go_ret
        exact ⟨rfl, HW.out⟩
    · obtain rfl : k = n := by omega
      have e : bs.take k = bs.take 200 := by rw [List.take_of_length_le (by rw [HL.out]; exact Nat.le_refl _), List.take_of_length_le (by rw [HL.out]; exact hk2)]
      rw [e]
      clear e
      go_wp2_with fail
      go_ret
      exact ⟨rfl, HW.out⟩

end Go.Proofs.Ytdhkcbkeehameaa
