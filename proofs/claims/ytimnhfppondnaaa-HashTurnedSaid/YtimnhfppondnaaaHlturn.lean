/- The walk of the law HashTurned: it returns true and changes nothing that was there. -/
import Derived.Test.YtimnhfppondnaaaHlall
import Derived.Test.YtimnhfppondnaaaHm
import Derived.Laws.IdiomStrings
namespace Go.Proofs.Ytimnhfppondnaaa
open Go.RowKit
set_option linter.unusedVariables false

/-- '[]byte(s)', its block opaque. -/
theorem bytes_made (s : ByteArray) (w : World) : ∃ w1 c, (convert 9 31 (.string s)).run Try.prog w = .ok (.slice (some ⟨w.heap.size, 0, none⟩) s.size c) w1 ∧ Below w.heap.size w w1 ∧ w.heap.size < w1.heap.size ∧
    (∀ j (hj : j < s.size), w1.cell? ⟨w.heap.size, j, none⟩ = some (.int .u8 (s[j].toNat : Int)) ∧ w1.frozen? ⟨w.heap.size, j, none⟩ = false) := by
  refine ⟨_, _, run_bytes_of_string w 9 31 5 s Try.underlying9 Try.underlying31 Try.underlying5, ?_, ?_, ?_⟩
  · exact (Below.refl _ _).drew.alloc (Nat.le_refl _) _
  · rw [World.size_alloc]; exact Nat.lt_succ_self _
  · intro j hj
    have h1 := World.cell?_alloc_mark w.drew (bytesRow s (grownCap w s.size 0 5)) 5 ((bytesRow s (grownCap w s.size 0 5)).size, (bytesRow s (grownCap w s.size 0 5)).size + 1) j
    have h2 := World.frozen?_alloc_mark w.drew (bytesRow s (grownCap w s.size 0 5)) 5 (bytesRow s (grownCap w s.size 0 5)).size ((bytesRow s (grownCap w s.size 0 5)).size + 1) j
    have h3 := bytesRow_at s (grownCap w s.size 0 5) j hj
    have h4 : j < (bytesRow s (grownCap w s.size 0 5)).size := (Array.getElem?_eq_some_iff.1 h3).1
    exact ⟨h1.trans h3, by rw [show w.heap.size = w.drew.heap.size from rfl, h2]; simp; omega⟩

theorem nums_turned (s : ByteArray) (i v : Nat) (hi : i < s.size) : (strOfNums ((s.data.toList.map fun x => (x.toNat : Int)).set i (v : Int))).data.toList = s.data.toList.set i (UInt8.ofNat v) := by
  rw [strOfNums_data, List.map_set, List.map_map]
  congr 1
  rw [List.map_congr_left (g := id) (fun x _ => by simp), List.map_id]
theorem back_turned (s : ByteArray) (w1 : World) (g i v c : Nat) (hi : i < s.size) (hc : ∀ j (hj : j < s.size), w1.cell? ⟨g, j, none⟩ = some (.int .u8 (s[j].toNat : Int)) ∧ w1.frozen? ⟨g, j, none⟩ = false) (hg : g < w1.heap.size) :
    ∀ W, Below w1.heap.size (w1.setCell ⟨g, i, none⟩ (.int .u8 (v : Int))) W → (convert 31 9 (.slice (some ⟨g, 0, none⟩) s.size c)).run Try.prog W = .ok (.string (strOfNums ((s.data.toList.map fun x => (x.toNat : Int)).set i (v : Int)))) W := by
  intro W hW
  refine run_convert_bytes_arg W 31 5 Try.underlying31 Try.underlying5 g 0 s.size c _ (by simp) (fun j hj => ?_) 9 Try.underlying9
  rw [Nat.zero_add, hW.cell (p := ⟨g, j, none⟩) hg]
  have hcj := (hc j hj).1
  by_cases e : j = i
  · subst e
    rw [World.cell?_setCell_same (h := hcj)]
    simp [List.getD, hj]
  · rw [World.cell?_setCell_other (h := fun h => e (congrArg Addr.off h).symm), hcj]
    simp [List.getD, hj, Ne.symm e]
    rfl
theorem size_set (w : World) (a : Addr) (v : Value) : (w.setCell a v).heap.size = w.heap.size := by simp [World.setCell]

theorem turned_awake (s : ByteArray) (p b : Nat) (w : World) (hs : s.size ≤ 9223372036854775807) (hp : p ≤ 65535) (hb : b ≤ 255) (h : s.size = 0 ∨ 400 < s.size ∨ b = 0) :
    Calls Try.prog 4 #[.string s, .int .u16 (p : Int), .int .u8 (b : Int)] w fun e w' => e = .returned (.bool true) ∧ Below w.heap.size w w' := by
  rcases h with h | h | h
  · have h' : ((s.size : Int) == 0) = true := by simp [h]
    clear h
    go_enter Try.func4, Try.ntmps4
    go_wp2_with (go_at_call 7; refine (awake_any _).mono ?_; rintro e w' ⟨rfl, hb⟩)
    go_ret
    exact ⟨rfl, hb⟩
  · have h' : ((s.size : Int) == 0) = false := beq_false_of_ne (by omega)
    go_enter Try.func4, Try.ntmps4
    go_wp2_with (go_at_call 7; refine (awake_any _).mono ?_; rintro e w' ⟨rfl, hb⟩)
    go_ret
    exact ⟨rfl, hb⟩
  · subst h
    by_cases h1 : s.size = 0
    · have h' : ((s.size : Int) == 0) = true := by simp [h1]
      clear h1
      go_enter Try.func4, Try.ntmps4
      go_wp2_with (go_at_call 7; refine (awake_any _).mono ?_; rintro e w' ⟨rfl, hb⟩)
      go_ret
      exact ⟨rfl, hb⟩
    · have h' : ((s.size : Int) == 0) = false := beq_false_of_ne (by omega)
      by_cases h2 : 400 < s.size
      all_goals
        go_enter Try.func4, Try.ntmps4
        go_wp2_with (go_at_call 7; refine (awake_any _).mono ?_; rintro e w' ⟨rfl, hb⟩)
        go_ret
        exact ⟨rfl, hb⟩

set_option maxRecDepth 100000 in
set_option maxHeartbeats 1000000 in
theorem turned_walk (s : ByteArray) (p b : Nat) (w : World) (h1 : 0 < s.size) (h2 : s.size ≤ 400) (hp : p ≤ 65535) (hb0 : 0 < b) (hb : b ≤ 255) :
    Calls Try.prog 4 #[.string s, .int .u16 (p : Int), .int .u8 (b : Int)] w fun e w' => e = .returned (.bool true) ∧ Below w.heap.size w w' := by
  have g1 : ((s.size : Int) == 0) = false := beq_false_of_ne (by omega)
  have g2 : ((b : Int) == 0) = false := by simp; omega
  obtain ⟨i, hi⟩ : ∃ i, p % s.size = i := ⟨_, rfl⟩
  have hlt : i < s.size := by rw [← hi]; exact Nat.mod_lt _ h1
  have m1 : (p : Int) % (s.size : Int) = (i : Int) := by rw [← hi]; simp
  have m2 : (p : Int).tmod (s.size : Int) = (i : Int) := by rw [Int.tmod_eq_emod_of_nonneg (by omega)]; exact m1
  obtain ⟨w1, c, hrun, k1, s1, hc⟩ := bytes_made s w
  have hv : bits .xor .u8 (s[i].toNat : Int) (b : Int) = ((bits .xor .u8 (s[i].toNat : Int) (b : Int)).toNat : Int) := by rw [xor8]; simp
  have hne := xor8_ne s[i] (b : Int) (by omega)
  obtain ⟨v, hv2⟩ : ∃ v : Nat, (bits .xor .u8 (s[i].toNat : Int) (b : Int)).toNat = v := ⟨_, rfl⟩
  rw [hv2] at hv hne
  have ci := hc i hlt
  have HC := Lib.hid hc
  have HN := Lib.hid hne
  have HK := Lib.hid k1
  clear hc hne hv2 hi k1
  obtain ⟨c1, c2⟩ := ci
  go_enter Try.func4, Try.ntmps4
  go_wp2_with fail
  have hT := back_turned s w1 w.heap.size i v c hlt HC.out s1
  rw [← size_set w1 ⟨w.heap.size, i, none⟩ (.int .u8 (v : Int))] at hT
  have k2 : Below w.heap.size w (w1.setCell ⟨w.heap.size, i, none⟩ (.int .u8 (v : Int))) := HK.out.setCell (Nat.le_refl _) _
  generalize w1.setCell ⟨w.heap.size, i, none⟩ (.int .u8 (v : Int)) = w2 at *
  have hs' : s.size ≤ maxLen := by unfold maxLen; omega
  have hz : (strOfNums ((s.data.toList.map fun x => (x.toNat : Int)).set i (v : Int))).size ≤ maxLen := by rw [strOfNums_size]; unfold maxLen; simp; omega
  have hns : sumI s.data.toList ≠ sumI (strOfNums ((s.data.toList.map fun x => (x.toNat : Int)).set i (v : Int))).data.toList := by
    rw [nums_turned s i v hlt]
    exact sum_set _ i (by simpa using hlt) _ HN.out
  generalize strOfNums ((s.data.toList.map fun x => (x.toNat : Int)).set i (v : Int)) = s2 at *
  obtain ⟨x, hx⟩ : ∃ x, sumI s.data.toList = x := ⟨_, rfl⟩
  obtain ⟨y, hy⟩ : ∃ y, sumI s2.data.toList = y := ⟨_, rfl⟩
  rw [hx, hy] at hns
  have hxy : (x != y) = true := by simpa using hns
  have H1 := Lib.hid (sum_below s w2 hs' x hx)
  have H2 := Lib.hid (sum_below s2 w2 hz y hy)
  have H7 := Lib.hid (awk_below w2)
  have HD := Lib.hid k2
  clear HK HC HN hx hy hs' hz k2 hns c1 c2 hrun m1 m2 hv
  have hsz : w.heap.size ≤ w2.heap.size := HD.out.size
  go_region_held3 (fun w' => Below w2.heap.size w2 w')
    (first
      | exact (Below.refl _ _).drew
      | exact below_next (by assumption) hbz (Nat.le_refl _))
    (first
      | (go_at_call 8; (with_reducible refine (H1.out _ ?_).mono ?_); assumption; rintro e wz ⟨rfl, hbz⟩)
      | (go_at_call 8; (with_reducible refine (H2.out _ ?_).mono ?_); assumption; rintro e wz ⟨rfl, hbz⟩)
      | (go_at_call 7; (with_reducible refine (H7.out _ ?_).mono ?_); assumption; rintro e wz ⟨rfl, hbz⟩))
  go_wp2
  go_ret
  refine ⟨rfl, HD.out.trans (Below.mono (B := w2.heap.size) ?_ hsz)⟩
  assumption

theorem turned_law (s : ByteArray) (p b : Nat) (w : World) (hs : s.size ≤ 9223372036854775807) (hp : p ≤ 65535) (hb : b ≤ 255) :
    Calls Try.prog 4 #[.string s, .int .u16 (p : Int), .int .u8 (b : Int)] w fun e w' => e = .returned (.bool true) ∧ Below w.heap.size w w' := by
  by_cases h : s.size = 0 ∨ 400 < s.size ∨ b = 0
  · exact turned_awake s p b w hs hp hb h
  · exact turned_walk s p b w (by omega) (by omega) hp (by omega) hb

end Go.Proofs.Ytimnhfppondnaaa
