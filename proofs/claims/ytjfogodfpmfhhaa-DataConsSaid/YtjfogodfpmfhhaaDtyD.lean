/- Package data: typeOf, copyTypes of few, Type. -/
import Derived.Test.YtjfogodfpmfhhaaDAD
import Derived.Test.YtjfogodfpmfhhaaZAD
import Derived.Test.YtjfogodfpmfhhaaZCD
import Derived.Deep.CutRange
import Derived.Deep.DeepCutAuto
namespace Go.Proofs.Ytjfogodfpmfhhaa
open Go.RowKit Go.Maps
set_option linter.unusedVariables false
set_option linter.unusedSimpArgs false

/-- The variables' types, those ahead of i made. -/
def tvRow (m : Nat) : List Value := [.int .i64 1, .int .i64 (m : Int), .string ⟨#[]⟩, .slice none 0 0]
def tvZero : List Value := [.int .i64 0, .int .i64 0, .string ⟨#[]⟩, .slice none 0 0]
def tvRows (n i : Nat) : List (List Value) := (List.range n).map fun m => if m < i then tvRow m else tvZero
theorem tvRows_zero (n : Nat) : tvRows n 0 = List.replicate n tvZero := by
  unfold tvRows
  rw [List.eq_replicate_iff]
  refine ⟨by simp, fun b hb => ?_⟩
  obtain ⟨m, _, rfl⟩ := List.mem_map.1 hb
  simp
theorem tvRows_get {n i m : Nat} (h : m < n) : (tvRows n i)[m]? = some (if m < i then tvRow m else tvZero) := by
  unfold tvRows
  rw [List.getElem?_map, List.getElem?_range h]; rfl
theorem tvRows_set {n i : Nat} (h : i < n) : (tvRows n i).set i (tvRow i) = tvRows n (i + 1) := by
  apply List.ext_getElem?
  intro m
  rw [List.getElem?_set]
  by_cases hm : m < n
  · rw [tvRows_get hm, tvRows_get hm]
    by_cases e : i = m
    · subst e
      simp [tvRows, h]
    · rw [if_neg e]
      have : m < i ↔ m < i + 1 := by omega
      simp [this]
  · have h1 : (tvRows n i)[m]? = none := List.getElem?_eq_none (by simp [tvRows]; omega)
    have h2 : (tvRows n (i + 1))[m]? = none := List.getElem?_eq_none (by simp [tvRows]; omega)
    rw [h1, h2]
    split
    · simp [tvRows]; omega
    · rfl
theorem tvRows_len {n i : Nat} : ∀ y ∈ tvRows n i, y.length = 4 := fun y hy => by
  obtain ⟨m, _, rfl⟩ := List.mem_map.1 hy
  split <;> rfl
theorem Try.tySize4 : (Try.prog.info? 63).map (·.size) = some 4 := by kernel_rfl

set_option maxRecDepth 100000 in
set_option maxHeartbeats 8000000 in
theorem k_typeOf (w : World) (zs : ByteArray) (p : Int) (a1 a2 : Option Addr) (n c1 n2 c2 : Nat) (hn : n ≤ 1000) (hz : zs.size ≤ 1000) :
    Calls Try.prog 59 #[.agg #[.string zs, .int .i64 p, .slice a1 n c1, .slice a2 n2 c2]] w fun e w' => ∃ kb, e = .returned (.agg #[.int .i64 2, .int .i64 0, .string zs, .slice (some ⟨kb, 0, none⟩) n n]) ∧ w.heap.size ≤ kb ∧ RowsIn 4 w' kb (tvRows n n) ∧ Below w.heap.size w w' := by
  obtain ⟨i0, hi0, hz0, hz1, hz2⟩ := info_parts Try.zinfoT
  have hmake : ∀ W, ∃ mk, Sem.run Try.prog (Instr.makeSlice 57 (.int .i64 (n : Int)) (.int .i64 (n : Int))) W = .ok (.slice (some ⟨W.heap.size, 0, none⟩) n n) (W.alloc (.cells mk 63)) ∧ RowsIn 4 (W.alloc (.cells mk 63)) W.heap.size (tvRows n 0) := fun W => by
    refine ⟨madeCells (tvZero : List Value).toArray (n * 4), ?_, ?_⟩
    · have := run_makeSlice (P := Try.prog) (w := W) 57 63 i0 _ Try.underlying57 hi0 hz0 .i64 .i64 (n : Int) (n : Int) (by omega) (Int.le_refl _) (by rw [hz1]; omega) (by rw [hz2]; omega) (by omega)
      rw [hz1] at this
      simpa [Value.cells, tvZero] using this
    · rw [tvRows_zero]
      exact RowsIn.made W tvZero n _ rfl
  have HC := Lib.hid (fun (w' : World) => s_clone zs w' (by omega))
  obtain ⟨W1, hW1⟩ : ∃ W1, (w.alloc (.cells #[.string zs, .int .i64 p, .slice a1 n c1, .slice a2 n2 c2] 56)).alloc (.cells #[.int .i64 0, .int .i64 0, .string ⟨#[]⟩, .slice none 0 0] 63) = W1 := ⟨_, rfl⟩
  have hB1 : Below w.heap.size w W1 := hW1 ▸ ((Below.refl _ w).alloc (Nat.le_refl _) _).alloc (by simp) _
  have hs1 : W1.heap.size = w.heap.size + 1 + 1 := by rw [← hW1]; simp
  have hx0 : Box W1 w.heap.size 56 [.string zs, .int .i64 p, .slice a1 n c1, .slice a2 n2 c2] := hW1 ▸ (Box.new w 56 [.string zs, .int .i64 p, .slice a1 n c1, .slice a2 n2 c2]).alloc _
  have hx1 : Box W1 (w.heap.size + 1) 63 [.int .i64 0, .int .i64 0, .string ⟨#[]⟩, .slice none 0 0] := by
    rw [← hW1]
    have := Box.new (w.alloc (.cells #[.string zs, .int .i64 p, .slice a1 n c1, .slice a2 n2 c2] 56)) 63 [.int .i64 0, .int .i64 0, .string ⟨#[]⟩, .slice none 0 0]
    rwa [World.size_alloc] at this
  obtain ⟨mk, hm1, hm2⟩ := hmake W1
  obtain ⟨W0, hW0⟩ : ∃ W0, W1.alloc (.cells mk 63) = W0 := ⟨_, rfl⟩
  have HX0 := Lib.hid (hW0 ▸ hx0.alloc (.cells mk 63) : Box W0 w.heap.size 56 [.string zs, .int .i64 p, .slice a1 n c1, .slice a2 n2 c2])
  have HX1 := Lib.hid (hW0 ▸ hx1.alloc (.cells mk 63) : Box W0 (w.heap.size + 1) 63 [.int .i64 0, .int .i64 0, .string ⟨#[]⟩, .slice none 0 0])
  have HB0 : Hid (Below w.heap.size w W0) := hW0 ▸ hB1.alloc hB1.size _
  rw [hW0] at hm1 hm2
  have hkb : w.heap.size + 1 < W1.heap.size := by omega
  obtain ⟨kb, hkk⟩ : ∃ kb, W1.heap.size = kb := ⟨_, rfl⟩
  rw [hkk] at hm1 hm2 hkb
  have hk0 : kb < W0.heap.size := hm2.1
  have HM := Lib.hid hm2
  obtain ⟨_, _, _, _⟩ := four_cells hx0
  have hl0 := hx0.lt
  clear hmake hi0 hz0 hz1 hz2 hB1 hs1 hx1 hm2 hkk hW0 hx0
  go_enter Try.func59, Try.ntmps59
  go_wp2_with fail
  try rw [hW1]
  clear hm1
  go_loopw [11] (fun iv wr => ∃ i : Nat, i ≤ n ∧ iv = .int .i64 (i : Int) ∧ Hid (RowsIn 4 wr kb (tvRows n i)) ∧ Hid (Out (fun q => q = kb) W0 wr)) (fun iv _ => n - (intOf iv).toNat)
  case atStart => exact ⟨0, Nat.zero_le _, rfl, HM, Out.refl _ _⟩
  case round =>
    obtain ⟨i, hi, rfl, HR, HO⟩ := hrel
    obtain ⟨wo, rfl⟩ : ∃ wo, wo = wr := ⟨wr, rfl⟩
    by_cases hlt : i < n
    · have T1 : ∀ W, Sem.run Try.prog (Instr.indexAt 57 (.slice (some ⟨kb, 0, none⟩) n n) (.int .i64 (i : Int))) W = .ok (.pointer (some ⟨kb, i * 4, none⟩)) W := fun W => by go_simp
      have hget := tvRows_get (i := i) hlt
      have hle : i + 1 ≤ n := hlt
      go_wp2_with (refine wpList_store_wrow rfl 63 _ _ rfl 4 kb i (tvRows n i) _ (tvRow i) rfl rfl HR.out hget tvRows_len rfl Try.tySize4 (by simp [tvRow, Value.oneCell']) ?_; intro w7 hr7 ht7; rw [tvRows_set hlt] at hr7; have HR7 := Lib.hid hr7; have HO7 : Hid (Out (fun q => q = kb) W0 w7) := HO.out.trans (Out.of_two ht7 rfl rfl); clear hr7 ht7)
      go_roundw
      case rel => exact ⟨i + 1, by omega, by go_num, HR7, HO7⟩
      case measure => simp [intOf]; omega
    · have him : i = n := by omega
      subst him
      have hy0 := HO.out.box HX0.out (show ¬ (w.heap.size = kb) by omega)
      obtain ⟨_, _, _, _⟩ := four_cells hy0
      have hy0l := hy0.lt
      have HY1 := Lib.hid (HO.out.box HX1.out (show ¬ (w.heap.size + 1 = kb) by omega))
      have HBo : Hid (Below w.heap.size w wo) := HB0.out.trans (HO.out.below HB0.out.size (fun q hq => by show ¬ (q = kb); omega))
      clear hy0 hlt
      go_wp2_with (go_at_call 73; (with_reducible refine (HC.out _).mono ?_); rintro e w8 ⟨rfl, hb8⟩; have hy1 := HY1.out.below hb8; obtain ⟨_, _, _, _⟩ := four_cells hy1; obtain ⟨_, _, _, _⟩ := four_frozen hy1; have hy1l := hy1.lt; have HB8 := Lib.hid (HBo.out.trans (hb8.mono HBo.out.size)); have HR8 := Lib.hid (HR.out.agree (hb8.block kb HR.out.1) hb8.size); clear hb8 hy1)
      refine bodyPost_ret (v := .agg #[.int .i64 2, .int .i64 0, .string zs, .slice (some ⟨kb, 0, none⟩) i i]) (by simp only [results, Try.results59]; go_simp <;> rfl) rfl ?_
      refine ⟨kb, rfl, by omega, ?_, ?_⟩
      · refine HR8.out.agree ?_ (by simp)
        exact ((Below.heap_setCell _ ⟨w.heap.size + 1, 3, none⟩ _ kb (show kb ≠ w.heap.size + 1 by omega)).trans (Below.heap_setCell _ ⟨w.heap.size + 1, 2, none⟩ _ kb (show kb ≠ w.heap.size + 1 by omega))).trans ((Below.heap_setCell _ ⟨w.heap.size + 1, 1, none⟩ _ kb (show kb ≠ w.heap.size + 1 by omega)).trans (Below.heap_setCell _ ⟨w.heap.size + 1, 0, none⟩ _ kb (show kb ≠ w.heap.size + 1 by omega)))
      · exact (((HB8.out.setCell (p := ⟨w.heap.size + 1, 0, none⟩) (by show w.heap.size ≤ w.heap.size + 1; omega) _).setCell (p := ⟨w.heap.size + 1, 1, none⟩) (by show w.heap.size ≤ w.heap.size + 1; omega) _).setCell (p := ⟨w.heap.size + 1, 2, none⟩) (by show w.heap.size ≤ w.heap.size + 1; omega) _).setCell (p := ⟨w.heap.size + 1, 3, none⟩) (by show w.heap.size ≤ w.heap.size + 1; omega) _

set_option maxRecDepth 100000 in
set_option maxHeartbeats 4000000 in
theorem k_copy0 (w : World) (a : Option Addr) (c : Nat) : Calls Try.prog 58 #[.slice a 0 c] w fun e w' => ∃ kb, e = .returned (.slice (some ⟨kb, 0, none⟩) 0 0) ∧ Below w.heap.size w w' := by
  obtain ⟨i0, hi0, hz0, hz1, hz2⟩ := info_parts Try.zinfoT
  have hm : ∀ W, ∃ mk, Sem.run Try.prog (Instr.makeSlice 57 (.int .i64 0) (.int .i64 0)) W = .ok (.slice (some ⟨W.heap.size, 0, none⟩) 0 0) (W.alloc (.cells mk 63)) := fun W =>
    ⟨_, run_makeSlice (P := Try.prog) (w := W) 57 63 i0 _ Try.underlying57 hi0 hz0 .i64 .i64 0 0 (by omega) (Int.le_refl _) (by rw [hz1]; decide) (by rw [hz2]; omega) (by omega)⟩
  obtain ⟨mk, hmk⟩ := hm w
  have HB : Hid (Below w.heap.size w (w.alloc (.cells mk 63))) := (Below.refl _ w).alloc (Nat.le_refl _) _
  clear hm hi0 hz0 hz1 hz2
  go_enter Try.func58, Try.ntmps58
  go_wp2_with fail
  go_loopw [11] (fun iv wr => iv = .int .i64 0 ∧ wr = w.alloc (.cells mk 63)) (fun iv _ => 0)
  case atStart => exact ⟨rfl, rfl⟩
  case round =>
    obtain ⟨rfl, rfl⟩ := hrel
    go_wp2_with fail
    go_ret
    exact ⟨_, rfl, HB.out⟩

set_option maxRecDepth 100000 in
set_option maxHeartbeats 8000000 in
theorem k_copy1 (w : World) (g o c c2 : Nat) (k1 n1 : Int) (zs : ByteArray) (a2 : Option Addr) (hg : g < w.heap.size) (hz : zs.size ≤ 1000) (hc : 1 ≤ c)
    (h0 : w.cell? ⟨g, o, none⟩ = some (.int .i64 k1)) (h1 : w.cell? ⟨g, o + 1, none⟩ = some (.int .i64 n1)) (h2 : w.cell? ⟨g, o + 2, none⟩ = some (.string zs)) (h3 : w.cell? ⟨g, o + 3, none⟩ = some (.slice a2 0 c2)) :
    Calls Try.prog 58 #[.slice (some ⟨g, o, none⟩) 1 c] w fun e w' => ∃ kb, e = .returned (.slice (some ⟨kb, 0, none⟩) 1 1) ∧ Below w.heap.size w w' := by
  obtain ⟨i0, hi0, hz0, hz1, hz2⟩ := info_parts Try.zinfoT
  have hm : ∃ mk, Sem.run Try.prog (Instr.makeSlice 57 (.int .i64 1) (.int .i64 1)) w = .ok (.slice (some ⟨w.heap.size, 0, none⟩) 1 1) (w.alloc (.cells mk 63)) ∧ RowsIn 4 (w.alloc (.cells mk 63)) w.heap.size [tvZero] := by
    refine ⟨madeCells (tvZero : List Value).toArray (1 * 4), ?_, RowsIn.made w tvZero 1 _ rfl⟩
    have := run_makeSlice (P := Try.prog) (w := w) 57 63 i0 _ Try.underlying57 hi0 hz0 .i64 .i64 1 1 (by omega) (Int.le_refl _) (by rw [hz1]; decide) (by rw [hz2]; omega) (by omega)
    rw [hz1] at this
    simpa [Value.cells, tvZero] using this
  obtain ⟨mk, hmk, hrow⟩ := hm
  obtain ⟨W1, hW1⟩ : ∃ W1, w.alloc (.cells mk 63) = W1 := ⟨_, rfl⟩
  have hB : Below w.heap.size w W1 := hW1 ▸ (Below.refl _ w).alloc (Nat.le_refl _) _
  rw [hW1] at hmk hrow
  have q0 := (hB.cell (p := ⟨g, o, none⟩) hg).trans h0
  have q1 := (hB.cell (p := ⟨g, o + 1, none⟩) hg).trans h1
  have q2 := (hB.cell (p := ⟨g, o + 2, none⟩) hg).trans h2
  have q3 := (hB.cell (p := ⟨g, o + 3, none⟩) hg).trans h3
  have hs1 := hB.size
  have hk1 := hrow.1
  have HB := Lib.hid hB
  have HR := Lib.hid hrow
  have HC := Lib.hid (fun (w' : World) => s_clone zs w' (by omega))
  have H0 := Lib.hid (fun (w' : World) => k_copy0 w' a2 c2)
  have HL : Hid (∀ b1, b1 = W1.heap.size → b1 ≠ w.heap.size) := fun b1 hb => by omega
  clear hi0 hz0 hz1 hz2 h0 h1 h2 h3 hB hrow hW1
  have T0 : ∀ W, Sem.run Try.prog (Instr.indexAt 57 (.slice (some ⟨g, o, none⟩) 1 c) (.int .i64 0)) W = .ok (.pointer (some ⟨g, o, none⟩)) W := fun W => by go_simp
  have T1 : ∀ W, Sem.run Try.prog (Instr.indexAt 57 (.slice (some ⟨w.heap.size, 0, none⟩) 1 1) (.int .i64 0)) W = .ok (.pointer (some ⟨w.heap.size, 0 * 4, none⟩)) W := fun W => by go_simp
  go_enter Try.func58, Try.ntmps58
  go_wp2_with fail
  go_loopw [11] (fun iv wr => ∃ i : Nat, i ≤ 1 ∧ iv = .int .i64 (i : Int) ∧ (i = 0 → wr = W1) ∧ Hid (Below w.heap.size w wr)) (fun iv _ => 1 - (intOf iv).toNat)
  case atStart => exact ⟨0, by omega, rfl, fun _ => rfl, HB⟩
  case round =>
    obtain ⟨i, hi, rfl, hw, HBr⟩ := hrel
    by_cases hlt : i < 1
    · have hi0 : i = 0 := by omega
      subst hi0
      obtain rfl := hw rfl
      clear hlt hi
      go_wp2_with fail
      obtain ⟨W2, hW2⟩ : ∃ W2, wr.alloc (.cells #[.int .i64 k1, .int .i64 n1, .string zs, .slice a2 0 c2] 63) = W2 := ⟨_, rfl⟩
      have hbx : Box W2 wr.heap.size 63 [.int .i64 k1, .int .i64 n1, .string zs, .slice a2 0 c2] := hW2 ▸ Box.new wr 63 [.int .i64 k1, .int .i64 n1, .string zs, .slice a2 0 c2]
      have HB2 : Hid (Below wr.heap.size wr W2) := hW2 ▸ (Below.refl _ wr).alloc (Nat.le_refl _) _
      try rw [hW2]
      clear hW2
      have HBX := Lib.hid hbx
      have hl2 := hbx.lt
      obtain ⟨_, _, _, _⟩ := four_cells hbx
      clear hbx
      go_cut [] (fun wx => ∃ kb, Box wx wr.heap.size 63 [.int .i64 k1, .int .i64 n1, .string zs, .slice (some ⟨kb, 0, none⟩) 0 0] ∧ Out (fun q => q = wr.heap.size) W2 wx)
      case first =>
        go_region_with (first
          | (go_at_call 73; (with_reducible refine (HC.out _).mono ?_); rintro e w5 ⟨rfl, hb5⟩; have hy := HBX.out.drew.below hb5; have hl5 := hy.lt; obtain ⟨_, _, _, _⟩ := four_cells hy; obtain ⟨_, _, _, _⟩ := four_frozen hy; have HY5 := Lib.hid hy; have HB5 := Lib.hid hb5; clear hb5 hy)
          | (go_at_call 58; (with_reducible refine (H0.out _).mono ?_); rintro e w6 ⟨kb, rfl, hb6⟩; have hy := HY5.out.below hb6; have hl6 := hy.lt; obtain ⟨_, _, _, _⟩ := four_cells hy; obtain ⟨_, _, _, _⟩ := four_frozen hy; have HY6 := Lib.hid hy; have HB6 := Lib.hid hb6; clear hb6 hy))
        all_goals go_wp2_with fail
        all_goals go_meet
        all_goals refine ⟨kb, ?_, ?_⟩
        all_goals first
          | exact (HY6.out.set 2 (.string zs)).set 3 (.slice (some ⟨kb, 0, none⟩) 0 0)
          | exact (HY6.out.set 3 (.slice (some ⟨kb, 0, none⟩) 0 0)).set 2 (.string zs)
          | exact Out.setCell (S := fun q => q = wr.heap.size) (Out.setCell (S := fun q => q = wr.heap.size) (((Out.refl _ W2).drew.next HB5.out).next HB6.out) (p := ⟨wr.heap.size, 2, none⟩) (.inl rfl) _) (p := ⟨wr.heap.size, 3, none⟩) (.inl rfl) _
          | exact Out.setCell (S := fun q => q = wr.heap.size) (Out.setCell (S := fun q => q = wr.heap.size) (((Out.refl _ W2).drew.next HB5.out).next HB6.out) (p := ⟨wr.heap.size, 3, none⟩) (.inl rfl) _) (p := ⟨wr.heap.size, 2, none⟩) (.inl rfl) _
      case rest =>
        rename World => wx
        obtain ⟨kb, hbx3, ho3⟩ := hcut
        obtain ⟨_, _, _, _⟩ := four_cells hbx3
        have hl3 := hbx3.lt
        have hr3 : RowsIn 4 wx w.heap.size [tvZero] := ((HR.out.agree (HB2.out.block _ HR.out.1) HB2.out.size).agree (ho3.block _ (by have := HR.out.1; have := HB2.out.size; omega) (show ¬ (w.heap.size = wr.heap.size) by omega)) ho3.size)
        have HR3 := Lib.hid hr3
        have HB3 : Hid (Below w.heap.size w wx) := (HB.out.trans (HB2.out.mono HB.out.size)).trans (ho3.below (Nat.le_trans HB.out.size HB2.out.size) (fun q hq => by show ¬ (q = wr.heap.size); omega))
        clear hbx3 ho3 hr3
        go_wp2_with (refine wpList_store_wrow rfl 63 _ _ rfl 4 w.heap.size 0 [tvZero] tvZero [.int .i64 k1, .int .i64 n1, .string zs, .slice (some ⟨kb, 0, none⟩) 0 0] rfl rfl HR3.out rfl (by simp [tvZero]) rfl Try.tySize4 (by simp [Value.oneCell']) ?_; intro w7 hr7 ht7; have HB7 : Hid (Below w.heap.size w w7) := HB3.out.trans (ht7.below HB3.out.size (Nat.le_refl _) (Nat.le_refl _)); clear hr7 ht7)
        go_roundw
        case rel => exact ⟨1, by omega, by go_num, fun h => by omega, HB7⟩
        case measure => simp [intOf]
    · have hi1 : i = 1 := by omega
      subst hi1
      go_wp2_with fail
      go_ret
      exact ⟨_, rfl, HBr.out⟩

end Go.Proofs.Ytjfogodfpmfhhaa
