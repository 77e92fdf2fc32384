/- Package data: Type, at one declaration with two Cons. -/
import Derived.Test.YtjfogodfpmfhhaaDtyD
namespace Go.Proofs.Ytjfogodfpmfhhaa
open Go.RowKit Go.Maps
set_option linter.unusedVariables false
set_option linter.unusedSimpArgs false

/-- One declaration in memory: its name, n variables, a Con without Args, a Con with one that has no kids. -/
structure One2 (w : World) (g h q : Nat) (zs z1 z2 z3 : ByteArray) (a1 : Option Addr) (n c1 : Nat) : Prop where
  lg : g < w.heap.size
  lh : h < w.heap.size
  lq : q < w.heap.size
  d0 : w.cell? ⟨g, 0, none⟩ = some (.string zs)
  d1 : w.cell? ⟨g, 1, none⟩ = some (.int .i64 0)
  d2 : w.cell? ⟨g, 2, none⟩ = some (.slice a1 n c1)
  d3 : w.cell? ⟨g, 3, none⟩ = some (.slice (some ⟨h, 0, none⟩) 2 2)
  c0 : w.cell? ⟨h, 0, none⟩ = some (.string z1)
  c1' : w.cell? ⟨h, 1, none⟩ = some (.int .i64 0)
  c2 : w.cell? ⟨h, 2, none⟩ = some (.slice none 0 0)
  c3 : w.cell? ⟨h, 3, none⟩ = some (.string z2)
  c4 : w.cell? ⟨h, 4, none⟩ = some (.int .i64 0)
  c5 : w.cell? ⟨h, 5, none⟩ = some (.slice (some ⟨q, 0, none⟩) 1 1)
  q0 : w.cell? ⟨q, 0, none⟩ = some (.int .i64 2)
  q1 : w.cell? ⟨q, 1, none⟩ = some (.int .i64 0)
  q2 : w.cell? ⟨q, 2, none⟩ = some (.string z3)
  q3 : w.cell? ⟨q, 3, none⟩ = some (.slice none 0 0)
theorem One2.below {w w' : World} {g h q : Nat} {zs z1 z2 z3 : ByteArray} {a1 : Option Addr} {n c1 : Nat} (x : One2 w g h q zs z1 z2 z3 a1 n c1) (hb : Below w.heap.size w w') : One2 w' g h q zs z1 z2 z3 a1 n c1 := by
  have hs := hb.size
  obtain ⟨l1, l2, l3, d0, d1, d2, d3, e0, e1, e2, e3, e4, e5, f0, f1, f2, f3⟩ := x
  have G : ∀ o, w'.cell? ⟨g, o, none⟩ = w.cell? ⟨g, o, none⟩ := fun o => hb.cell (p := ⟨g, o, none⟩) l1
  have H : ∀ o, w'.cell? ⟨h, o, none⟩ = w.cell? ⟨h, o, none⟩ := fun o => hb.cell (p := ⟨h, o, none⟩) l2
  have Q : ∀ o, w'.cell? ⟨q, o, none⟩ = w.cell? ⟨q, o, none⟩ := fun o => hb.cell (p := ⟨q, o, none⟩) l3
  exact ⟨by omega, by omega, by omega, (G 0).trans d0, (G 1).trans d1, (G 2).trans d2, (G 3).trans d3, (H 0).trans e0, (H 1).trans e1, (H 2).trans e2, (H 3).trans e3, (H 4).trans e4, (H 5).trans e5, (Q 0).trans f0, (Q 1).trans f1, (Q 2).trans f2, (Q 3).trans f3⟩

set_option maxRecDepth 100000 in
set_option maxHeartbeats 8000000 in
theorem k_Type2 (w : World) (g h q : Nat) (zs z1 z2 z3 : ByteArray) (a1 : Option Addr) (n c1 : Nat) (X : One2 w g h q zs z1 z2 z3 a1 n c1) (hn : n ≤ 1000) (hzs : zs.size ≤ 1000) (hz3 : z3.size ≤ 1000) (j : Nat) (hj : j < 2) :
    Calls Try.prog 27 #[.slice (some ⟨g, 0, none⟩) 1 1, .int .i64 0, .int .i64 (j : Int)] w fun e w' => ∃ ab kb, e = .returned (.tuple #[.slice (some ⟨ab, 0, none⟩) j j, .agg #[.int .i64 2, .int .i64 0, .string zs, .slice (some ⟨kb, 0, none⟩) n n]]) ∧ w.heap.size ≤ kb ∧ RowsIn 4 w' kb (tvRows n n) ∧ Below w.heap.size w w' := by
  have h12 : j = 0 ∨ j = 1 := by omega
  have HP0 : Hid (∀ w, Calls Try.prog 57 #[.int .i64 0, .int .i64 1] w fun e w' => e = .returned (.bool true) ∧ w' = w) := fun w => k_isPlace 0 1 w (r := true) (by decide)
  have HX := Lib.hid (X.below (((Below.refl _ w).alloc (Nat.le_refl _) (.cells #[.int .i64 0, .int .i64 0, .string ⟨#[]⟩, .slice none 0 0] 63))))
  obtain ⟨W1, hW1⟩ : ∃ W1, w.alloc (.cells #[.int .i64 0, .int .i64 0, .string ⟨#[]⟩, .slice none 0 0] 63) = W1 := ⟨_, rfl⟩
  have HB1 : Hid (Below w.heap.size w W1) := hW1 ▸ (Below.refl _ w).alloc (Nat.le_refl _) _
  have HBX : Hid (Box W1 w.heap.size 63 [.int .i64 0, .int .i64 0, .string ⟨#[]⟩, .slice none 0 0]) := hW1 ▸ Box.new w 63 [.int .i64 0, .int .i64 0, .string ⟨#[]⟩, .slice none 0 0]
  rw [hW1] at HX
  obtain ⟨l1, l2, l3, d0, d1, d2, d3, e0, e1, e2, e3, e4, e5, f0, f1, f2, f3⟩ := HX.out
  have HT := Lib.hid (fun (w' : World) => k_typeOf w' zs 0 a1 (some ⟨h, 0, none⟩) n c1 2 2 hn hzs)
  have hl1 := HBX.out.lt
  clear X
  rcases h12 with rfl | rfl
  · have HP1 : Hid (∀ w, Calls Try.prog 57 #[.int .i64 0, .int .i64 2] w fun e w' => e = .returned (.bool true) ∧ w' = w) := fun w => k_isPlace 0 2 w (r := true) (by decide)
    have HC : Hid (∀ w', Below W1.heap.size W1 w' → Calls Try.prog 58 #[.slice none 0 0] w' fun e w'' => ∃ kb, e = .returned (.slice (some ⟨kb, 0, none⟩) 0 0) ∧ Below w'.heap.size w' w'') := fun w' hb => k_copy0 w' none 0
    go_enter Try.func27, Try.ntmps27
    go_wp2_with (first
      | (go_at_call 57; (with_reducible refine (HP0.out _).mono ?_); rintro e w' ⟨rfl, hw⟩; have hw := hw.symm; subst hw)
      | (go_at_call 57; (with_reducible refine (HP1.out _).mono ?_); rintro e w' ⟨rfl, hw⟩; have hw := hw.symm; subst hw))
    try rw [hW1]
    clear hW1
    go_cut [6] (fun v6 wx => ∃ ab kb, v6 = .slice (some ⟨ab, 0, none⟩) 0 0 ∧ w.heap.size ≤ kb ∧ RowsIn 4 wx kb (tvRows n n) ∧ Box wx w.heap.size 63 [.int .i64 2, .int .i64 0, .string zs, .slice (some ⟨kb, 0, none⟩) n n] ∧ Below w.heap.size w wx)
    case first =>
      go_region_with (first
        | (go_at_call 58; (with_reducible refine (HC.out _ (Below.refl _ _).drew).mono ?_); rintro e w5 ⟨ab, rfl, hb5⟩; have hx5 := HX.out.below ((Below.refl _ W1).drew.trans hb5); have HY5 := Lib.hid (HBX.out.drew.below hb5); have HB5 : Hid (Below w.heap.size w w5) := HB1.out.trans (((Below.refl _ W1).drew.trans hb5).mono HB1.out.size); obtain ⟨m1, m2, m3, _, _, _, _, _, _, _, _, _, _, _, _, _, _⟩ := hx5; clear hb5)
        | (go_at_call 59; (with_reducible refine (HT.out _).mono ?_); rintro e w6 ⟨kb, rfl, hk6, hr6, hb6⟩; have hy := HY5.out.below hb6; have hyl := hy.lt; obtain ⟨_, _, _, _⟩ := four_cells hy; obtain ⟨_, _, _, _⟩ := four_frozen hy; have HY6 := Lib.hid hy; have HK6 := Lib.hid hk6; have HR6 := Lib.hid hr6; have HB6 := Lib.hid (HB5.out.trans (hb6.mono HB5.out.size)); clear hb6 hy hk6 hr6))
      all_goals go_wp2_with fail
      all_goals go_meet
      all_goals (have hkk : kb ≠ w.heap.size := by have h1 := HK6.out; have h2 := HY5.out.lt; omega)
      all_goals refine ⟨ab, kb, rfl, by have h1 := HK6.out; have h2 := HB5.out.size; omega, ?_, ?_, ?_⟩
      all_goals first
        | exact HR6.out.agree (((Below.heap_setCell _ ⟨w.heap.size, 3, none⟩ _ kb hkk).trans (Below.heap_setCell _ ⟨w.heap.size, 2, none⟩ _ kb hkk)).trans ((Below.heap_setCell _ ⟨w.heap.size, 1, none⟩ _ kb hkk).trans (Below.heap_setCell _ ⟨w.heap.size, 0, none⟩ _ kb hkk))) (by simp)
        | exact (((HY6.out.set 0 (.int .i64 2)).set 1 (.int .i64 0)).set 2 (.string zs)).set 3 (.slice (some ⟨kb, 0, none⟩) n n)
        | exact (((HB6.out.setCell (p := ⟨w.heap.size, 0, none⟩) (Nat.le_refl _) _).setCell (p := ⟨w.heap.size, 1, none⟩) (Nat.le_refl _) _).setCell (p := ⟨w.heap.size, 2, none⟩) (Nat.le_refl _) _).setCell (p := ⟨w.heap.size, 3, none⟩) (Nat.le_refl _) _
    case rest =>
      rename World => wx
      obtain ⟨ab, kb, rfl, hk6, hr6, hbx, hb6⟩ := hcut
      obtain ⟨_, _, _, _⟩ := four_cells hbx
      have hl6 := hbx.lt
      have HR6 := Lib.hid hr6
      have HB6 := Lib.hid hb6
      clear hr6 hb6 hbx
      go_wp2_with fail
      refine bodyPost_ret (v := .tuple #[.slice (some ⟨ab, 0, none⟩) 0 0, .agg #[.int .i64 2, .int .i64 0, .string zs, .slice (some ⟨kb, 0, none⟩) n n]]) (by simp only [results, Try.results27]; go_simp <;> rfl) rfl ?_
      exact ⟨ab, kb, rfl, hk6, HR6.out, HB6.out⟩
  · have HP1 : Hid (∀ w, Calls Try.prog 57 #[.int .i64 1, .int .i64 2] w fun e w' => e = .returned (.bool true) ∧ w' = w) := fun w => k_isPlace 1 2 w (r := true) (by decide)
    have HC : Hid (∀ w', Below W1.heap.size W1 w' → Calls Try.prog 58 #[.slice (some ⟨q, 0, none⟩) 1 1] w' fun e w'' => ∃ kb, e = .returned (.slice (some ⟨kb, 0, none⟩) 1 1) ∧ Below w'.heap.size w' w'') := fun w' hb => by
      have hx := HX.out.below hb
      exact k_copy1 w' q 0 1 0 2 0 z3 none hx.lq hz3 (Nat.le_refl _) hx.q0 hx.q1 hx.q2 hx.q3
    go_enter Try.func27, Try.ntmps27
    go_wp2_with (first
      | (go_at_call 57; (with_reducible refine (HP0.out _).mono ?_); rintro e w' ⟨rfl, hw⟩; have hw := hw.symm; subst hw)
      | (go_at_call 57; (with_reducible refine (HP1.out _).mono ?_); rintro e w' ⟨rfl, hw⟩; have hw := hw.symm; subst hw))
    try rw [hW1]
    clear hW1
    go_cut [6] (fun v6 wx => ∃ ab kb, v6 = .slice (some ⟨ab, 0, none⟩) 1 1 ∧ w.heap.size ≤ kb ∧ RowsIn 4 wx kb (tvRows n n) ∧ Box wx w.heap.size 63 [.int .i64 2, .int .i64 0, .string zs, .slice (some ⟨kb, 0, none⟩) n n] ∧ Below w.heap.size w wx)
    case first =>
      go_region_with (first
        | (go_at_call 58; (with_reducible refine (HC.out _ (Below.refl _ _).drew).mono ?_); rintro e w5 ⟨ab, rfl, hb5⟩; have hx5 := HX.out.below ((Below.refl _ W1).drew.trans hb5); have HY5 := Lib.hid (HBX.out.drew.below hb5); have HB5 : Hid (Below w.heap.size w w5) := HB1.out.trans (((Below.refl _ W1).drew.trans hb5).mono HB1.out.size); obtain ⟨m1, m2, m3, _, _, _, _, _, _, _, _, _, _, _, _, _, _⟩ := hx5; clear hb5)
        | (go_at_call 59; (with_reducible refine (HT.out _).mono ?_); rintro e w6 ⟨kb, rfl, hk6, hr6, hb6⟩; have hy := HY5.out.below hb6; have hyl := hy.lt; obtain ⟨_, _, _, _⟩ := four_cells hy; obtain ⟨_, _, _, _⟩ := four_frozen hy; have HY6 := Lib.hid hy; have HK6 := Lib.hid hk6; have HR6 := Lib.hid hr6; have HB6 := Lib.hid (HB5.out.trans (hb6.mono HB5.out.size)); clear hb6 hy hk6 hr6))
      all_goals go_wp2_with fail
      all_goals go_meet
      all_goals (have hkk : kb ≠ w.heap.size := by have h1 := HK6.out; have h2 := HY5.out.lt; omega)
      all_goals refine ⟨ab, kb, rfl, by have h1 := HK6.out; have h2 := HB5.out.size; omega, ?_, ?_, ?_⟩
      all_goals first
        | exact HR6.out.agree (((Below.heap_setCell _ ⟨w.heap.size, 3, none⟩ _ kb hkk).trans (Below.heap_setCell _ ⟨w.heap.size, 2, none⟩ _ kb hkk)).trans ((Below.heap_setCell _ ⟨w.heap.size, 1, none⟩ _ kb hkk).trans (Below.heap_setCell _ ⟨w.heap.size, 0, none⟩ _ kb hkk))) (by simp)
        | exact (((HY6.out.set 0 (.int .i64 2)).set 1 (.int .i64 0)).set 2 (.string zs)).set 3 (.slice (some ⟨kb, 0, none⟩) n n)
        | exact (((HB6.out.setCell (p := ⟨w.heap.size, 0, none⟩) (Nat.le_refl _) _).setCell (p := ⟨w.heap.size, 1, none⟩) (Nat.le_refl _) _).setCell (p := ⟨w.heap.size, 2, none⟩) (Nat.le_refl _) _).setCell (p := ⟨w.heap.size, 3, none⟩) (Nat.le_refl _) _
    case rest =>
      rename World => wx
      obtain ⟨ab, kb, rfl, hk6, hr6, hbx, hb6⟩ := hcut
      obtain ⟨_, _, _, _⟩ := four_cells hbx
      have hl6 := hbx.lt
      have HR6 := Lib.hid hr6
      have HB6 := Lib.hid hb6
      clear hr6 hb6 hbx
      go_wp2_with fail
      refine bodyPost_ret (v := .tuple #[.slice (some ⟨ab, 0, none⟩) 1 1, .agg #[.int .i64 2, .int .i64 0, .string zs, .slice (some ⟨kb, 0, none⟩) n n]]) (by simp only [results, Try.results27]; go_simp <;> rfl) rfl ?_
      exact ⟨ab, kb, rfl, hk6, HR6.out, HB6.out⟩

/-- A declaration that there is not has no Con. -/
theorem k_TypeNo (w : World) (g : Nat) : Calls Try.prog 27 #[.slice (some ⟨g, 0, none⟩) 1 1, .int .i64 1, .int .i64 0] w fun e w' => e = .returned (.tuple #[.slice none 0 0, .agg #[.int .i64 0, .int .i64 0, .string ⟨#[]⟩, .slice none 0 0]]) ∧ Below w.heap.size w w' := by
  have HP0 : Hid (∀ w, Calls Try.prog 57 #[.int .i64 1, .int .i64 1] w fun e w' => e = .returned (.bool false) ∧ w' = w) := fun w => k_isPlace 1 1 w (r := false) (by decide)
  go_enter Try.func27, Try.ntmps27
  go_wp2_with (go_at_call 57; (with_reducible refine (HP0.out _).mono ?_); rintro e w' ⟨rfl, hw⟩; have hw := hw.symm; subst hw)
  refine bodyPost_ret (v := .tuple #[.slice none 0 0, .agg #[.int .i64 0, .int .i64 0, .string ⟨#[]⟩, .slice none 0 0]]) (by simp only [results, Try.results27]; go_simp <;> rfl) rfl ⟨rfl, ?_⟩
  repeat (first | exact Below.refl _ _ | refine Below.setCell ?_ (by simp) _ | refine Below.alloc ?_ (by simp) _)

end Go.Proofs.Ytjfogodfpmfhhaa
