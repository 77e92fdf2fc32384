/- The law's Make: its arms. Generated (tools/gen17mk.py). -/
import Derived.Test.YtpfcpeljfgmjgaaDoorKmk
namespace Go.Proofs.YtpfcpeljfgmjgaaDoor
open Go.RowKit
set_option linter.unusedVariables false
set_option linter.unusedSimpArgs false

theorem one_set {S : Nat → Prop} {w : World} {x : Ty} {c0 c1 c2 c3 : Value} (h : IsV S w (tyC x) (.agg #[c0, c1, c2, c3])) {b : Nat} (hb : ¬ S b) (hS : S w.heap.size) (v0 v1 v2 v3 : Value) :
    InC S (((((w.setCell ⟨b, 0, none⟩ v0).setCell ⟨b, 1, none⟩ v1).setCell ⟨b, 2, none⟩ v2).setCell ⟨b, 3, none⟩ v3).alloc (.cells #[c0, c1, c2, c3] 47)) (.s [x].length 4 (tysC [x])) (.slice (some ⟨w.heap.size, 0, none⟩) 1 1) := by
  have := one_new (h.set4 hb v0 v1 v2 v3) (by simp only [World.size_setCell]; exact hS)
  simp only [World.size_setCell] at this
  exact this
theorem two_set {S : Nat → Prop} {w : World} {x y : Ty} {c0 c1 c2 c3 d0 d1 d2 d3 : Value} (h : IsV S w (tyC x) (.agg #[c0, c1, c2, c3])) (k : IsV S w (tyC y) (.agg #[d0, d1, d2, d3])) {b : Nat} (hb : ¬ S b) (hS : S w.heap.size) (v0 v1 v2 v3 : Value) :
    InC S (((((w.setCell ⟨b, 0, none⟩ v0).setCell ⟨b, 1, none⟩ v1).setCell ⟨b, 2, none⟩ v2).setCell ⟨b, 3, none⟩ v3).alloc (.cells #[c0, c1, c2, c3, d0, d1, d2, d3] 47)) (.s [x, y].length 4 (tysC [x, y])) (.slice (some ⟨w.heap.size, 0, none⟩) 2 2) := by
  have := two_new (h.set4 hb v0 v1 v2 v3) (k.set4 hb v0 v1 v2 v3) (by simp only [World.size_setCell]; exact hS)
  simp only [World.size_setCell] at this
  exact this

set_option maxRecDepth 100000 in
set_option maxHeartbeats 8000000 in
theorem mk_var (n : Nat) (r : List Nat) (ih : ∀ l : List Nat, l.length ≤ r.length → MKB l) (h1 : n % 3 = 0 ∨ (r = [] ∧ n % 3 = 1)) : MKB (n :: r) := by
  intro a cap v w h hc hm hv hv2
  obtain ⟨hn255, g, off, rfl, hg, hcell⟩ := h 0 n rfl
  rw [Nat.add_zero] at hcell
  obtain ⟨M, hM⟩ : ∃ M, (n :: r).length = M := ⟨_, rfl⟩
  obtain ⟨L, hL⟩ : ∃ L, r.length = L := ⟨_, rfl⟩
  have hML : M = L + 1 := by rw [← hM, ← hL]; simp
  unfold maxLen at hm
  rw [hM] at hc
  obtain ⟨W1, hW1⟩ : ∃ W1, w.alloc (.cells #[.int .i64 0, .int .i64 0, .string ⟨#[]⟩, .slice none 0 0] 47) = W1 := ⟨_, rfl⟩
  have hs1 : W1.heap.size = w.heap.size + 1 := by rw [← hW1]; simp
  have hb1 : Below w.heap.size w W1 := hW1 ▸ (Below.refl _ w).alloc (Nat.le_refl _) _
  have hx1 : Box W1 w.heap.size 47 [.int .i64 0, .int .i64 0, .string ⟨#[]⟩, .slice none 0 0] := hW1 ▸ Box.new w 47 [.int .i64 0, .int .i64 0, .string ⟨#[]⟩, .slice none 0 0]
  have HX1 : Hid (Box W1 w.heap.size 47 tZero) := hx1
  have HB1 := Lib.hid hb1
  obtain ⟨_, _, _, _⟩ := four_cells hx1
  obtain ⟨_, _, _, _⟩ := four_frozen hx1
  have hl := hx1.lt
  have hcell1 := (hb1.cell (p := ⟨g, off, none⟩) hg).trans hcell
  have hg1 : g < W1.heap.size := by omega
  have hby1 := h.under hb1
  obtain ⟨ain, hin, hbin⟩ := hby1.skip 1 (by simp) (by rw [hM]; exact hc)
  rw [hM, show M - 1 = L from by omega] at hin
  have hbin2 : BY W1 ain r := by simpa using hbin
  obtain ⟨ah, hhalf, hbh⟩ := hbin2.skip (L / 2) (by omega) (show r.length ≤ cap - 1 by omega)
  rw [hL] at hhalf
  obtain ⟨H, hH⟩ : ∃ H, L / 2 = H := ⟨_, rfl⟩
  rw [hH] at hhalf hbh
  have hin' : ∀ W, Sem.run Tryd.prog (Instr.slice 35 (.slice (some ⟨g, off, none⟩) M cap) (some (.int .i64 1)) none none) W = .ok (.slice ain L (cap - 1)) W := hin
  have eH : (L : Int).tdiv 2 = (H : Int) := by rw [Int.tdiv_eq_ediv_of_nonneg (by omega)]; omega
  have eH2 : (L : Int) / 2 = (H : Int) := by omega
  have ewH : IntKind.i64.wrap (H : Int) = (H : Int) := by rw [IntKind.wrap_i64]; omega
  have eM0 : ((M : Int) == 0) = false := by rw [Bool.eq_false_iff]; simp only [ne_eq, beq_iff_eq]; omega
  have T1 : ∀ W, Sem.run Tryd.prog (Instr.indexAt 35 (.slice (some ⟨g, off, none⟩) M cap) (.int .i64 0)) W = .ok (.pointer (some ⟨g, off, none⟩)) W := fun W => by go_simp
  have ev : decide ((0 : Int) < (v : Int)) = true := decide_eq_true (by omega)
  have ev2 : decide (0 < v) = true := decide_eq_true (by omega)
  have ewn : IntKind.i64.wrap (n : Int) = (n : Int) := by rw [IntKind.wrap_i64]; omega
  obtain ⟨d, hd⟩ : ∃ d, n / 3 = d := ⟨_, rfl⟩
  have ed : (n : Int).tdiv 3 = (d : Int) := by rw [Int.tdiv_eq_ediv_of_nonneg (by omega)]; omega
  have ed2 : (n : Int) / 3 = (d : Int) := by omega
  have ewd : IntKind.i64.wrap (d : Int) = (d : Int) := by rw [IntKind.wrap_i64]; omega
  have hdv : d % v < v := Nat.mod_lt _ (by omega)
  obtain ⟨q, hq⟩ : ∃ q, d % v = q := ⟨_, rfl⟩
  have eq1 : (d : Int).tmod (v : Int) = (q : Int) := by rw [Int.tmod_eq_emod_of_nonneg (by omega)]; omega
  have eq2 : (d : Int) % (v : Int) = (q : Int) := by omega
  have hvne : ¬ ((v : Int) = 0) := by omega
  have evz : ((v : Int) == 0) = false := by simpa using hvne
  rw [hM, makeT_cons, if_pos (by
    rcases h1 with h1 | ⟨h1, h2⟩
    · exact .inl ⟨h1, by omega⟩
    · exact .inr ⟨h1, by omega, h2⟩)]
  rw [hd, hq]
  clear hcell h hin hbin hM hby1
  have h1' : ((n : Int).tmod 3 = 0 ∧ (n : Int) % 3 = 0) ∨ (((M : Int) == 1) = true ∧ (n : Int).tmod 3 = 1 ∧ (n : Int) % 3 = 1) := by
    rcases h1 with h1 | ⟨h1, h2⟩
    · exact .inl ⟨by rw [Int.tmod_eq_emod_of_nonneg (by omega)]; omega, by omega⟩
    · subst h1
      exact .inr ⟨by simp at hL; simp; omega, by rw [Int.tmod_eq_emod_of_nonneg (by omega)]; omega, by omega⟩
  clear h1 hb1 hx1 hdv hbin2 hbh hhalf hin' hH hML hc hm hL hd
  rcases h1' with ⟨er, er2⟩ | ⟨eM1, er, er2⟩
  all_goals
    go_enter Tryd.func34, Tryd.ntmps34
    go_upto_region 1 with fail
    try rw [hW1]
    try clear hW1
    go_wp2_with (go_at_call 35; (with_reducible refine (r_Var _ _).mono ?_); rintro e w2 ⟨rfl, hb2⟩; have hy1 := HX1.out.below hb2; obtain ⟨_, _, _, _⟩ := four_cells hy1; obtain ⟨_, _, _, _⟩ := four_frozen hy1; have hyl := hy1.lt; have HB2 := Lib.hid (HB1.out.trans (hb2.mono HB1.out.size)); clear hb2 hy1)
    refine bodyPost_ret (v := .agg #[.int .i64 1, .int .i64 (q : Int), .string ⟨#[]⟩, .slice none 0 0]) (by simp only [results, Tryd.results34]; go_simp <;> rfl) rfl ?_
    exact ⟨_, rfl, vr_isV _ _ _, below_set4t HB2.out (Nat.le_refl _)⟩

set_option maxRecDepth 100000 in
set_option maxHeartbeats 8000000 in
theorem mk_Int (n : Nat) (r : List Nat) (ih : ∀ l : List Nat, l.length ≤ r.length → MKB l) (h1 : ¬ (n % 3 = 0 ∨ (r = [] ∧ n % 3 = 1))) (h5 : n / 3 % 5 = 0) (h15 : n / 15 % 2 = 0) : MKB (n :: r) := by
  intro a cap v w h hc hm hv hv2
  obtain ⟨hn255, g, off, rfl, hg, hcell⟩ := h 0 n rfl
  rw [Nat.add_zero] at hcell
  obtain ⟨M, hM⟩ : ∃ M, (n :: r).length = M := ⟨_, rfl⟩
  obtain ⟨L, hL⟩ : ∃ L, r.length = L := ⟨_, rfl⟩
  have hML : M = L + 1 := by rw [← hM, ← hL]; simp
  unfold maxLen at hm
  rw [hM] at hc
  obtain ⟨W1, hW1⟩ : ∃ W1, w.alloc (.cells #[.int .i64 0, .int .i64 0, .string ⟨#[]⟩, .slice none 0 0] 47) = W1 := ⟨_, rfl⟩
  have hs1 : W1.heap.size = w.heap.size + 1 := by rw [← hW1]; simp
  have hb1 : Below w.heap.size w W1 := hW1 ▸ (Below.refl _ w).alloc (Nat.le_refl _) _
  have hx1 : Box W1 w.heap.size 47 [.int .i64 0, .int .i64 0, .string ⟨#[]⟩, .slice none 0 0] := hW1 ▸ Box.new w 47 [.int .i64 0, .int .i64 0, .string ⟨#[]⟩, .slice none 0 0]
  have HX1 : Hid (Box W1 w.heap.size 47 tZero) := hx1
  have HB1 := Lib.hid hb1
  obtain ⟨_, _, _, _⟩ := four_cells hx1
  obtain ⟨_, _, _, _⟩ := four_frozen hx1
  have hl := hx1.lt
  have hcell1 := (hb1.cell (p := ⟨g, off, none⟩) hg).trans hcell
  have hg1 : g < W1.heap.size := by omega
  have hby1 := h.under hb1
  obtain ⟨ain, hin, hbin⟩ := hby1.skip 1 (by simp) (by rw [hM]; exact hc)
  rw [hM, show M - 1 = L from by omega] at hin
  have hbin2 : BY W1 ain r := by simpa using hbin
  obtain ⟨ah, hhalf, hbh⟩ := hbin2.skip (L / 2) (by omega) (show r.length ≤ cap - 1 by omega)
  rw [hL] at hhalf
  obtain ⟨H, hH⟩ : ∃ H, L / 2 = H := ⟨_, rfl⟩
  rw [hH] at hhalf hbh
  have hin' : ∀ W, Sem.run Tryd.prog (Instr.slice 35 (.slice (some ⟨g, off, none⟩) M cap) (some (.int .i64 1)) none none) W = .ok (.slice ain L (cap - 1)) W := hin
  have eH : (L : Int).tdiv 2 = (H : Int) := by rw [Int.tdiv_eq_ediv_of_nonneg (by omega)]; omega
  have eH2 : (L : Int) / 2 = (H : Int) := by omega
  have ewH : IntKind.i64.wrap (H : Int) = (H : Int) := by rw [IntKind.wrap_i64]; omega
  have eM0 : ((M : Int) == 0) = false := by rw [Bool.eq_false_iff]; simp only [ne_eq, beq_iff_eq]; omega
  have T1 : ∀ W, Sem.run Tryd.prog (Instr.indexAt 35 (.slice (some ⟨g, off, none⟩) M cap) (.int .i64 0)) W = .ok (.pointer (some ⟨g, off, none⟩)) W := fun W => by go_simp
  have ev : decide ((0 : Int) < (v : Int)) = true := decide_eq_true (by omega)
  have ev2 : decide (0 < v) = true := decide_eq_true (by omega)
  have ewn : IntKind.i64.wrap (n : Int) = (n : Int) := by rw [IntKind.wrap_i64]; omega
  obtain ⟨d, hd⟩ : ∃ d, n / 3 = d := ⟨_, rfl⟩
  have ed : (n : Int).tdiv 3 = (d : Int) := by rw [Int.tdiv_eq_ediv_of_nonneg (by omega)]; omega
  have ed2 : (n : Int) / 3 = (d : Int) := by omega
  have ewd : IntKind.i64.wrap (d : Int) = (d : Int) := by rw [IntKind.wrap_i64]; omega
  have hdv : d % v < v := Nat.mod_lt _ (by omega)
  obtain ⟨q, hq⟩ : ∃ q, d % v = q := ⟨_, rfl⟩
  have eq1 : (d : Int).tmod (v : Int) = (q : Int) := by rw [Int.tmod_eq_emod_of_nonneg (by omega)]; omega
  have eq2 : (d : Int) % (v : Int) = (q : Int) := by omega
  have hvne : ¬ ((v : Int) = 0) := by omega
  have evz : ((v : Int) == 0) = false := by simpa using hvne
  have hv3 : ∃ (bb : Bool), ((M : Int) == 1) = bb ∧ ((bb = true ∧ (n : Int).tmod 3 = 2 ∧ (n : Int) % 3 = 2) ∨ (bb = false ∧ (n : Int).tmod 3 = 2 ∧ (n : Int) % 3 = 2) ∨ (bb = false ∧ (n : Int).tmod 3 = 1 ∧ (n : Int) % 3 = 1)) := by
    refine ⟨_, rfl, ?_⟩
    rw [Int.tmod_eq_emod_of_nonneg (by omega)]
    by_cases h2 : n % 3 = 2
    · cases hbb : ((M : Int) == 1)
      · exact .inr (.inl ⟨rfl, by omega, by omega⟩)
      · exact .inl ⟨rfl, by omega, by omega⟩
    · have h3 : n % 3 = 1 := by
        have : n % 3 < 3 := Nat.mod_lt _ (by omega)
        have : n % 3 ≠ 0 := fun e => h1 (.inl e)
        omega
      have hr : r ≠ [] := fun e => h1 (.inr ⟨e, h3⟩)
      have := List.length_pos_iff.2 hr
      refine .inr (.inr ⟨by rw [Bool.eq_false_iff]; simp only [ne_eq, beq_iff_eq]; omega, by omega, by omega⟩)
  have h1n : ¬ ((n % 3 = 0 ∧ 0 < v) ∨ (r = [] ∧ 0 < v ∧ n % 3 = 1)) := by
    rintro (h | h)
    · exact h1 (.inl h.1)
    · exact h1 (.inr ⟨h.1, h.2.2⟩)
  have em : (d : Int).tmod 5 = 0 := by rw [Int.tmod_eq_emod_of_nonneg (by omega)]; omega
  have em2 : (d : Int) % 5 = 0 := by omega
  rw [hM, makeT_cons, if_neg h1n, if_pos h5, if_pos h15]
  obtain ⟨d15, hd15⟩ : ∃ d, n / 15 = d := ⟨_, rfl⟩
  have ef : (n : Int).tdiv 15 = (d15 : Int) := by rw [Int.tdiv_eq_ediv_of_nonneg (by omega)]; omega
  have ef2 : (n : Int) / 15 = (d15 : Int) := by omega
  have ewf : IntKind.i64.wrap (d15 : Int) = (d15 : Int) := by rw [IntKind.wrap_i64]; omega
  have eg : (d15 : Int).tmod 2 = 0 := by rw [Int.tmod_eq_emod_of_nonneg (by omega)]; omega
  have eg2 : (d15 : Int) % 2 = 0 := by omega
  clear hcell h hin hbin hM hby1
  have HNUM : Hid (M = L + 1 ∧ M ≤ cap ∧ cap ≤ 9223372036854775807 ∧ L / 2 = H ∧ r.length = L) := ⟨hML, hc, by omega, hH, hL⟩
  clear hML hc hm hH hL hd h1 h1n hb1 hx1 hdv hq eq1 eq2 h5 h15 hbin2 hbh hd15
  obtain ⟨bb, eM1, hv3⟩ := hv3
  rcases hv3 with ⟨rfl, er, er2⟩ | ⟨rfl, er, er2⟩ | ⟨rfl, er, er2⟩
  all_goals
    go_enter Tryd.func34, Tryd.ntmps34
    go_upto_region 1 with fail
    try rw [hW1]
    try clear hW1
    go_wp2_with fail
    refine bodyPost_ret (v := .agg #[.int .i64 2, .int .i64 0, .string ⟨#[73, 110, 116]⟩, .slice none 0 0]) (by simp only [results, Tryd.results34]; go_simp <;> rfl) rfl ?_
    exact ⟨_, rfl, IsV.of_ty (s := nInt) (.e _ _ _), (below_set4t HB1.out (Nat.le_refl _)).alloc (by simp only [World.size_setCell]; omega) _⟩

set_option maxRecDepth 100000 in
set_option maxHeartbeats 8000000 in
theorem mk_Bool (n : Nat) (r : List Nat) (ih : ∀ l : List Nat, l.length ≤ r.length → MKB l) (h1 : ¬ (n % 3 = 0 ∨ (r = [] ∧ n % 3 = 1))) (h5 : n / 3 % 5 = 0) (h15 : n / 15 % 2 = 1) : MKB (n :: r) := by
  intro a cap v w h hc hm hv hv2
  obtain ⟨hn255, g, off, rfl, hg, hcell⟩ := h 0 n rfl
  rw [Nat.add_zero] at hcell
  obtain ⟨M, hM⟩ : ∃ M, (n :: r).length = M := ⟨_, rfl⟩
  obtain ⟨L, hL⟩ : ∃ L, r.length = L := ⟨_, rfl⟩
  have hML : M = L + 1 := by rw [← hM, ← hL]; simp
  unfold maxLen at hm
  rw [hM] at hc
  obtain ⟨W1, hW1⟩ : ∃ W1, w.alloc (.cells #[.int .i64 0, .int .i64 0, .string ⟨#[]⟩, .slice none 0 0] 47) = W1 := ⟨_, rfl⟩
  have hs1 : W1.heap.size = w.heap.size + 1 := by rw [← hW1]; simp
  have hb1 : Below w.heap.size w W1 := hW1 ▸ (Below.refl _ w).alloc (Nat.le_refl _) _
  have hx1 : Box W1 w.heap.size 47 [.int .i64 0, .int .i64 0, .string ⟨#[]⟩, .slice none 0 0] := hW1 ▸ Box.new w 47 [.int .i64 0, .int .i64 0, .string ⟨#[]⟩, .slice none 0 0]
  have HX1 : Hid (Box W1 w.heap.size 47 tZero) := hx1
  have HB1 := Lib.hid hb1
  obtain ⟨_, _, _, _⟩ := four_cells hx1
  obtain ⟨_, _, _, _⟩ := four_frozen hx1
  have hl := hx1.lt
  have hcell1 := (hb1.cell (p := ⟨g, off, none⟩) hg).trans hcell
  have hg1 : g < W1.heap.size := by omega
  have hby1 := h.under hb1
  obtain ⟨ain, hin, hbin⟩ := hby1.skip 1 (by simp) (by rw [hM]; exact hc)
  rw [hM, show M - 1 = L from by omega] at hin
  have hbin2 : BY W1 ain r := by simpa using hbin
  obtain ⟨ah, hhalf, hbh⟩ := hbin2.skip (L / 2) (by omega) (show r.length ≤ cap - 1 by omega)
  rw [hL] at hhalf
  obtain ⟨H, hH⟩ : ∃ H, L / 2 = H := ⟨_, rfl⟩
  rw [hH] at hhalf hbh
  have hin' : ∀ W, Sem.run Tryd.prog (Instr.slice 35 (.slice (some ⟨g, off, none⟩) M cap) (some (.int .i64 1)) none none) W = .ok (.slice ain L (cap - 1)) W := hin
  have eH : (L : Int).tdiv 2 = (H : Int) := by rw [Int.tdiv_eq_ediv_of_nonneg (by omega)]; omega
  have eH2 : (L : Int) / 2 = (H : Int) := by omega
  have ewH : IntKind.i64.wrap (H : Int) = (H : Int) := by rw [IntKind.wrap_i64]; omega
  have eM0 : ((M : Int) == 0) = false := by rw [Bool.eq_false_iff]; simp only [ne_eq, beq_iff_eq]; omega
  have T1 : ∀ W, Sem.run Tryd.prog (Instr.indexAt 35 (.slice (some ⟨g, off, none⟩) M cap) (.int .i64 0)) W = .ok (.pointer (some ⟨g, off, none⟩)) W := fun W => by go_simp
  have ev : decide ((0 : Int) < (v : Int)) = true := decide_eq_true (by omega)
  have ev2 : decide (0 < v) = true := decide_eq_true (by omega)
  have ewn : IntKind.i64.wrap (n : Int) = (n : Int) := by rw [IntKind.wrap_i64]; omega
  obtain ⟨d, hd⟩ : ∃ d, n / 3 = d := ⟨_, rfl⟩
  have ed : (n : Int).tdiv 3 = (d : Int) := by rw [Int.tdiv_eq_ediv_of_nonneg (by omega)]; omega
  have ed2 : (n : Int) / 3 = (d : Int) := by omega
  have ewd : IntKind.i64.wrap (d : Int) = (d : Int) := by rw [IntKind.wrap_i64]; omega
  have hdv : d % v < v := Nat.mod_lt _ (by omega)
  obtain ⟨q, hq⟩ : ∃ q, d % v = q := ⟨_, rfl⟩
  have eq1 : (d : Int).tmod (v : Int) = (q : Int) := by rw [Int.tmod_eq_emod_of_nonneg (by omega)]; omega
  have eq2 : (d : Int) % (v : Int) = (q : Int) := by omega
  have hvne : ¬ ((v : Int) = 0) := by omega
  have evz : ((v : Int) == 0) = false := by simpa using hvne
  have hv3 : ∃ (bb : Bool), ((M : Int) == 1) = bb ∧ ((bb = true ∧ (n : Int).tmod 3 = 2 ∧ (n : Int) % 3 = 2) ∨ (bb = false ∧ (n : Int).tmod 3 = 2 ∧ (n : Int) % 3 = 2) ∨ (bb = false ∧ (n : Int).tmod 3 = 1 ∧ (n : Int) % 3 = 1)) := by
    refine ⟨_, rfl, ?_⟩
    rw [Int.tmod_eq_emod_of_nonneg (by omega)]
    by_cases h2 : n % 3 = 2
    · cases hbb : ((M : Int) == 1)
      · exact .inr (.inl ⟨rfl, by omega, by omega⟩)
      · exact .inl ⟨rfl, by omega, by omega⟩
    · have h3 : n % 3 = 1 := by
        have : n % 3 < 3 := Nat.mod_lt _ (by omega)
        have : n % 3 ≠ 0 := fun e => h1 (.inl e)
        omega
      have hr : r ≠ [] := fun e => h1 (.inr ⟨e, h3⟩)
      have := List.length_pos_iff.2 hr
      refine .inr (.inr ⟨by rw [Bool.eq_false_iff]; simp only [ne_eq, beq_iff_eq]; omega, by omega, by omega⟩)
  have h1n : ¬ ((n % 3 = 0 ∧ 0 < v) ∨ (r = [] ∧ 0 < v ∧ n % 3 = 1)) := by
    rintro (h | h)
    · exact h1 (.inl h.1)
    · exact h1 (.inr ⟨h.1, h.2.2⟩)
  have em : (d : Int).tmod 5 = 0 := by rw [Int.tmod_eq_emod_of_nonneg (by omega)]; omega
  have em2 : (d : Int) % 5 = 0 := by omega
  rw [hM, makeT_cons, if_neg h1n, if_pos h5, if_neg (by omega)]
  obtain ⟨d15, hd15⟩ : ∃ d, n / 15 = d := ⟨_, rfl⟩
  have ef : (n : Int).tdiv 15 = (d15 : Int) := by rw [Int.tdiv_eq_ediv_of_nonneg (by omega)]; omega
  have ef2 : (n : Int) / 15 = (d15 : Int) := by omega
  have ewf : IntKind.i64.wrap (d15 : Int) = (d15 : Int) := by rw [IntKind.wrap_i64]; omega
  have eg : (d15 : Int).tmod 2 = 1 := by rw [Int.tmod_eq_emod_of_nonneg (by omega)]; omega
  have eg2 : (d15 : Int) % 2 = 1 := by omega
  clear hcell h hin hbin hM hby1
  have HNUM : Hid (M = L + 1 ∧ M ≤ cap ∧ cap ≤ 9223372036854775807 ∧ L / 2 = H ∧ r.length = L) := ⟨hML, hc, by omega, hH, hL⟩
  clear hML hc hm hH hL hd h1 h1n hb1 hx1 hdv hq eq1 eq2 h5 h15 hbin2 hbh hd15
  obtain ⟨bb, eM1, hv3⟩ := hv3
  rcases hv3 with ⟨rfl, er, er2⟩ | ⟨rfl, er, er2⟩ | ⟨rfl, er, er2⟩
  all_goals
    go_enter Tryd.func34, Tryd.ntmps34
    go_upto_region 1 with fail
    try rw [hW1]
    try clear hW1
    go_wp2_with fail
    refine bodyPost_ret (v := .agg #[.int .i64 2, .int .i64 0, .string ⟨#[66, 111, 111, 108]⟩, .slice none 0 0]) (by simp only [results, Tryd.results34]; go_simp <;> rfl) rfl ?_
    exact ⟨_, rfl, IsV.of_ty (s := nBool) (.e _ _ _), (below_set4t HB1.out (Nat.le_refl _)).alloc (by simp only [World.size_setCell]; omega) _⟩

set_option maxRecDepth 100000 in
set_option maxHeartbeats 8000000 in
theorem mk_ar1 (n : Nat) (r : List Nat) (ih : ∀ l : List Nat, l.length ≤ r.length → MKB l) (h1 : ¬ (n % 3 = 0 ∨ (r = [] ∧ n % 3 = 1))) (h5 : n / 3 % 5 = 1) : MKB (n :: r) := by
  intro a cap v w h hc hm hv hv2
  obtain ⟨hn255, g, off, rfl, hg, hcell⟩ := h 0 n rfl
  rw [Nat.add_zero] at hcell
  obtain ⟨M, hM⟩ : ∃ M, (n :: r).length = M := ⟨_, rfl⟩
  obtain ⟨L, hL⟩ : ∃ L, r.length = L := ⟨_, rfl⟩
  have hML : M = L + 1 := by rw [← hM, ← hL]; simp
  unfold maxLen at hm
  rw [hM] at hc
  obtain ⟨W1, hW1⟩ : ∃ W1, w.alloc (.cells #[.int .i64 0, .int .i64 0, .string ⟨#[]⟩, .slice none 0 0] 47) = W1 := ⟨_, rfl⟩
  have hs1 : W1.heap.size = w.heap.size + 1 := by rw [← hW1]; simp
  have hb1 : Below w.heap.size w W1 := hW1 ▸ (Below.refl _ w).alloc (Nat.le_refl _) _
  have hx1 : Box W1 w.heap.size 47 [.int .i64 0, .int .i64 0, .string ⟨#[]⟩, .slice none 0 0] := hW1 ▸ Box.new w 47 [.int .i64 0, .int .i64 0, .string ⟨#[]⟩, .slice none 0 0]
  have HX1 : Hid (Box W1 w.heap.size 47 tZero) := hx1
  have HB1 := Lib.hid hb1
  obtain ⟨_, _, _, _⟩ := four_cells hx1
  obtain ⟨_, _, _, _⟩ := four_frozen hx1
  have hl := hx1.lt
  have hcell1 := (hb1.cell (p := ⟨g, off, none⟩) hg).trans hcell
  have hg1 : g < W1.heap.size := by omega
  have hby1 := h.under hb1
  obtain ⟨ain, hin, hbin⟩ := hby1.skip 1 (by simp) (by rw [hM]; exact hc)
  rw [hM, show M - 1 = L from by omega] at hin
  have hbin2 : BY W1 ain r := by simpa using hbin
  obtain ⟨ah, hhalf, hbh⟩ := hbin2.skip (L / 2) (by omega) (show r.length ≤ cap - 1 by omega)
  rw [hL] at hhalf
  obtain ⟨H, hH⟩ : ∃ H, L / 2 = H := ⟨_, rfl⟩
  rw [hH] at hhalf hbh
  have hin' : ∀ W, Sem.run Tryd.prog (Instr.slice 35 (.slice (some ⟨g, off, none⟩) M cap) (some (.int .i64 1)) none none) W = .ok (.slice ain L (cap - 1)) W := hin
  have eH : (L : Int).tdiv 2 = (H : Int) := by rw [Int.tdiv_eq_ediv_of_nonneg (by omega)]; omega
  have eH2 : (L : Int) / 2 = (H : Int) := by omega
  have ewH : IntKind.i64.wrap (H : Int) = (H : Int) := by rw [IntKind.wrap_i64]; omega
  have eM0 : ((M : Int) == 0) = false := by rw [Bool.eq_false_iff]; simp only [ne_eq, beq_iff_eq]; omega
  have T1 : ∀ W, Sem.run Tryd.prog (Instr.indexAt 35 (.slice (some ⟨g, off, none⟩) M cap) (.int .i64 0)) W = .ok (.pointer (some ⟨g, off, none⟩)) W := fun W => by go_simp
  have ev : decide ((0 : Int) < (v : Int)) = true := decide_eq_true (by omega)
  have ev2 : decide (0 < v) = true := decide_eq_true (by omega)
  have ewn : IntKind.i64.wrap (n : Int) = (n : Int) := by rw [IntKind.wrap_i64]; omega
  obtain ⟨d, hd⟩ : ∃ d, n / 3 = d := ⟨_, rfl⟩
  have ed : (n : Int).tdiv 3 = (d : Int) := by rw [Int.tdiv_eq_ediv_of_nonneg (by omega)]; omega
  have ed2 : (n : Int) / 3 = (d : Int) := by omega
  have ewd : IntKind.i64.wrap (d : Int) = (d : Int) := by rw [IntKind.wrap_i64]; omega
  have hdv : d % v < v := Nat.mod_lt _ (by omega)
  obtain ⟨q, hq⟩ : ∃ q, d % v = q := ⟨_, rfl⟩
  have eq1 : (d : Int).tmod (v : Int) = (q : Int) := by rw [Int.tmod_eq_emod_of_nonneg (by omega)]; omega
  have eq2 : (d : Int) % (v : Int) = (q : Int) := by omega
  have hvne : ¬ ((v : Int) = 0) := by omega
  have evz : ((v : Int) == 0) = false := by simpa using hvne
  have hv3 : ∃ (bb : Bool), ((M : Int) == 1) = bb ∧ ((bb = true ∧ (n : Int).tmod 3 = 2 ∧ (n : Int) % 3 = 2) ∨ (bb = false ∧ (n : Int).tmod 3 = 2 ∧ (n : Int) % 3 = 2) ∨ (bb = false ∧ (n : Int).tmod 3 = 1 ∧ (n : Int) % 3 = 1)) := by
    refine ⟨_, rfl, ?_⟩
    rw [Int.tmod_eq_emod_of_nonneg (by omega)]
    by_cases h2 : n % 3 = 2
    · cases hbb : ((M : Int) == 1)
      · exact .inr (.inl ⟨rfl, by omega, by omega⟩)
      · exact .inl ⟨rfl, by omega, by omega⟩
    · have h3 : n % 3 = 1 := by
        have : n % 3 < 3 := Nat.mod_lt _ (by omega)
        have : n % 3 ≠ 0 := fun e => h1 (.inl e)
        omega
      have hr : r ≠ [] := fun e => h1 (.inr ⟨e, h3⟩)
      have := List.length_pos_iff.2 hr
      refine .inr (.inr ⟨by rw [Bool.eq_false_iff]; simp only [ne_eq, beq_iff_eq]; omega, by omega, by omega⟩)
  have h1n : ¬ ((n % 3 = 0 ∧ 0 < v) ∨ (r = [] ∧ 0 < v ∧ n % 3 = 1)) := by
    rintro (h | h)
    · exact h1 (.inl h.1)
    · exact h1 (.inr ⟨h.1, h.2.2⟩)
  have em : (d : Int).tmod 5 = 1 := by rw [Int.tmod_eq_emod_of_nonneg (by omega)]; omega
  have em2 : (d : Int) % 5 = 1 := by omega
  rw [hM, makeT_cons, if_neg h1n, if_neg (by omega), if_pos (by omega), hL, hH]
  have HIN : Hid (∀ W', Below W1.heap.size W1 W' → Calls Tryd.prog 34 #[.slice ain L (cap - 1), .int .i64 (v : Int)] W' fun e w' => ∃ u, e = .returned u ∧ IsV (New W') w' (tyC (makeT r v)) u ∧ Below W'.heap.size W' w') := by
    show ∀ W', _
    intro W' hW'
    have := ih (r) (by simp) ain (cap - 1) v W' (hbin2.under hW') (by omega) (by unfold maxLen; omega) hv hv2
    rwa [hL] at this
  have HHA : Hid (∀ W', Below W1.heap.size W1 W' → Calls Tryd.prog 34 #[.slice ah (L - H) (cap - 1 - H), .int .i64 (v : Int)] W' fun e w' => ∃ u, e = .returned u ∧ IsV (New W') w' (tyC (makeT (r.drop H) v)) u ∧ Below W'.heap.size W' w') := by
    show ∀ W', _
    intro W' hW'
    have := ih ((r.drop H)) (by simp) ah (cap - 1 - H) v W' (hbh.under hW') (by rw [List.length_drop]; omega) (by unfold maxLen; omega) hv hv2
    rwa [List.length_drop, hL] at this
  clear hcell h hin hbin hM hby1
  obtain ⟨X, hX⟩ : ∃ X, makeT r v = X := ⟨_, rfl⟩
  obtain ⟨Y, hY⟩ : ∃ Y, makeT (r.drop H) v = Y := ⟨_, rfl⟩
  rw [hX] at HIN ⊢
  rw [hY] at HHA ⊢
  clear hX hY ih
  have HNUM : Hid (M = L + 1 ∧ M ≤ cap ∧ cap ≤ 9223372036854775807 ∧ L / 2 = H ∧ r.length = L) := ⟨hML, hc, by omega, hH, hL⟩
  clear hML hc hm hH hL hd h1 h1n hb1 hx1 hdv hq eq1 eq2 h5 hbin2 hbh
  obtain ⟨bb, eM1, hv3⟩ := hv3
  rcases hv3 with ⟨rfl, er, er2⟩ | ⟨rfl, er, er2⟩ | ⟨rfl, er, er2⟩
  all_goals
    go_enter Tryd.func34, Tryd.ntmps34
    go_upto_region 1 with fail
    try rw [hW1]
    try clear hW1
    go_wp2_with (first
      | (go_at_call 34; (with_reducible refine (HIN.out _ (Below.refl W1.heap.size W1)).mono ?_); rintro e wa ⟨ua, rfl, hva, hba⟩; have HVa := Lib.hid hva; obtain ⟨ka, na, sa, aa, ma, ca, rfl⟩ := hva.tys; have hy1 := HX1.out.below hba; obtain ⟨_, _, _, _⟩ := four_cells hy1; obtain ⟨_, _, _, _⟩ := four_frozen hy1; have hyl := hy1.lt; have HYa := Lib.hid hy1; have HRa := Lib.hid hba; have HBa : Hid (Below W1.heap.size W1 wa) := (Below.refl W1.heap.size W1).trans (hba.mono (Below.refl W1.heap.size W1).size); have hsza := HBa.out.size; clear hba hva hy1)
      | (go_at_call 34; (with_reducible refine (HHA.out _ HBa.out).mono ?_); rintro e wb ⟨ub, rfl, hvb, hbb⟩; have HVb := Lib.hid hvb; obtain ⟨kb, nb, sb, ab, mb, cb, rfl⟩ := hvb.tys; have hy1 := HYa.out.below hbb; obtain ⟨_, _, _, _⟩ := four_cells hy1; obtain ⟨_, _, _, _⟩ := four_frozen hy1; have hyl := hy1.lt; have HYb := Lib.hid hy1; have HRb := Lib.hid hbb; have HBb : Hid (Below W1.heap.size W1 wb) := HBa.out.trans (hbb.mono HBa.out.size); have hszb := HBb.out.size; clear hbb hvb hy1))
    refine bodyPost_ret (v := .agg #[.int .i64 2, .int .i64 0, .string ⟨#[45, 62]⟩, .slice (some ⟨wb.heap.size, 0, none⟩) 2 2]) (by simp only [results, Tryd.results34]; go_simp <;> rfl) rfl ?_
    have hva : IsV (New W1) wb (tyC _) _ := (HVa.out.under HRb.out).mono (fun q _ h => h)
    have hvb : IsV (New W1) wb (tyC _) _ := HVb.out.mono (fun q _ h => by have : wa.heap.size ≤ q := h; show W1.heap.size ≤ q; omega)
    have hnw : ¬ New W1 w.heap.size := by show ¬ (W1.heap.size ≤ w.heap.size); omega
    have hmo : ∀ q, New W1 q → New w q := fun q h => by have : W1.heap.size ≤ q := h; show w.heap.size ≤ q; omega
    exact ⟨_, rfl, (IsV.of_ty (n := 0) (s := tArrow) (two_set hva hvb hnw (by show W1.heap.size ≤ wb.heap.size; omega) _ _ _ _)).mono (fun q _ => hmo q), (below_set4t (HB1.out.trans (HBb.out.mono (by omega))) (Nat.le_refl _)).alloc (by simp only [World.size_setCell]; omega) _⟩

set_option maxRecDepth 100000 in
set_option maxHeartbeats 8000000 in
theorem mk_ar2 (n : Nat) (r : List Nat) (ih : ∀ l : List Nat, l.length ≤ r.length → MKB l) (h1 : ¬ (n % 3 = 0 ∨ (r = [] ∧ n % 3 = 1))) (h5 : n / 3 % 5 = 2) : MKB (n :: r) := by
  intro a cap v w h hc hm hv hv2
  obtain ⟨hn255, g, off, rfl, hg, hcell⟩ := h 0 n rfl
  rw [Nat.add_zero] at hcell
  obtain ⟨M, hM⟩ : ∃ M, (n :: r).length = M := ⟨_, rfl⟩
  obtain ⟨L, hL⟩ : ∃ L, r.length = L := ⟨_, rfl⟩
  have hML : M = L + 1 := by rw [← hM, ← hL]; simp
  unfold maxLen at hm
  rw [hM] at hc
  obtain ⟨W1, hW1⟩ : ∃ W1, w.alloc (.cells #[.int .i64 0, .int .i64 0, .string ⟨#[]⟩, .slice none 0 0] 47) = W1 := ⟨_, rfl⟩
  have hs1 : W1.heap.size = w.heap.size + 1 := by rw [← hW1]; simp
  have hb1 : Below w.heap.size w W1 := hW1 ▸ (Below.refl _ w).alloc (Nat.le_refl _) _
  have hx1 : Box W1 w.heap.size 47 [.int .i64 0, .int .i64 0, .string ⟨#[]⟩, .slice none 0 0] := hW1 ▸ Box.new w 47 [.int .i64 0, .int .i64 0, .string ⟨#[]⟩, .slice none 0 0]
  have HX1 : Hid (Box W1 w.heap.size 47 tZero) := hx1
  have HB1 := Lib.hid hb1
  obtain ⟨_, _, _, _⟩ := four_cells hx1
  obtain ⟨_, _, _, _⟩ := four_frozen hx1
  have hl := hx1.lt
  have hcell1 := (hb1.cell (p := ⟨g, off, none⟩) hg).trans hcell
  have hg1 : g < W1.heap.size := by omega
  have hby1 := h.under hb1
  obtain ⟨ain, hin, hbin⟩ := hby1.skip 1 (by simp) (by rw [hM]; exact hc)
  rw [hM, show M - 1 = L from by omega] at hin
  have hbin2 : BY W1 ain r := by simpa using hbin
  obtain ⟨ah, hhalf, hbh⟩ := hbin2.skip (L / 2) (by omega) (show r.length ≤ cap - 1 by omega)
  rw [hL] at hhalf
  obtain ⟨H, hH⟩ : ∃ H, L / 2 = H := ⟨_, rfl⟩
  rw [hH] at hhalf hbh
  have hin' : ∀ W, Sem.run Tryd.prog (Instr.slice 35 (.slice (some ⟨g, off, none⟩) M cap) (some (.int .i64 1)) none none) W = .ok (.slice ain L (cap - 1)) W := hin
  have eH : (L : Int).tdiv 2 = (H : Int) := by rw [Int.tdiv_eq_ediv_of_nonneg (by omega)]; omega
  have eH2 : (L : Int) / 2 = (H : Int) := by omega
  have ewH : IntKind.i64.wrap (H : Int) = (H : Int) := by rw [IntKind.wrap_i64]; omega
  have eM0 : ((M : Int) == 0) = false := by rw [Bool.eq_false_iff]; simp only [ne_eq, beq_iff_eq]; omega
  have T1 : ∀ W, Sem.run Tryd.prog (Instr.indexAt 35 (.slice (some ⟨g, off, none⟩) M cap) (.int .i64 0)) W = .ok (.pointer (some ⟨g, off, none⟩)) W := fun W => by go_simp
  have ev : decide ((0 : Int) < (v : Int)) = true := decide_eq_true (by omega)
  have ev2 : decide (0 < v) = true := decide_eq_true (by omega)
  have ewn : IntKind.i64.wrap (n : Int) = (n : Int) := by rw [IntKind.wrap_i64]; omega
  obtain ⟨d, hd⟩ : ∃ d, n / 3 = d := ⟨_, rfl⟩
  have ed : (n : Int).tdiv 3 = (d : Int) := by rw [Int.tdiv_eq_ediv_of_nonneg (by omega)]; omega
  have ed2 : (n : Int) / 3 = (d : Int) := by omega
  have ewd : IntKind.i64.wrap (d : Int) = (d : Int) := by rw [IntKind.wrap_i64]; omega
  have hdv : d % v < v := Nat.mod_lt _ (by omega)
  obtain ⟨q, hq⟩ : ∃ q, d % v = q := ⟨_, rfl⟩
  have eq1 : (d : Int).tmod (v : Int) = (q : Int) := by rw [Int.tmod_eq_emod_of_nonneg (by omega)]; omega
  have eq2 : (d : Int) % (v : Int) = (q : Int) := by omega
  have hvne : ¬ ((v : Int) = 0) := by omega
  have evz : ((v : Int) == 0) = false := by simpa using hvne
  have hv3 : ∃ (bb : Bool), ((M : Int) == 1) = bb ∧ ((bb = true ∧ (n : Int).tmod 3 = 2 ∧ (n : Int) % 3 = 2) ∨ (bb = false ∧ (n : Int).tmod 3 = 2 ∧ (n : Int) % 3 = 2) ∨ (bb = false ∧ (n : Int).tmod 3 = 1 ∧ (n : Int) % 3 = 1)) := by
    refine ⟨_, rfl, ?_⟩
    rw [Int.tmod_eq_emod_of_nonneg (by omega)]
    by_cases h2 : n % 3 = 2
    · cases hbb : ((M : Int) == 1)
      · exact .inr (.inl ⟨rfl, by omega, by omega⟩)
      · exact .inl ⟨rfl, by omega, by omega⟩
    · have h3 : n % 3 = 1 := by
        have : n % 3 < 3 := Nat.mod_lt _ (by omega)
        have : n % 3 ≠ 0 := fun e => h1 (.inl e)
        omega
      have hr : r ≠ [] := fun e => h1 (.inr ⟨e, h3⟩)
      have := List.length_pos_iff.2 hr
      refine .inr (.inr ⟨by rw [Bool.eq_false_iff]; simp only [ne_eq, beq_iff_eq]; omega, by omega, by omega⟩)
  have h1n : ¬ ((n % 3 = 0 ∧ 0 < v) ∨ (r = [] ∧ 0 < v ∧ n % 3 = 1)) := by
    rintro (h | h)
    · exact h1 (.inl h.1)
    · exact h1 (.inr ⟨h.1, h.2.2⟩)
  have em : (d : Int).tmod 5 = 2 := by rw [Int.tmod_eq_emod_of_nonneg (by omega)]; omega
  have em2 : (d : Int) % 5 = 2 := by omega
  rw [hM, makeT_cons, if_neg h1n, if_neg (by omega), if_pos (by omega), hL, hH]
  have HIN : Hid (∀ W', Below W1.heap.size W1 W' → Calls Tryd.prog 34 #[.slice ain L (cap - 1), .int .i64 (v : Int)] W' fun e w' => ∃ u, e = .returned u ∧ IsV (New W') w' (tyC (makeT r v)) u ∧ Below W'.heap.size W' w') := by
    show ∀ W', _
    intro W' hW'
    have := ih (r) (by simp) ain (cap - 1) v W' (hbin2.under hW') (by omega) (by unfold maxLen; omega) hv hv2
    rwa [hL] at this
  have HHA : Hid (∀ W', Below W1.heap.size W1 W' → Calls Tryd.prog 34 #[.slice ah (L - H) (cap - 1 - H), .int .i64 (v : Int)] W' fun e w' => ∃ u, e = .returned u ∧ IsV (New W') w' (tyC (makeT (r.drop H) v)) u ∧ Below W'.heap.size W' w') := by
    show ∀ W', _
    intro W' hW'
    have := ih ((r.drop H)) (by simp) ah (cap - 1 - H) v W' (hbh.under hW') (by rw [List.length_drop]; omega) (by unfold maxLen; omega) hv hv2
    rwa [List.length_drop, hL] at this
  clear hcell h hin hbin hM hby1
  obtain ⟨X, hX⟩ : ∃ X, makeT r v = X := ⟨_, rfl⟩
  obtain ⟨Y, hY⟩ : ∃ Y, makeT (r.drop H) v = Y := ⟨_, rfl⟩
  rw [hX] at HIN ⊢
  rw [hY] at HHA ⊢
  clear hX hY ih
  have HNUM : Hid (M = L + 1 ∧ M ≤ cap ∧ cap ≤ 9223372036854775807 ∧ L / 2 = H ∧ r.length = L) := ⟨hML, hc, by omega, hH, hL⟩
  clear hML hc hm hH hL hd h1 h1n hb1 hx1 hdv hq eq1 eq2 h5 hbin2 hbh
  obtain ⟨bb, eM1, hv3⟩ := hv3
  rcases hv3 with ⟨rfl, er, er2⟩ | ⟨rfl, er, er2⟩ | ⟨rfl, er, er2⟩
  all_goals
    go_enter Tryd.func34, Tryd.ntmps34
    go_upto_region 1 with fail
    try rw [hW1]
    try clear hW1
    go_wp2_with (first
      | (go_at_call 34; (with_reducible refine (HIN.out _ (Below.refl W1.heap.size W1)).mono ?_); rintro e wa ⟨ua, rfl, hva, hba⟩; have HVa := Lib.hid hva; obtain ⟨ka, na, sa, aa, ma, ca, rfl⟩ := hva.tys; have hy1 := HX1.out.below hba; obtain ⟨_, _, _, _⟩ := four_cells hy1; obtain ⟨_, _, _, _⟩ := four_frozen hy1; have hyl := hy1.lt; have HYa := Lib.hid hy1; have HRa := Lib.hid hba; have HBa : Hid (Below W1.heap.size W1 wa) := (Below.refl W1.heap.size W1).trans (hba.mono (Below.refl W1.heap.size W1).size); have hsza := HBa.out.size; clear hba hva hy1)
      | (go_at_call 34; (with_reducible refine (HHA.out _ HBa.out).mono ?_); rintro e wb ⟨ub, rfl, hvb, hbb⟩; have HVb := Lib.hid hvb; obtain ⟨kb, nb, sb, ab, mb, cb, rfl⟩ := hvb.tys; have hy1 := HYa.out.below hbb; obtain ⟨_, _, _, _⟩ := four_cells hy1; obtain ⟨_, _, _, _⟩ := four_frozen hy1; have hyl := hy1.lt; have HYb := Lib.hid hy1; have HRb := Lib.hid hbb; have HBb : Hid (Below W1.heap.size W1 wb) := HBa.out.trans (hbb.mono HBa.out.size); have hszb := HBb.out.size; clear hbb hvb hy1))
    refine bodyPost_ret (v := .agg #[.int .i64 2, .int .i64 0, .string ⟨#[45, 62]⟩, .slice (some ⟨wb.heap.size, 0, none⟩) 2 2]) (by simp only [results, Tryd.results34]; go_simp <;> rfl) rfl ?_
    have hva : IsV (New W1) wb (tyC _) _ := (HVa.out.under HRb.out).mono (fun q _ h => h)
    have hvb : IsV (New W1) wb (tyC _) _ := HVb.out.mono (fun q _ h => by have : wa.heap.size ≤ q := h; show W1.heap.size ≤ q; omega)
    have hnw : ¬ New W1 w.heap.size := by show ¬ (W1.heap.size ≤ w.heap.size); omega
    have hmo : ∀ q, New W1 q → New w q := fun q h => by have : W1.heap.size ≤ q := h; show w.heap.size ≤ q; omega
    exact ⟨_, rfl, (IsV.of_ty (n := 0) (s := tArrow) (two_set hva hvb hnw (by show W1.heap.size ≤ wb.heap.size; omega) _ _ _ _)).mono (fun q _ => hmo q), (below_set4t (HB1.out.trans (HBb.out.mono (by omega))) (Nat.le_refl _)).alloc (by simp only [World.size_setCell]; omega) _⟩

set_option maxRecDepth 100000 in
set_option maxHeartbeats 8000000 in
theorem mk_pa (n : Nat) (r : List Nat) (ih : ∀ l : List Nat, l.length ≤ r.length → MKB l) (h1 : ¬ (n % 3 = 0 ∨ (r = [] ∧ n % 3 = 1))) (h5 : n / 3 % 5 = 3) : MKB (n :: r) := by
  intro a cap v w h hc hm hv hv2
  obtain ⟨hn255, g, off, rfl, hg, hcell⟩ := h 0 n rfl
  rw [Nat.add_zero] at hcell
  obtain ⟨M, hM⟩ : ∃ M, (n :: r).length = M := ⟨_, rfl⟩
  obtain ⟨L, hL⟩ : ∃ L, r.length = L := ⟨_, rfl⟩
  have hML : M = L + 1 := by rw [← hM, ← hL]; simp
  unfold maxLen at hm
  rw [hM] at hc
  obtain ⟨W1, hW1⟩ : ∃ W1, w.alloc (.cells #[.int .i64 0, .int .i64 0, .string ⟨#[]⟩, .slice none 0 0] 47) = W1 := ⟨_, rfl⟩
  have hs1 : W1.heap.size = w.heap.size + 1 := by rw [← hW1]; simp
  have hb1 : Below w.heap.size w W1 := hW1 ▸ (Below.refl _ w).alloc (Nat.le_refl _) _
  have hx1 : Box W1 w.heap.size 47 [.int .i64 0, .int .i64 0, .string ⟨#[]⟩, .slice none 0 0] := hW1 ▸ Box.new w 47 [.int .i64 0, .int .i64 0, .string ⟨#[]⟩, .slice none 0 0]
  have HX1 : Hid (Box W1 w.heap.size 47 tZero) := hx1
  have HB1 := Lib.hid hb1
  obtain ⟨_, _, _, _⟩ := four_cells hx1
  obtain ⟨_, _, _, _⟩ := four_frozen hx1
  have hl := hx1.lt
  have hcell1 := (hb1.cell (p := ⟨g, off, none⟩) hg).trans hcell
  have hg1 : g < W1.heap.size := by omega
  have hby1 := h.under hb1
  obtain ⟨ain, hin, hbin⟩ := hby1.skip 1 (by simp) (by rw [hM]; exact hc)
  rw [hM, show M - 1 = L from by omega] at hin
  have hbin2 : BY W1 ain r := by simpa using hbin
  obtain ⟨ah, hhalf, hbh⟩ := hbin2.skip (L / 2) (by omega) (show r.length ≤ cap - 1 by omega)
  rw [hL] at hhalf
  obtain ⟨H, hH⟩ : ∃ H, L / 2 = H := ⟨_, rfl⟩
  rw [hH] at hhalf hbh
  have hin' : ∀ W, Sem.run Tryd.prog (Instr.slice 35 (.slice (some ⟨g, off, none⟩) M cap) (some (.int .i64 1)) none none) W = .ok (.slice ain L (cap - 1)) W := hin
  have eH : (L : Int).tdiv 2 = (H : Int) := by rw [Int.tdiv_eq_ediv_of_nonneg (by omega)]; omega
  have eH2 : (L : Int) / 2 = (H : Int) := by omega
  have ewH : IntKind.i64.wrap (H : Int) = (H : Int) := by rw [IntKind.wrap_i64]; omega
  have eM0 : ((M : Int) == 0) = false := by rw [Bool.eq_false_iff]; simp only [ne_eq, beq_iff_eq]; omega
  have T1 : ∀ W, Sem.run Tryd.prog (Instr.indexAt 35 (.slice (some ⟨g, off, none⟩) M cap) (.int .i64 0)) W = .ok (.pointer (some ⟨g, off, none⟩)) W := fun W => by go_simp
  have ev : decide ((0 : Int) < (v : Int)) = true := decide_eq_true (by omega)
  have ev2 : decide (0 < v) = true := decide_eq_true (by omega)
  have ewn : IntKind.i64.wrap (n : Int) = (n : Int) := by rw [IntKind.wrap_i64]; omega
  obtain ⟨d, hd⟩ : ∃ d, n / 3 = d := ⟨_, rfl⟩
  have ed : (n : Int).tdiv 3 = (d : Int) := by rw [Int.tdiv_eq_ediv_of_nonneg (by omega)]; omega
  have ed2 : (n : Int) / 3 = (d : Int) := by omega
  have ewd : IntKind.i64.wrap (d : Int) = (d : Int) := by rw [IntKind.wrap_i64]; omega
  have hdv : d % v < v := Nat.mod_lt _ (by omega)
  obtain ⟨q, hq⟩ : ∃ q, d % v = q := ⟨_, rfl⟩
  have eq1 : (d : Int).tmod (v : Int) = (q : Int) := by rw [Int.tmod_eq_emod_of_nonneg (by omega)]; omega
  have eq2 : (d : Int) % (v : Int) = (q : Int) := by omega
  have hvne : ¬ ((v : Int) = 0) := by omega
  have evz : ((v : Int) == 0) = false := by simpa using hvne
  have hv3 : ∃ (bb : Bool), ((M : Int) == 1) = bb ∧ ((bb = true ∧ (n : Int).tmod 3 = 2 ∧ (n : Int) % 3 = 2) ∨ (bb = false ∧ (n : Int).tmod 3 = 2 ∧ (n : Int) % 3 = 2) ∨ (bb = false ∧ (n : Int).tmod 3 = 1 ∧ (n : Int) % 3 = 1)) := by
    refine ⟨_, rfl, ?_⟩
    rw [Int.tmod_eq_emod_of_nonneg (by omega)]
    by_cases h2 : n % 3 = 2
    · cases hbb : ((M : Int) == 1)
      · exact .inr (.inl ⟨rfl, by omega, by omega⟩)
      · exact .inl ⟨rfl, by omega, by omega⟩
    · have h3 : n % 3 = 1 := by
        have : n % 3 < 3 := Nat.mod_lt _ (by omega)
        have : n % 3 ≠ 0 := fun e => h1 (.inl e)
        omega
      have hr : r ≠ [] := fun e => h1 (.inr ⟨e, h3⟩)
      have := List.length_pos_iff.2 hr
      refine .inr (.inr ⟨by rw [Bool.eq_false_iff]; simp only [ne_eq, beq_iff_eq]; omega, by omega, by omega⟩)
  have h1n : ¬ ((n % 3 = 0 ∧ 0 < v) ∨ (r = [] ∧ 0 < v ∧ n % 3 = 1)) := by
    rintro (h | h)
    · exact h1 (.inl h.1)
    · exact h1 (.inr ⟨h.1, h.2.2⟩)
  have em : (d : Int).tmod 5 = 3 := by rw [Int.tmod_eq_emod_of_nonneg (by omega)]; omega
  have em2 : (d : Int) % 5 = 3 := by omega
  rw [hM, makeT_cons, if_neg h1n, if_neg (by omega), if_neg (by omega), if_pos (by omega), hL, hH]
  have HIN : Hid (∀ W', Below W1.heap.size W1 W' → Calls Tryd.prog 34 #[.slice ain L (cap - 1), .int .i64 (v : Int)] W' fun e w' => ∃ u, e = .returned u ∧ IsV (New W') w' (tyC (makeT r v)) u ∧ Below W'.heap.size W' w') := by
    show ∀ W', _
    intro W' hW'
    have := ih (r) (by simp) ain (cap - 1) v W' (hbin2.under hW') (by omega) (by unfold maxLen; omega) hv hv2
    rwa [hL] at this
  have HHA : Hid (∀ W', Below W1.heap.size W1 W' → Calls Tryd.prog 34 #[.slice ah (L - H) (cap - 1 - H), .int .i64 (v : Int)] W' fun e w' => ∃ u, e = .returned u ∧ IsV (New W') w' (tyC (makeT (r.drop H) v)) u ∧ Below W'.heap.size W' w') := by
    show ∀ W', _
    intro W' hW'
    have := ih ((r.drop H)) (by simp) ah (cap - 1 - H) v W' (hbh.under hW') (by rw [List.length_drop]; omega) (by unfold maxLen; omega) hv hv2
    rwa [List.length_drop, hL] at this
  clear hcell h hin hbin hM hby1
  obtain ⟨X, hX⟩ : ∃ X, makeT r v = X := ⟨_, rfl⟩
  obtain ⟨Y, hY⟩ : ∃ Y, makeT (r.drop H) v = Y := ⟨_, rfl⟩
  rw [hX] at HIN ⊢
  rw [hY] at HHA ⊢
  clear hX hY ih
  have HNUM : Hid (M = L + 1 ∧ M ≤ cap ∧ cap ≤ 9223372036854775807 ∧ L / 2 = H ∧ r.length = L) := ⟨hML, hc, by omega, hH, hL⟩
  clear hML hc hm hH hL hd h1 h1n hb1 hx1 hdv hq eq1 eq2 h5 hbin2 hbh
  obtain ⟨bb, eM1, hv3⟩ := hv3
  rcases hv3 with ⟨rfl, er, er2⟩ | ⟨rfl, er, er2⟩ | ⟨rfl, er, er2⟩
  all_goals
    go_enter Tryd.func34, Tryd.ntmps34
    go_upto_region 1 with fail
    try rw [hW1]
    try clear hW1
    go_wp2_with (first
      | (go_at_call 34; (with_reducible refine (HHA.out _ (Below.refl W1.heap.size W1)).mono ?_); rintro e wa ⟨ua, rfl, hva, hba⟩; have HVa := Lib.hid hva; obtain ⟨ka, na, sa, aa, ma, ca, rfl⟩ := hva.tys; have hy1 := HX1.out.below hba; obtain ⟨_, _, _, _⟩ := four_cells hy1; obtain ⟨_, _, _, _⟩ := four_frozen hy1; have hyl := hy1.lt; have HYa := Lib.hid hy1; have HRa := Lib.hid hba; have HBa : Hid (Below W1.heap.size W1 wa) := (Below.refl W1.heap.size W1).trans (hba.mono (Below.refl W1.heap.size W1).size); have hsza := HBa.out.size; clear hba hva hy1)
      | (go_at_call 34; (with_reducible refine (HIN.out _ HBa.out).mono ?_); rintro e wb ⟨ub, rfl, hvb, hbb⟩; have HVb := Lib.hid hvb; obtain ⟨kb, nb, sb, ab, mb, cb, rfl⟩ := hvb.tys; have hy1 := HYa.out.below hbb; obtain ⟨_, _, _, _⟩ := four_cells hy1; obtain ⟨_, _, _, _⟩ := four_frozen hy1; have hyl := hy1.lt; have HYb := Lib.hid hy1; have HRb := Lib.hid hbb; have HBb : Hid (Below W1.heap.size W1 wb) := HBa.out.trans (hbb.mono HBa.out.size); have hszb := HBb.out.size; clear hbb hvb hy1))
    refine bodyPost_ret (v := .agg #[.int .i64 2, .int .i64 0, .string ⟨#[44]⟩, .slice (some ⟨wb.heap.size, 0, none⟩) 2 2]) (by simp only [results, Tryd.results34]; go_simp <;> rfl) rfl ?_
    have hva : IsV (New W1) wb (tyC _) _ := (HVa.out.under HRb.out).mono (fun q _ h => h)
    have hvb : IsV (New W1) wb (tyC _) _ := HVb.out.mono (fun q _ h => by have : wa.heap.size ≤ q := h; show W1.heap.size ≤ q; omega)
    have hnw : ¬ New W1 w.heap.size := by show ¬ (W1.heap.size ≤ w.heap.size); omega
    have hmo : ∀ q, New W1 q → New w q := fun q h => by have : W1.heap.size ≤ q := h; show w.heap.size ≤ q; omega
    exact ⟨_, rfl, (IsV.of_ty (n := 0) (s := tComma) (two_set hva hvb hnw (by show W1.heap.size ≤ wb.heap.size; omega) _ _ _ _)).mono (fun q _ => hmo q), (below_set4t (HB1.out.trans (HBb.out.mono (by omega))) (Nat.le_refl _)).alloc (by simp only [World.size_setCell]; omega) _⟩

set_option maxRecDepth 100000 in
set_option maxHeartbeats 8000000 in
theorem mk_li (n : Nat) (r : List Nat) (ih : ∀ l : List Nat, l.length ≤ r.length → MKB l) (h1 : ¬ (n % 3 = 0 ∨ (r = [] ∧ n % 3 = 1))) (h5 : n / 3 % 5 = 4) : MKB (n :: r) := by
  intro a cap v w h hc hm hv hv2
  obtain ⟨hn255, g, off, rfl, hg, hcell⟩ := h 0 n rfl
  rw [Nat.add_zero] at hcell
  obtain ⟨M, hM⟩ : ∃ M, (n :: r).length = M := ⟨_, rfl⟩
  obtain ⟨L, hL⟩ : ∃ L, r.length = L := ⟨_, rfl⟩
  have hML : M = L + 1 := by rw [← hM, ← hL]; simp
  unfold maxLen at hm
  rw [hM] at hc
  obtain ⟨W1, hW1⟩ : ∃ W1, w.alloc (.cells #[.int .i64 0, .int .i64 0, .string ⟨#[]⟩, .slice none 0 0] 47) = W1 := ⟨_, rfl⟩
  have hs1 : W1.heap.size = w.heap.size + 1 := by rw [← hW1]; simp
  have hb1 : Below w.heap.size w W1 := hW1 ▸ (Below.refl _ w).alloc (Nat.le_refl _) _
  have hx1 : Box W1 w.heap.size 47 [.int .i64 0, .int .i64 0, .string ⟨#[]⟩, .slice none 0 0] := hW1 ▸ Box.new w 47 [.int .i64 0, .int .i64 0, .string ⟨#[]⟩, .slice none 0 0]
  have HX1 : Hid (Box W1 w.heap.size 47 tZero) := hx1
  have HB1 := Lib.hid hb1
  obtain ⟨_, _, _, _⟩ := four_cells hx1
  obtain ⟨_, _, _, _⟩ := four_frozen hx1
  have hl := hx1.lt
  have hcell1 := (hb1.cell (p := ⟨g, off, none⟩) hg).trans hcell
  have hg1 : g < W1.heap.size := by omega
  have hby1 := h.under hb1
  obtain ⟨ain, hin, hbin⟩ := hby1.skip 1 (by simp) (by rw [hM]; exact hc)
  rw [hM, show M - 1 = L from by omega] at hin
  have hbin2 : BY W1 ain r := by simpa using hbin
  obtain ⟨ah, hhalf, hbh⟩ := hbin2.skip (L / 2) (by omega) (show r.length ≤ cap - 1 by omega)
  rw [hL] at hhalf
  obtain ⟨H, hH⟩ : ∃ H, L / 2 = H := ⟨_, rfl⟩
  rw [hH] at hhalf hbh
  have hin' : ∀ W, Sem.run Tryd.prog (Instr.slice 35 (.slice (some ⟨g, off, none⟩) M cap) (some (.int .i64 1)) none none) W = .ok (.slice ain L (cap - 1)) W := hin
  have eH : (L : Int).tdiv 2 = (H : Int) := by rw [Int.tdiv_eq_ediv_of_nonneg (by omega)]; omega
  have eH2 : (L : Int) / 2 = (H : Int) := by omega
  have ewH : IntKind.i64.wrap (H : Int) = (H : Int) := by rw [IntKind.wrap_i64]; omega
  have eM0 : ((M : Int) == 0) = false := by rw [Bool.eq_false_iff]; simp only [ne_eq, beq_iff_eq]; omega
  have T1 : ∀ W, Sem.run Tryd.prog (Instr.indexAt 35 (.slice (some ⟨g, off, none⟩) M cap) (.int .i64 0)) W = .ok (.pointer (some ⟨g, off, none⟩)) W := fun W => by go_simp
  have ev : decide ((0 : Int) < (v : Int)) = true := decide_eq_true (by omega)
  have ev2 : decide (0 < v) = true := decide_eq_true (by omega)
  have ewn : IntKind.i64.wrap (n : Int) = (n : Int) := by rw [IntKind.wrap_i64]; omega
  obtain ⟨d, hd⟩ : ∃ d, n / 3 = d := ⟨_, rfl⟩
  have ed : (n : Int).tdiv 3 = (d : Int) := by rw [Int.tdiv_eq_ediv_of_nonneg (by omega)]; omega
  have ed2 : (n : Int) / 3 = (d : Int) := by omega
  have ewd : IntKind.i64.wrap (d : Int) = (d : Int) := by rw [IntKind.wrap_i64]; omega
  have hdv : d % v < v := Nat.mod_lt _ (by omega)
  obtain ⟨q, hq⟩ : ∃ q, d % v = q := ⟨_, rfl⟩
  have eq1 : (d : Int).tmod (v : Int) = (q : Int) := by rw [Int.tmod_eq_emod_of_nonneg (by omega)]; omega
  have eq2 : (d : Int) % (v : Int) = (q : Int) := by omega
  have hvne : ¬ ((v : Int) = 0) := by omega
  have evz : ((v : Int) == 0) = false := by simpa using hvne
  have hv3 : ∃ (bb : Bool), ((M : Int) == 1) = bb ∧ ((bb = true ∧ (n : Int).tmod 3 = 2 ∧ (n : Int) % 3 = 2) ∨ (bb = false ∧ (n : Int).tmod 3 = 2 ∧ (n : Int) % 3 = 2) ∨ (bb = false ∧ (n : Int).tmod 3 = 1 ∧ (n : Int) % 3 = 1)) := by
    refine ⟨_, rfl, ?_⟩
    rw [Int.tmod_eq_emod_of_nonneg (by omega)]
    by_cases h2 : n % 3 = 2
    · cases hbb : ((M : Int) == 1)
      · exact .inr (.inl ⟨rfl, by omega, by omega⟩)
      · exact .inl ⟨rfl, by omega, by omega⟩
    · have h3 : n % 3 = 1 := by
        have : n % 3 < 3 := Nat.mod_lt _ (by omega)
        have : n % 3 ≠ 0 := fun e => h1 (.inl e)
        omega
      have hr : r ≠ [] := fun e => h1 (.inr ⟨e, h3⟩)
      have := List.length_pos_iff.2 hr
      refine .inr (.inr ⟨by rw [Bool.eq_false_iff]; simp only [ne_eq, beq_iff_eq]; omega, by omega, by omega⟩)
  have h1n : ¬ ((n % 3 = 0 ∧ 0 < v) ∨ (r = [] ∧ 0 < v ∧ n % 3 = 1)) := by
    rintro (h | h)
    · exact h1 (.inl h.1)
    · exact h1 (.inr ⟨h.1, h.2.2⟩)
  have em : (d : Int).tmod 5 = 4 := by rw [Int.tmod_eq_emod_of_nonneg (by omega)]; omega
  have em2 : (d : Int) % 5 = 4 := by omega
  rw [hM, makeT_cons, if_neg h1n, if_neg (by omega), if_neg (by omega), if_neg (by omega)]
  have HIN : Hid (∀ W', Below W1.heap.size W1 W' → Calls Tryd.prog 34 #[.slice ain L (cap - 1), .int .i64 (v : Int)] W' fun e w' => ∃ u, e = .returned u ∧ IsV (New W') w' (tyC (makeT r v)) u ∧ Below W'.heap.size W' w') := by
    show ∀ W', _
    intro W' hW'
    have := ih (r) (by simp) ain (cap - 1) v W' (hbin2.under hW') (by omega) (by unfold maxLen; omega) hv hv2
    rwa [hL] at this
  clear hcell h hin hbin hM hby1
  obtain ⟨X, hX⟩ : ∃ X, makeT r v = X := ⟨_, rfl⟩
  rw [hX] at HIN ⊢
  clear hX ih
  have HNUM : Hid (M = L + 1 ∧ M ≤ cap ∧ cap ≤ 9223372036854775807 ∧ L / 2 = H ∧ r.length = L) := ⟨hML, hc, by omega, hH, hL⟩
  clear hML hc hm hH hL hd h1 h1n hb1 hx1 hdv hq eq1 eq2 h5 hbin2 hbh
  obtain ⟨bb, eM1, hv3⟩ := hv3
  rcases hv3 with ⟨rfl, er, er2⟩ | ⟨rfl, er, er2⟩ | ⟨rfl, er, er2⟩
  all_goals
    go_enter Tryd.func34, Tryd.ntmps34
    go_upto_region 1 with fail
    try rw [hW1]
    try clear hW1
    go_wp2_with (go_at_call 34; (with_reducible refine (HIN.out _ (Below.refl W1.heap.size W1)).mono ?_); rintro e wa ⟨ua, rfl, hva, hba⟩; have HVa := Lib.hid hva; obtain ⟨ka, na, sa, aa, ma, ca, rfl⟩ := hva.tys; have hy1 := HX1.out.below hba; obtain ⟨_, _, _, _⟩ := four_cells hy1; obtain ⟨_, _, _, _⟩ := four_frozen hy1; have hyl := hy1.lt; have HYa := Lib.hid hy1; have HRa := Lib.hid hba; have HBa : Hid (Below W1.heap.size W1 wa) := (Below.refl W1.heap.size W1).trans (hba.mono (Below.refl W1.heap.size W1).size); have hsza := HBa.out.size; clear hba hva hy1)
    refine bodyPost_ret (v := .agg #[.int .i64 2, .int .i64 0, .string ⟨#[76, 105, 115, 116]⟩, .slice (some ⟨wa.heap.size, 0, none⟩) 1 1]) (by simp only [results, Tryd.results34]; go_simp <;> rfl) rfl ?_
    have hva : IsV (New W1) wa (tyC _) _ := HVa.out
    have hnw : ¬ New W1 w.heap.size := by show ¬ (W1.heap.size ≤ w.heap.size); omega
    have hmo : ∀ q, New W1 q → New w q := fun q h => by have : W1.heap.size ≤ q := h; show w.heap.size ≤ q; omega
    exact ⟨_, rfl, (IsV.of_ty (n := 0) (s := nList) (one_set hva hnw (by show W1.heap.size ≤ wa.heap.size; omega) _ _ _ _)).mono (fun q _ => hmo q), (below_set4t (HB1.out.trans (HBa.out.mono (by omega))) (Nat.le_refl _)).alloc (by simp only [World.size_setCell]; omega) _⟩

theorem mk_all (ns : List Nat) : MKB ns := by
  have key : ∀ (k : Nat) (l : List Nat), l.length ≤ k → MKB l := by
    intro k
    induction k with
    | zero => intro l hl; rw [List.eq_nil_of_length_eq_zero (Nat.le_zero.1 hl)]; exact mk_nil
    | succ k ih =>
      intro l hl
      cases l with
      | nil => exact mk_nil
      | cons n r =>
        have ih2 : ∀ l : List Nat, l.length ≤ r.length → MKB l := fun l h => ih l (by simp only [List.length_cons] at hl; omega)
        by_cases h1 : n % 3 = 0 ∨ (r = [] ∧ n % 3 = 1)
        · exact mk_var n r ih2 h1
        · have h5 : n / 3 % 5 < 5 := Nat.mod_lt _ (by omega)
          have h2 : n / 15 % 2 < 2 := Nat.mod_lt _ (by omega)
          rcases (by omega : n / 3 % 5 = 0 ∨ n / 3 % 5 = 1 ∨ n / 3 % 5 = 2 ∨ n / 3 % 5 = 3 ∨ n / 3 % 5 = 4) with h | h | h | h | h
          · rcases (by omega : n / 15 % 2 = 0 ∨ n / 15 % 2 = 1) with h' | h'
            · exact mk_Int n r ih2 h1 h h'
            · exact mk_Bool n r ih2 h1 h h'
          · exact mk_ar1 n r ih2 h1 h
          · exact mk_ar2 n r ih2 h1 h
          · exact mk_pa n r ih2 h1 h
          · exact mk_li n r ih2 h1 h
  exact key _ ns (Nat.le_refl _)

end Go.Proofs.YtpfcpeljfgmjgaaDoor
