/- What the law SccMore does to a graph: its edges twice, and turned round. No program. -/
import Derived.Test.YtdbjmonboecfgaaGof
import Derived.Test.YtdbjmonboecfgaaGmk
namespace Go.Proofs.Ytdbjmonboecfgaa
set_option linter.unusedVariables false
set_option linter.unusedSimpArgs false

theorem grpL_same {g h : Gr} (hl : h.length = g.length) (hr : ∀ i j, i < g.length → j < g.length → (Rch h i j ∧ Rch h j i ↔ Rch g i j ∧ Rch g j i)) : grpL h = grpL g := by
  unfold grpL grpI
  rw [hl]
  refine grp2_congr (Nat.le_refl _) fun i j hi hj => ?_
  rw [Bool.eq_iff_iff, mutB_iff (by omega) (by omega), mutB_iff hi hj]
  exact hr i j hi hj
theorem Rch.sub {g h : Gr} (he : ∀ x y, ed h x y → x = y ∨ ed g x y) {a b : Nat} (hr : Rch h a b) : Rch g a b := by
  induction hr with
  | refl => exact .refl
  | step _ e ih =>
    rcases he _ _ e with rfl | e
    · exact ih
    · exact .step ih e
theorem Rch.turn {g h : Gr} (he : ∀ x y, ed h x y → ed g y x) {a b : Nat} (hr : Rch h a b) : Rch g b a := by
  induction hr with
  | refl => exact .refl
  | step _ e ih => exact (Rch.step .refl (he _ _ e)).trans ih
theorem rowG_past {g : Gr} {x : Nat} (h : g.length ≤ x) : rowG g x = [] := by
  unfold rowG; rw [List.getD_eq_getElem?_getD, List.getElem?_eq_none h]; rfl

/-- Rows below i doubled. -/
structure HM (g : Gr) (i : Nat) (h : Gr) : Prop where
  len : h.length = g.length
  row : ∀ j, j < i → rowG h j = rowG g j ++ rowG g j
  rest : ∀ j, i ≤ j → rowG h j = []
theorem HM.zero (g : Gr) : HM g 0 (List.replicate g.length []) := ⟨by simp, fun j h => by omega, fun j _ => by unfold rowG; rw [List.getD_eq_getElem?_getD, List.getElem?_replicate]; split <;> rfl⟩
theorem HM.next {g h : Gr} {i : Nat} (hm : HM g i h) (hi : i < g.length) : HM g (i + 1) (h.set i (rowG g i ++ rowG g i)) := by
  refine ⟨by simp [hm.len], fun j hj => ?_, fun j hj => ?_⟩
  · by_cases e : i = j
    · subst e; exact rowG_set_self (by rw [hm.len]; exact hi)
    · rw [rowG_set_other e]; exact hm.row j (by omega)
  · rw [rowG_set_other (by omega)]; exact hm.rest j (by omega)
theorem HM.groups {g h : Gr} (hm : HM g g.length h) {k : Nat} (hk : k < g.length) : grpL (h.set k (rowG h k ++ [(k : Int), -1, (g.length : Int)])) = grpL g := by
  have hl : (h.set k (rowG h k ++ [(k : Int), -1, (g.length : Int)])).length = g.length := by rw [List.length_set, hm.len]
  have hrow : ∀ x, x < g.length → ∀ y : Nat, (y : Int) ∈ rowG h x ↔ (y : Int) ∈ rowG g x := fun x hx y => by rw [hm.row x hx]; simp
  have up : ∀ x y, ed (h.set k (rowG h k ++ [(k : Int), -1, (g.length : Int)])) x y → x = y ∨ ed g x y := fun x y he => by
    obtain ⟨h1, h2⟩ := he
    rw [hl] at h2
    by_cases hx : x < g.length
    · by_cases e : k = x
      · subst e
        rw [rowG_set_self (by rw [hm.len]; exact hk)] at h1
        rcases List.mem_append.1 h1 with h1 | h1
        · exact .inr ⟨(hrow k hk y).1 h1, h2⟩
        · simp at h1
          omega
      · rw [rowG_set_other e] at h1
        exact .inr ⟨(hrow x hx y).1 h1, h2⟩
    · rw [rowG_past (by omega)] at h1
      cases h1
  have down : ∀ x y, ed g x y → x = y ∨ ed (h.set k (rowG h k ++ [(k : Int), -1, (g.length : Int)])) x y := fun x y he => by
    obtain ⟨h1, h2⟩ := he
    have hx : x < g.length := by
      rcases Nat.lt_or_ge x g.length with q | q
      · exact q
      · rw [rowG_past q] at h1; cases h1
    refine .inr ⟨?_, by rw [hl]; exact h2⟩
    by_cases e : k = x
    · subst e
      rw [rowG_set_self (by rw [hm.len]; exact hk)]
      exact List.mem_append.2 (.inl ((hrow k hk y).2 h1))
    · rw [rowG_set_other e]
      exact (hrow x hx y).2 h1
  exact grpL_same hl fun i j _ _ => ⟨fun q => ⟨q.1.sub up, q.2.sub up⟩, fun q => ⟨q.1.sub down, q.2.sub down⟩⟩

/-- The edges of the rows below i, and of row i its first j, turned round. -/
structure BM (g : Gr) (i j : Nat) (b : Gr) : Prop where
  len : b.length = g.length
  mem : ∀ x y : Nat, (x : Int) ∈ rowG b y ↔ y < g.length ∧ ((x < i ∧ (y : Int) ∈ rowG g x) ∨ (x = i ∧ (y : Int) ∈ (rowG g i).take j))
  sz : ∀ y, (rowG b y).length ≤ 40 * i + j
theorem BM.zero (g : Gr) : BM g 0 0 (List.replicate g.length []) := by
  have h : ∀ y, rowG (List.replicate g.length ([] : List Int)) y = [] := fun y => by unfold rowG; rw [List.getD_eq_getElem?_getD, List.getElem?_replicate]; split <;> rfl
  refine ⟨by simp, fun x y => ?_, fun y => by rw [h]; simp⟩
  rw [h]
  simp
theorem BM.roll {g b : Gr} {i : Nat} (h : BM g i (rowG g i).length b) (hi : (rowG g i).length ≤ 40) : BM g (i + 1) 0 b := by
  refine ⟨h.len, fun x y => ?_, fun y => by have := h.sz y; omega⟩
  rw [h.mem x y, List.take_length]
  simp only [List.take_zero, List.not_mem_nil, and_false, or_false]
  constructor
  · rintro ⟨h1, ⟨h2, h3⟩ | ⟨rfl, h3⟩⟩
    · exact ⟨h1, by omega, h3⟩
    · exact ⟨h1, by omega, h3⟩
  · rintro ⟨h1, h2, h3⟩
    by_cases e : x = i
    · exact ⟨h1, .inr ⟨e, by rw [← e]; exact h3⟩⟩
    · exact ⟨h1, .inl ⟨by omega, h3⟩⟩
theorem BM.push {g b : Gr} {i j z : Nat} (h : BM g i j b) (hj : (rowG g i)[j]? = some (z : Int)) (hz : z < g.length) : BM g i (j + 1) (b.set z (rowG b z ++ [(i : Int)])) := by
  have ht : (rowG g i).take (j + 1) = (rowG g i).take j ++ [(z : Int)] := by
    rw [List.take_add_one, hj]; rfl
  refine ⟨by simp [h.len], fun x y => ?_, fun y => ?_⟩
  · rw [ht]
    by_cases e : z = y
    · subst e
      rw [rowG_set_self (by rw [h.len]; exact hz), List.mem_append, h.mem x z]
      simp only [List.mem_append, List.mem_singleton, Int.natCast_inj, and_true]
      constructor
      · rintro (⟨h1, h2 | ⟨h2, h3⟩⟩ | h2)
        · exact ⟨h1, .inl h2⟩
        · exact ⟨h1, .inr ⟨h2, .inl h3⟩⟩
        · exact ⟨hz, .inr ⟨h2, .inr trivial⟩⟩
      · rintro ⟨h1, h2 | ⟨h2, h3⟩⟩
        · exact .inl ⟨h1, .inl h2⟩
        · exact .inr h2
    · rw [rowG_set_other e, h.mem x y]
      simp only [List.mem_append, List.mem_singleton, Int.natCast_inj]
      constructor
      · rintro ⟨h1, h2 | ⟨h2, h3⟩⟩
        · exact ⟨h1, .inl h2⟩
        · exact ⟨h1, .inr ⟨h2, .inl h3⟩⟩
      · rintro ⟨h1, h2 | ⟨h2, h3 | h3⟩⟩
        · exact ⟨h1, .inl h2⟩
        · exact ⟨h1, .inr ⟨h2, h3⟩⟩
        · exact absurd h3.symm e
  · by_cases e : z = y
    · subst e
      rw [rowG_set_self (by rw [h.len]; exact hz)]
      have := h.sz z
      simp; omega
    · rw [rowG_set_other e]
      have := h.sz y
      omega
theorem BM.groups {g b : Gr} (h : BM g g.length 0 b) : grpL b = grpL g := by
  have e1 : ∀ x y, ed b x y → ed g y x := fun x y ⟨h1, h2⟩ => by
    obtain ⟨h3, ⟨h4, h5⟩ | ⟨_, h5⟩⟩ := (h.mem y x).1 h1
    · exact ⟨h5, h3⟩
    · simp at h5
  have e2 : ∀ x y, ed g x y → ed b y x := fun x y ⟨h1, h2⟩ => by
    have hx : x < g.length := by
      rcases Nat.lt_or_ge x g.length with q | q
      · exact q
      · rw [rowG_past q] at h1; cases h1
    exact ⟨(h.mem x y).2 ⟨h2, .inl ⟨hx, h1⟩⟩, by rw [h.len]; exact hx⟩
  exact grpL_same h.len fun i j _ _ => ⟨fun q => ⟨q.2.turn e1, q.1.turn e1⟩, fun q => ⟨q.2.turn e2, q.1.turn e2⟩⟩

end Go.Proofs.Ytdbjmonboecfgaa
