/- Levels of what leads to what, and waves: the mathematics. No program. -/
import Derived.Test.YtdbjmonboecfgaaGgm
namespace Go.Proofs.Ytdbjmonboecfgaa
set_option linter.unusedVariables false
set_option linter.unusedSimpArgs false

/-- The greatest of f + 1 at those below m that are wanted; 0, if there is none. -/
def supF (m : Nat) (E : Nat → Bool) (f : Nat → Nat) : Nat := ((List.range m).filter E).foldr (fun j a => max (f j + 1) a) 0
theorem fold_le {l : List Nat} {f : Nat → Nat} {b : Nat} (h : ∀ j ∈ l, f j + 1 ≤ b) : l.foldr (fun j a => max (f j + 1) a) 0 ≤ b := by
  induction l with
  | nil => exact Nat.zero_le _
  | cons x l ih =>
    have h1 := h x (by simp)
    have h2 := ih fun j hj => h j (by simp [hj])
    show max _ _ ≤ b
    omega
theorem le_fold {l : List Nat} {f : Nat → Nat} {j : Nat} (h : j ∈ l) : f j + 1 ≤ l.foldr (fun j a => max (f j + 1) a) 0 := by
  induction l with
  | nil => simp at h
  | cons x l ih =>
    show _ ≤ max _ _
    rcases List.mem_cons.1 h with rfl | h
    · omega
    · have := ih h; omega
theorem fold_at {l : List Nat} {f : Nat → Nat} : l.foldr (fun j a => max (f j + 1) a) 0 = 0 ∨ ∃ j ∈ l, l.foldr (fun j a => max (f j + 1) a) 0 = f j + 1 := by
  induction l with
  | nil => exact .inl rfl
  | cons x l ih =>
    right
    show ∃ j ∈ x :: l, max _ _ = _
    rcases ih with h | ⟨j, h1, h2⟩
    · exact ⟨x, by simp, by rw [h]; omega⟩
    · by_cases e : f x + 1 ≤ f j + 1
      · exact ⟨j, by simp [h1], by rw [h2]; omega⟩
      · exact ⟨x, by simp, by rw [h2]; omega⟩
section
variable {m : Nat} {E : Nat → Bool} {f : Nat → Nat}
theorem supF_le {b : Nat} (h : ∀ j, j < m → E j = true → f j + 1 ≤ b) : supF m E f ≤ b :=
  fold_le fun j hj => by rw [List.mem_filter, List.mem_range] at hj; exact h j hj.1 hj.2
theorem le_supF {j : Nat} (hj : j < m) (he : E j = true) : f j + 1 ≤ supF m E f :=
  le_fold (by rw [List.mem_filter, List.mem_range]; exact ⟨hj, he⟩)
theorem supF_at : supF m E f = 0 ∨ ∃ j, j < m ∧ E j = true ∧ supF m E f = f j + 1 := by
  rcases fold_at (l := (List.range m).filter E) (f := f) with h | ⟨j, h1, h2⟩
  · exact .inl h
  · rw [List.mem_filter, List.mem_range] at h1
    exact .inr ⟨j, h1.1, h1.2, h2⟩
theorem supF_congr {f' : Nat → Nat} (h : ∀ j, j < m → E j = true → f j = f' j) : supF m E f = supF m E f' := by
  refine Nat.le_antisymm (supF_le fun j h1 h2 => ?_) (supF_le fun j h1 h2 => ?_)
  · rw [h j h1 h2]; exact le_supF h1 h2
  · rw [← h j h1 h2]; exact le_supF h1 h2
end

def levF (E : Nat → Nat → Bool) (m : Nat) : Nat → Nat → Nat
  | 0, _ => 0
  | k + 1, i => supF m (E i) (levF E m k)
/-- The level of each. -/
def levI (E : Nat → Nat → Bool) (m i : Nat) : Nat := levF E m m i
/-- Nothing leads round: there is a rank that edges lower. -/
structure Ranked (E : Nat → Nat → Bool) (m : Nat) (rk : Nat → Nat) : Prop where
  down : ∀ i j, i < m → j < m → E i j = true → rk j < rk i
  le : ∀ i, rk i ≤ m
section
variable {E : Nat → Nat → Bool} {m : Nat} {rk : Nat → Nat}
theorem levF_le : ∀ (k i : Nat), levF E m k i ≤ k
  | 0, _ => Nat.le_refl _
  | k + 1, i => supF_le fun j _ _ => by have := levF_le k j; omega
theorem levF_stable (h : Ranked E m rk) : ∀ (k i : Nat), i < m → rk i ≤ k → levF E m k i = levF E m (k + 1) i
  | 0, i, hi, hr => by
    show 0 = supF _ _ _
    rcases supF_at (m := m) (E := E i) (f := levF E m 0) with q | ⟨j, h1, h2, _⟩
    · exact q.symm
    · have := h.down i j hi h1 h2; omega
  | k + 1, i, hi, hr => supF_congr fun j h1 h2 => levF_stable h k j h1 (by have := h.down i j hi h1 h2; omega)
theorem levI_eq (h : Ranked E m rk) {i : Nat} (hi : i < m) : levI E m i = supF m (E i) (levI E m) := levF_stable h m i hi (h.le i)
theorem levI_le (i : Nat) : levI E m i ≤ m := levF_le m i
theorem levI_lt (h : Ranked E m rk) {i j : Nat} (hi : i < m) (hj : j < m) (he : E i j = true) : levI E m j + 1 ≤ levI E m i := by
  rw [levI_eq h hi]; exact le_supF hj he
theorem levI_at (h : Ranked E m rk) {i : Nat} (hi : i < m) : levI E m i = 0 ∨ ∃ j, j < m ∧ E i j = true ∧ levI E m i = levI E m j + 1 := by
  rw [levI_eq h hi]; exact supF_at
/-- What tells of each the greatest of those it leads to, and one more, tells the level. -/
theorem lev_one (h : Ranked E m rk) {f : Nat → Nat} (h1 : ∀ i j, i < m → j < m → E i j = true → f j + 1 ≤ f i) (h2 : ∀ i, i < m → f i = 0 ∨ ∃ j, j < m ∧ E i j = true ∧ f i = f j + 1) : ∀ (k i : Nat), rk i ≤ k → i < m → f i = levI E m i
  | k, i, hk, hi => by
    have ih : ∀ j, j < m → E i j = true → f j = levI E m j := fun j hj he => by
      cases k with
      | zero => have := h.down i j hi hj he; omega
      | succ k => exact lev_one h h1 h2 k j (by have := h.down i j hi hj he; omega) hj
    apply Nat.le_antisymm
    · rcases h2 i hi with q | ⟨j, q1, q2, q3⟩
      · omega
      · rw [q3, ih j q1 q2]; exact levI_lt h hi q1 q2
    · rcases levI_at h hi with q | ⟨j, q1, q2, q3⟩
      · omega
      · rw [q3, ← ih j q1 q2]; exact h1 i j hi q1 q2
/-- More edges make no level less. -/
theorem lev_mono (h : Ranked E m rk) {E' : Nat → Nat → Bool} {rk' : Nat → Nat} (h' : Ranked E' m rk') (hs : ∀ i j, i < m → j < m → E i j = true → E' i j = true) : ∀ (k i : Nat), rk i ≤ k → i < m → levI E m i ≤ levI E' m i
  | k, i, hk, hi => by
    rcases levI_at h hi with q | ⟨j, q1, q2, q3⟩
    · omega
    · have := levI_lt h' hi q1 (hs i j hi q1 q2)
      have hd := h.down i j hi q1 q2
      cases k with
      | zero => omega
      | succ k =>
        have := lev_mono h h' hs k j (by omega) q1
        omega
/-- Below each level that there is, there is each. -/
theorem lev_all (h : Ranked E m rk) : ∀ (d i : Nat), i < m → ∀ v, v + d = levI E m i → ∃ j, j < m ∧ levI E m j = v
  | 0, i, hi, v, hv => ⟨i, hi, by omega⟩
  | d + 1, i, hi, v, hv => by
    rcases levI_at h hi with q | ⟨j, q1, q2, q3⟩
    · omega
    · exact lev_all h d j q1 v (by omega)
end
theorem lev_congr {E E' : Nat → Nat → Bool} {m : Nat} (h : ∀ i j, i < m → j < m → E i j = E' i j) : ∀ (k i : Nat), i < m → levF E m k i = levF E' m k i
  | 0, _, _ => rfl
  | k + 1, i, hi => by
    show supF m (E i) _ = supF m (E' i) _
    refine Nat.le_antisymm (supF_le fun j h1 h2 => ?_) (supF_le fun j h1 h2 => ?_)
    · rw [lev_congr h k j h1]; exact le_supF h1 (by rw [← h i j hi h1]; exact h2)
    · rw [← lev_congr h k j h1]; exact le_supF h1 (by rw [h i j hi h1]; exact h2)

/-! ### waves -/
/-- Past the greatest. -/
def topL (l : List Nat) : Nat := l.foldr (fun v a => max (v + 1) a) 0
theorem topL_snoc (l : List Nat) (v : Nat) : topL (l ++ [v]) = max (topL l) (v + 1) := by
  unfold topL
  induction l with
  | nil => simp
  | cons x l ih => simp only [List.cons_append, List.foldr_cons, ih]; omega
theorem topL_lt {l : List Nat} {v : Nat} (h : v ∈ l) : v < topL l := by
  unfold topL
  induction l with
  | nil => simp at h
  | cons x l ih =>
    show _ < max _ _
    rcases List.mem_cons.1 h with rfl | h
    · omega
    · have := ih h; omega
theorem topL_at (l : List Nat) : topL l = 0 ∨ ∃ v ∈ l, topL l = v + 1 := by
  unfold topL
  induction l with
  | nil => exact .inl rfl
  | cons x l ih =>
    right
    show ∃ v ∈ x :: l, max _ _ = _
    rcases ih with h | ⟨j, h1, h2⟩
    · exact ⟨x, by simp, by rw [h]; omega⟩
    · by_cases e : x + 1 ≤ j + 1
      · exact ⟨j, by simp [h1], by rw [h2]; omega⟩
      · exact ⟨x, by simp, by rw [h2]; omega⟩
/-- The places with one level, rising: of the first p. -/
def atLev (l : List Nat) (k p : Nat) : List Int := memI (fun k q => el l q == k) p k
/-- The waves of levels. -/
def wavesL (l : List Nat) : Gr := (List.range (topL l)).map fun k => atLev l k l.length
theorem wavesL_len (l : List Nat) : (wavesL l).length = topL l := by unfold wavesL; simp
theorem wavesL_row {l : List Nat} {k : Nat} (hk : k < topL l) : rowG (wavesL l) k = atLev l k l.length := by
  unfold wavesL rowG; simp [List.getD, hk]
/-- The waves of the first p, and rows enough. -/
structure WI (l : List Nat) (p : Nat) (rows : Gr) : Prop where
  row : ∀ k, rowG rows k = atLev l k p
  top : rows.length = topL (l.take p)
theorem WI.zero (l : List Nat) : WI l 0 [] := ⟨fun k => by simp [rowG, atLev, memI], by simp [topL]⟩
theorem WI.done {l : List Nat} {rows : Gr} (h : WI l l.length rows) : rows = wavesL l := by
  apply List.ext_getElem
  · rw [wavesL_len, h.top, List.take_length]
  · intro i h1 h2
    have e1 : rows[i] = rowG rows i := by simp [rowG, List.getD, h1]
    have e2 : (wavesL l)[i] = rowG (wavesL l) i := by simp [rowG, List.getD, h2]
    rw [e1, e2, h.row, wavesL_row (by rw [wavesL_len] at h2; exact h2)]
theorem atLev_succ (l : List Nat) (k p : Nat) : atLev l k (p + 1) = atLev l k p ++ if el l p = k then [(p : Int)] else [] := by
  unfold atLev
  rw [mem_succ]
  simp
/-- On the way: rows enough, or not yet. -/
structure WJ (l : List Nat) (p : Nat) (rows : Gr) : Prop where
  row : ∀ k, rowG rows k = atLev l k p
  lo : topL (l.take p) ≤ rows.length
  hi : rows.length ≤ max (topL (l.take p)) (el l p + 1)
theorem WI.start {l : List Nat} {p : Nat} {rows : Gr} (h : WI l p rows) : WJ l p rows := ⟨h.row, by rw [h.top]; exact Nat.le_refl _, by rw [h.top]; exact Nat.le_max_left _ _⟩
theorem atLev_none {l : List Nat} {p k : Nat} (h : ∀ q, q < p → el l q ≠ k) : atLev l k p = [] := by
  unfold atLev memI
  rw [List.map_eq_nil_iff, List.filter_eq_nil_iff]
  intro q hq
  have := h q (by simpa using hq)
  simpa using this
theorem el_mem_take {l : List Nat} {p q : Nat} (h1 : q < p) (h2 : q < l.length) : el l q ∈ l.take p := by
  rw [List.mem_take_iff_getElem]
  exact ⟨q, by omega, by simp [el, List.getD, h2]⟩
theorem WJ.more {l : List Nat} {p : Nat} {rows : Gr} (h : WJ l p rows) (hp : p < l.length) (hlt : rows.length ≤ el l p) : WJ l p (rows ++ [[]]) := by
  refine ⟨fun k => ?_, by rw [List.length_append]; have := h.lo; omega, by simp; omega⟩
  have : rowG (rows ++ [[]]) k = rowG rows k := by
    by_cases e : k < rows.length
    · simp [rowG, List.getD, List.getElem?_append_left e]
    · by_cases e2 : k = rows.length
      · subst e2; simp [rowG, List.getD]
      · simp [rowG, List.getD, List.getElem?_eq_none (show (rows ++ [[]]).length ≤ k by simp; omega), List.getElem?_eq_none (show rows.length ≤ k by omega)]
  rw [this, h.row]
theorem WJ.put {l : List Nat} {p : Nat} {rows : Gr} (h : WJ l p rows) (hp : p < l.length) (hlt : el l p < rows.length) : WI l (p + 1) (rows.set (el l p) (rowG rows (el l p) ++ [(p : Int)])) := by
  refine ⟨fun k => ?_, ?_⟩
  · rw [atLev_succ]
    by_cases e : el l p = k
    · subst e
      rw [if_pos rfl]
      have : rowG (rows.set (el l p) (rowG rows (el l p) ++ [(p : Int)])) (el l p) = rowG rows (el l p) ++ [(p : Int)] := by simp [rowG, List.getD, hlt]
      rw [this, h.row]
    · rw [if_neg e, List.append_nil, ← h.row]
      simp [rowG, List.getD, List.getElem?_set_ne e]
  · rw [List.length_set]
    have e : l.take (p + 1) = l.take p ++ [el l p] := by
      rw [List.take_add_one, List.getElem?_eq_getElem hp]
      simp [el, List.getD, hp]
    rw [e, topL_snoc]
    have := h.lo
    have := h.hi
    omega
theorem mem_atLev {l : List Nat} {k p : Nat} {v : Int} : v ∈ atLev l k p ↔ ∃ q : Nat, q < p ∧ el l q = k ∧ v = (q : Int) := by
  unfold atLev memI
  rw [List.mem_map]
  constructor
  · rintro ⟨j, hj, rfl⟩
    rw [List.mem_filter, List.mem_range] at hj
    exact ⟨j, hj.1, by simpa using hj.2, rfl⟩
  · rintro ⟨j, h1, h2, rfl⟩
    exact ⟨j, by rw [List.mem_filter, List.mem_range]; exact ⟨h1, by simpa using h2⟩, rfl⟩
theorem atLev_len (l : List Nat) (k p : Nat) : (atLev l k p).length ≤ p := memI_len _ _ _

end Go.Proofs.Ytdbjmonboecfgaa
