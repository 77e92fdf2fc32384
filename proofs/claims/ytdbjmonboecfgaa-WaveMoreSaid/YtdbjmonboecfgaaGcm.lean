/- A row of nodes, each of which leads to the next; closed to a ring, or not. No program. -/
import Derived.Test.YtdbjmonboecfgaaGgh
namespace Go.Proofs.Ytdbjmonboecfgaa
set_option linter.unusedVariables false
set_option linter.unusedSimpArgs false

/-- The edges of a row of k nodes; the last one may lead to b. -/
def IsChain (k : Nat) (b : Option Nat) (g : Gr) : Prop := g.length = k ∧ (∀ i, i + 1 < k → rowG g i = [((i + 1 : Nat) : Int)]) ∧ (0 < k → rowG g (k - 1) = match b with | none => [] | some b => [(b : Int)])
theorem chain_ed {k : Nat} {b : Option Nat} {g : Gr} (h : IsChain k b g) {i j : Nat} (hi : i < k) (hb : ∀ x, b = some x → x < k) : ed g i j ↔ (i + 1 < k ∧ j = i + 1) ∨ (i + 1 = k ∧ b = some j) := by
  obtain ⟨h1, h2, h3⟩ := h
  unfold ed
  rw [h1]
  by_cases e : i + 1 < k
  · rw [h2 i e]
    simp only [List.mem_singleton]
    constructor
    · rintro ⟨q, _⟩; exact .inl ⟨e, by omega⟩
    · rintro (⟨_, q⟩ | ⟨q, _⟩)
      · exact ⟨by omega, by omega⟩
      · omega
  · have hik : i = k - 1 := by omega
    have h4 := h3 (by omega)
    rw [← hik] at h4
    rw [h4]
    cases b with
    | none => simp; omega
    | some x =>
      have hx := hb x rfl
      simp only [List.mem_singleton, Option.some.injEq]
      constructor
      · rintro ⟨q, _⟩; exact .inr ⟨by omega, by omega⟩
      · rintro (⟨q, _⟩ | ⟨_, q⟩)
        · omega
        · exact ⟨by omega, by omega⟩
theorem chain_up {k : Nat} {b : Option Nat} {g : Gr} (h : IsChain k b g) (hb : ∀ x, b = some x → x < k) {i j : Nat} (hij : i ≤ j) (hj : j < k) : Rch g i j := by
  induction j with
  | zero => obtain rfl : i = 0 := by omega
            exact .refl
  | succ j ih =>
    by_cases e : i = j + 1
    · rw [e]; exact .refl
    · exact .step (ih (by omega) (by omega)) ((chain_ed h (by omega) hb).2 (.inl ⟨hj, rfl⟩))
theorem chain_rch {k : Nat} {g : Gr} (h : IsChain k none g) {i j : Nat} (hi : i < k) (hj : j < k) : Rch g i j ↔ i ≤ j := by
  refine ⟨fun hr => ?_, fun q => chain_up h (by simp) q hj⟩
  have := hr.keep (C := fun y => i ≤ y ∧ y < k) (fun a c ha he => by
    rcases (chain_ed h ha.2 (by simp)).1 he with ⟨q1, q2⟩ | ⟨_, q2⟩
    · omega
    · cases q2) ⟨Nat.le_refl _, hi⟩
  exact this.1
theorem ring_rch {k b : Nat} {g : Gr} (h : IsChain k (some b) g) (hb : b < k) {i j : Nat} (hi : i < k) (hj : j < k) : Rch g i j ↔ i ≤ j ∨ b ≤ j := by
  have hb' : ∀ x, some b = some x → x < k := fun x e => by cases e; exact hb
  refine ⟨fun hr => ?_, fun q => ?_⟩
  · have := hr.keep (C := fun y => (i ≤ y ∨ b ≤ y) ∧ y < k) (fun a c ha he => by
      rcases (chain_ed h ha.2 hb').1 he with ⟨q1, q2⟩ | ⟨q1, q2⟩
      · omega
      · cases q2; exact ⟨.inr (Nat.le_refl _), hb⟩) ⟨.inl (Nat.le_refl _), hi⟩
    exact this.1
  · by_cases e : i ≤ j
    · exact chain_up h hb' e hj
    · have h1 : Rch g i (k - 1) := chain_up h hb' (by omega) (by omega)
      have h2 : ed g (k - 1) b := (chain_ed h (by omega) hb').2 (.inr ⟨by omega, rfl⟩)
      exact (Rch.step h1 h2).trans (chain_up h hb' (by omega) hj)
theorem filter_one (k i : Nat) (hi : i < k) : (List.range k).filter (fun j => i == j) = [i] := by
  induction k with
  | zero => omega
  | succ k ih =>
    rw [List.range_succ, List.filter_append]
    by_cases e : i = k
    · subst e
      have : (List.range i).filter (fun j => i == j) = [] := by
        rw [List.filter_eq_nil_iff]; intro j hj; have := List.mem_range.1 hj; simp; omega
      rw [this]; simp
    · rw [ih (by omega)]
      have : ¬ (i == k) = true := by simp; omega
      simp [this]
/-- The groups of a row: each node is one. -/
theorem chain_groups {k : Nat} {g : Gr} (h : IsChain k none g) : grpL g = (List.range k).map fun i : Nat => [(i : Int)] := by
  have hgl := h.1
  have e : grpL g = grpI (fun i j => i == j) k := by
    unfold grpL grpI
    rw [hgl]
    refine grp2_congr (Nat.le_refl _) fun i j hi hj => ?_
    rw [Bool.eq_iff_iff, mutB_iff (by omega) (by omega), chain_rch h hi hj, chain_rch h hj hi]
    simp; omega
  rw [e]
  unfold grpI grp2
  have hl : ledS (fun i j => i == j) k = List.range k := by
    unfold ledS
    rw [List.filter_eq_self]
    intro i _
    rw [lead_iff]
    intro j hj
    simp; omega
  rw [hl]
  refine List.map_congr_left fun i hi => ?_
  unfold memI
  rw [filter_one k i (List.mem_range.1 hi)]
  rfl
/-- The groups of a row that is closed at b: each node ahead of b is one, and all from b on are one. -/
theorem ring_groups {k b : Nat} {g : Gr} (h : IsChain k (some b) g) (hb : b < k) : grpL g = ((List.range b).map fun i : Nat => [(i : Int)]) ++ [((List.range k).filter fun j => decide (b ≤ j)).map fun n : Nat => (n : Int)] := by
  have hgl := h.1
  have e : grpL g = grpI (fun i j => i == j || (decide (b ≤ i) && decide (b ≤ j))) k := by
    unfold grpL grpI
    rw [hgl]
    refine grp2_congr (Nat.le_refl _) fun i j hi hj => ?_
    rw [Bool.eq_iff_iff, mutB_iff (by omega) (by omega), ring_rch h hb hi hj, ring_rch h hb hj hi]
    simp; omega
  rw [e]
  unfold grpI grp2
  have hlead : ∀ i, leadS (fun i j => i == j || (decide (b ≤ i) && decide (b ≤ j))) i = true ↔ i ≤ b := fun i => by
    rw [lead_iff]
    constructor
    · intro q
      apply Classical.byContradiction
      intro hi
      have := q b (by omega)
      simp at this
      omega
    · intro hi j hj
      simp
      omega
  have hl : ledS (fun i j => i == j || (decide (b ≤ i) && decide (b ≤ j))) k = List.range (b + 1) := by
    unfold ledS
    have e1 : k = (b + 1) + (k - (b + 1)) := by omega
    rw [e1, List.range_add, List.filter_append]
    have a1 : (List.range (b + 1)).filter (leadS fun i j => i == j || (decide (b ≤ i) && decide (b ≤ j))) = List.range (b + 1) := by
      rw [List.filter_eq_self]
      intro i hi
      rw [hlead]
      have := List.mem_range.1 hi
      omega
    have a2 : ((List.range (k - (b + 1))).map (b + 1 + ·)).filter (leadS fun i j => i == j || (decide (b ≤ i) && decide (b ≤ j))) = [] := by
      rw [List.filter_eq_nil_iff]
      intro i hi
      obtain ⟨q, _, rfl⟩ := List.mem_map.1 hi
      rw [hlead]
      omega
    rw [a1, a2, List.append_nil]
  rw [hl, List.range_succ, List.map_append]
  congr 1
  · refine List.map_congr_left fun i hi => ?_
    have hi := List.mem_range.1 hi
    unfold memI
    have : (List.range k).filter (fun j => i == j || (decide (b ≤ i) && decide (b ≤ j))) = [i] := by
      rw [← filter_one k i (by omega)]
      refine List.filter_congr fun j _ => ?_
      have : decide (b ≤ i) = false := decide_eq_false (by omega)
      rw [this]; simp
    rw [this]
    rfl
  · unfold memI
    simp only [List.map_cons, List.map_nil]
    congr 2
    refine List.filter_congr fun j _ => ?_
    rw [Bool.eq_iff_iff]
    simp
    omega
theorem ring_last {k b : Nat} (hb : b < k) : (((List.range k).filter fun j => decide (b ≤ j)).map fun n : Nat => (n : Int)).length = k - b := by
  rw [List.length_map]
  have e1 : k = b + (k - b) := by omega
  rw [e1, List.range_add, List.filter_append]
  have a1 : (List.range b).filter (fun j => decide (b ≤ j)) = [] := by
    rw [List.filter_eq_nil_iff]; intro j hj; have := List.mem_range.1 hj; simp; omega
  have a2 : ((List.range (k - b)).map (b + ·)).filter (fun j => decide (b ≤ j)) = (List.range (k - b)).map (b + ·) := by
    rw [List.filter_eq_self]
    intro j hj
    obtain ⟨q, _, rfl⟩ := List.mem_map.1 hj
    simp
  rw [a1, a2]
  simp

end Go.Proofs.Ytdbjmonboecfgaa
