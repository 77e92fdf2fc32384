/- What the groups are: each rising, its first node the least; how often each node is in one. No program. -/
import Derived.Test.YtdbjmonboecfgaaGgf
namespace Go.Proofs.Ytdbjmonboecfgaa
set_option linter.unusedVariables false
set_option linter.unusedSimpArgs false

section
variable {S : Nat → Nat → Bool} {n : Nat}
theorem memI_sorted (r : Nat) : (memI S n r).Pairwise (· < ·) := by
  unfold memI
  rw [List.pairwise_map]
  exact (List.Pairwise.filter _ List.pairwise_lt_range).imp fun h => by omega
theorem led_sorted : (ledS S n).Pairwise (· < ·) := List.Pairwise.filter _ List.pairwise_lt_range
theorem memI_first (E : Eqv S n) {r : Nat} (hr : r ∈ ledS S n) : (memI S n r)[0]? = some (r : Int) := by
  obtain ⟨h1, h2⟩ := mem_led.1 hr
  have hm : (r : Int) ∈ memI S n r := mem_memI.2 ⟨r, h1, E.rfl_ r h1, rfl⟩
  have hs := memI_sorted (S := S) (n := n) r
  cases e : memI S n r with
  | nil => rw [e] at hm; simp at hm
  | cons a t =>
    rw [e] at hs hm
    rw [List.pairwise_cons] at hs
    obtain ⟨j, hj, hsj, ej⟩ := mem_memI.1 (show a ∈ memI S n r by rw [e]; simp)
    have hge : r ≤ j := by
      rcases Nat.lt_or_ge j r with q | q
      · have := lead_iff.1 h2 j q
        rw [E.sym r j h1 hj hsj] at this; cases this
      · exact q
    have : a = (r : Int) := by
      rcases List.mem_cons.1 hm with q | q
      · exact q.symm
      · have := hs.1 _ q; omega
    simp [this]
/-- Of group i: it has a first node, and that of the next one is greater. -/
theorem grp_first (E : Eqv S n) {i : Nat} (hi : i < (grpI S n).length) : ∃ r : Nat, r < n ∧ (rowG (grpI S n) i)[0]? = some (r : Int) ∧ (rowG (grpI S n) i).Pairwise (· < ·) ∧ ∀ i' r' : Nat, i' < i → i' < (grpI S n).length → (rowG (grpI S n) i')[0]? = some (r' : Int) → r' < r := by
  obtain ⟨r, h1, h2⟩ := grp_row hi
  have hr := List.mem_of_getElem? h1
  refine ⟨r, (mem_led.1 hr).1, by rw [h2]; exact memI_first E hr, by rw [h2]; exact memI_sorted r, fun i' r' hlt hi' hf => ?_⟩
  obtain ⟨q, h3, h4⟩ := grp_row hi'
  rw [h4, memI_first E (List.mem_of_getElem? h3)] at hf
  have e : q = r' := by have := Option.some.inj hf; omega
  subst e
  obtain ⟨a1, a2⟩ := List.getElem?_eq_some_iff.1 h1
  obtain ⟨b1, b2⟩ := List.getElem?_eq_some_iff.1 h3
  have := List.pairwise_iff_getElem.1 (led_sorted (S := S) (n := n)) i' i b1 a1 hlt
  omega
end
/-- How often each is in a group, so far. -/
structure CI (L : Gr) (k i j : Nat) (C : List Nat) : Prop where
  len : C.length = k
  one : ∀ v : Nat, v < k → ((∃ i', i' < i ∧ (v : Int) ∈ rowG L i') ∨ (v : Int) ∈ (rowG L i).take j) → el C v = 1
  no : ∀ v : Nat, v < k → ¬ ((∃ i', i' < i ∧ (v : Int) ∈ rowG L i') ∨ (v : Int) ∈ (rowG L i).take j) → el C v = 0
theorem CI.zero (L : Gr) (k : Nat) : CI L k 0 0 (List.replicate k 0) :=
  ⟨by simp, fun v _ h => by rcases h with ⟨i', h, _⟩ | h; omega; simp at h, fun v _ _ => el_zeros k v⟩
theorem CI.next {L : Gr} {k i j : Nat} {C : List Nat} (h : CI L k i j C) (hd : (∀ i i', i < L.length → i' < L.length → ∀ v : Nat, (v : Int) ∈ rowG L i → (v : Int) ∈ rowG L i' → i = i')) (hi : i < L.length) (hs : (rowG L i).Pairwise (· < ·)) {v : Nat} (hv : (rowG L i)[j]? = some (v : Int)) (hk : v < k) : el C v = 0 ∧ CI L k i (j + 1) (C.set v 1) := by
  have hvm := List.mem_of_getElem? hv
  obtain ⟨hj, hve⟩ := List.getElem?_eq_some_iff.1 hv
  have hn : ¬ ((∃ i', i' < i ∧ (v : Int) ∈ rowG L i') ∨ (v : Int) ∈ (rowG L i).take j) := by
    rintro (⟨i', h1, h2⟩ | h1)
    · have := hd i i' hi (by omega) v hvm h2; omega
    · obtain ⟨q, hq, e⟩ := List.mem_iff_getElem.1 h1
      rw [List.length_take] at hq
      have := List.pairwise_iff_getElem.1 hs q j (by omega) hj (by omega)
      rw [List.getElem_take] at e
      omega
  have tk : ∀ u : Nat, (u : Int) ∈ (rowG L i).take (j + 1) ↔ (u : Int) ∈ (rowG L i).take j ∨ u = v := fun u => by
    rw [List.take_add_one, List.mem_append, hv]
    simp only [Option.toList_some, List.mem_singleton]
    exact or_congr_right ⟨fun e => by omega, fun e => by omega⟩
  refine ⟨h.no v hk hn, ⟨by simp [h.len], fun u hu hp => ?_, fun u hu hp => ?_⟩⟩
  · by_cases e : v = u
    · subst e; exact el_set_self (by rw [h.len]; exact hk)
    · rw [el_set_other e]
      refine h.one u hu ?_
      rcases hp with hp | hp
      · exact .inl hp
      · exact .inr (((tk u).1 hp).resolve_right fun q => e q.symm)
  · have e : v ≠ u := fun e => hp (.inr ((tk u).2 (.inr e.symm)))
    rw [el_set_other e]
    exact h.no u hu fun q => hp (q.imp id fun q => (tk u).2 (.inl q))
theorem CI.turn {L : Gr} {k i : Nat} {C : List Nat} (h : CI L k i (rowG L i).length C) : CI L k (i + 1) 0 C := by
  have e : ∀ v : Nat, ((∃ i', i' < i + 1 ∧ (v : Int) ∈ rowG L i') ∨ (v : Int) ∈ (rowG L (i + 1)).take 0) ↔ ((∃ i', i' < i ∧ (v : Int) ∈ rowG L i') ∨ (v : Int) ∈ (rowG L i).take (rowG L i).length) := fun v => by
    rw [List.take_length]
    constructor
    · rintro (⟨i', h1, h2⟩ | h1)
      · by_cases q : i' = i
        · subst q; exact .inr h2
        · exact .inl ⟨i', by omega, h2⟩
      · simp at h1
    · rintro (⟨i', h1, h2⟩ | h1)
      · exact .inl ⟨i', by omega, h2⟩
      · exact .inl ⟨i, by omega, h1⟩
  exact ⟨h.len, fun v hv hp => h.one v hv ((e v).1 hp), fun v hv hp => h.no v hv fun q => hp ((e v).2 q)⟩

end Go.Proofs.Ytdbjmonboecfgaa
