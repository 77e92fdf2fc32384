/- Groups by what is the same: each by its least node. No program. -/
import Derived.Test.YtdbjmonboecfgaaGmb
namespace Go.Proofs.Ytdbjmonboecfgaa
set_option linter.unusedVariables false
set_option linter.unusedSimpArgs false

def leadS (S : Nat → Nat → Bool) (i : Nat) : Bool := (List.range i).all fun j => !S j i
theorem lead_iff {S : Nat → Nat → Bool} {i : Nat} : leadS S i = true ↔ ∀ j, j < i → S j i = false := by
  unfold leadS; simp
def ledS (S : Nat → Nat → Bool) (k : Nat) : List Nat := (List.range k).filter (leadS S)
def memI (S : Nat → Nat → Bool) (k i : Nat) : List Int := ((List.range k).filter (S i)).map fun n : Nat => (n : Int)
/-- The groups of those below k, each with its members below m. -/
def grp2 (S : Nat → Nat → Bool) (k m : Nat) : Gr := (ledS S k).map (memI S m)
def grpI (S : Nat → Nat → Bool) (k : Nat) : Gr := grp2 S k k
theorem led_succ (S : Nat → Nat → Bool) (k : Nat) : ledS S (k + 1) = ledS S k ++ if leadS S k = true then [k] else [] := by
  unfold ledS
  rw [List.range_succ, List.filter_append]
  congr 1
  by_cases h : leadS S k = true <;> simp [h]
theorem mem_succ (S : Nat → Nat → Bool) (k i : Nat) : memI S (k + 1) i = memI S k i ++ if S i k = true then [(k : Int)] else [] := by
  unfold memI
  rw [List.range_succ, List.filter_append, List.map_append]
  congr 1
  by_cases h : S i k = true <;> simp [h]
theorem mem_led {S : Nat → Nat → Bool} {k i : Nat} : i ∈ ledS S k ↔ i < k ∧ leadS S i = true := by unfold ledS; simp
theorem led_nodup (S : Nat → Nat → Bool) (k : Nat) : (ledS S k).Nodup := List.nodup_range.filter _
theorem memI_len (S : Nat → Nat → Bool) (k i : Nat) : (memI S k i).length ≤ k := by
  unfold memI; rw [List.length_map]; exact Nat.le_trans (List.length_filter_le _ _) (by simp)
theorem led_len (S : Nat → Nat → Bool) (k : Nat) : (ledS S k).length ≤ k := by unfold ledS; exact Nat.le_trans (List.length_filter_le _ _) (by simp)
theorem grp2_row {S : Nat → Nat → Bool} {k m i : Nat} : (rowG (grp2 S k m) i).length ≤ m := by
  unfold grp2 rowG
  rw [List.getD_eq_getElem?_getD, List.getElem?_map]
  cases (ledS S k)[i]? with
  | none => simp
  | some a => exact memI_len _ _ _
theorem grp2_congr {S S' : Nat → Nat → Bool} {k m : Nat} (hk : k ≤ m) (h : ∀ i j, i < m → j < m → S i j = S' i j) : grp2 S k m = grp2 S' k m := by
  have h1 : ledS S k = ledS S' k := by
    unfold ledS
    refine List.filter_congr fun i hi => ?_
    rw [List.mem_range] at hi
    rw [Bool.eq_iff_iff, lead_iff, lead_iff]
    exact ⟨fun q j hj => by rw [← h j i (by omega) (by omega)]; exact q j hj, fun q j hj => by rw [h j i (by omega) (by omega)]; exact q j hj⟩
  unfold grp2
  rw [h1]
  refine List.map_congr_left fun i hi => ?_
  have hi := (mem_led.1 hi).1
  unfold memI
  congr 1
  exact List.filter_congr fun j hj => h i j (by omega) (by simpa using hj)

/-! ### as the package makes them -/
abbrev sameF (F : List Nat) (i j : Nat) : Bool := el F i == el F j
structure NI (F : List Nat) (n k : Nat) (N : List Nat) (rows : Gr) : Prop where
  len : N.length = n
  rows : rows = grpI (sameF F) k
  no : ∀ f, f < n → (el N f = 0 ↔ ∀ j, j < k → el F j ≠ f)
  at_ : ∀ f, f < n → 0 < el N f → ∃ i, (ledS (sameF F) k)[el N f - 1]? = some i ∧ el F i = f
theorem NI.zero (F : List Nat) (n : Nat) : NI F n 0 (List.replicate n 0) [] :=
  ⟨by simp, rfl, fun f _ => ⟨fun _ j hj => by omega, fun _ => el_zeros n f⟩, fun f _ h => by rw [el_zeros] at h; omega⟩
theorem sameF_lead {F : List Nat} {i : Nat} : leadS (sameF F) i = true ↔ ∀ j, j < i → el F j ≠ el F i := by
  rw [lead_iff]
  simp [sameF]
theorem NI.step {F : List Nat} {n k : Nat} {N : List Nat} {rows : Gr} (h : NI F n k N rows) (hf : el F k < n) :
    let N1 := if el N (el F k) = 0 then N.set (el F k) (rows.length + 1) else N
    let rows1 := if el N (el F k) = 0 then rows ++ [[]] else rows
    0 < el N1 (el F k) ∧ el N1 (el F k) - 1 < rows1.length ∧ NI F n (k + 1) N1 (rows1.set (el N1 (el F k) - 1) (rowG rows1 (el N1 (el F k) - 1) ++ [(k : Int)])) := by
  have hrl : rows.length = (ledS (sameF F) k).length := by rw [h.rows]; simp [grpI, grp2]
  by_cases h0 : el N (el F k) = 0
  · have hlead : leadS (sameF F) k = true := sameF_lead.2 ((h.no _ hf).1 h0)
    have hne : ∀ i, i < k → sameF F i k = false := fun i hi => by simp [sameF]; exact (h.no _ hf).1 h0 i hi
    dsimp only
    rw [if_pos h0, if_pos h0, el_set_self (by rw [h.len]; exact hf)]
    refine ⟨by omega, by simp, ⟨by simp [h.len], ?_, fun f hfn => ?_, fun f hfn hp => ?_⟩⟩
    · have e1 : rows.length + 1 - 1 = rows.length := by omega
      rw [e1]
      have e2 : rowG (rows ++ [[]]) rows.length = [] := by simp [rowG, List.getD]
      rw [e2]
      have e3 : (rows ++ [[]]).set rows.length ([] ++ [(k : Int)]) = rows ++ [[(k : Int)]] := by
        rw [List.set_append_right _ _ (by omega)]; simp
      rw [e3]
      unfold grpI grp2
      rw [led_succ, if_pos hlead, List.map_append]
      have e4 : (ledS (sameF F) k).map (memI (sameF F) (k + 1)) = rows := by
        rw [h.rows]
        unfold grpI grp2
        refine List.map_congr_left fun i hi => ?_
        have hi := (mem_led.1 hi).1
        rw [mem_succ, hne i hi]
        simp
      rw [e4]
      congr 1
      have e5 : memI (sameF F) k k = [] := by
        unfold memI
        have : (List.range k).filter (sameF F k) = [] := by
          rw [List.filter_eq_nil_iff]
          intro j hj
          have := hne j (by simpa using hj)
          simp [sameF] at this ⊢
          exact fun e => this e.symm
        rw [this]; rfl
      simp [mem_succ, e5, sameF]
    · by_cases e : el F k = f
      · subst e
        rw [el_set_self (by rw [h.len]; exact hf)]
        exact ⟨fun q => by omega, fun q => absurd rfl (q k (by omega))⟩
      · rw [el_set_other e, h.no f hfn]
        exact ⟨fun q j hj => by
          by_cases e2 : j = k
          · rw [e2]; exact e
          · exact q j (by omega), fun q j hj => q j (by omega)⟩
    · rw [led_succ, if_pos hlead]
      by_cases e : el F k = f
      · subst e
        rw [el_set_self (by rw [h.len]; exact hf)]
        refine ⟨k, ?_, rfl⟩
        rw [show rows.length + 1 - 1 = (ledS (sameF F) k).length by omega]
        simp
      · rw [el_set_other e] at hp ⊢
        obtain ⟨i, h1, h2⟩ := h.at_ f hfn hp
        exact ⟨i, by rw [List.getElem?_append_left (List.getElem?_eq_some_iff.1 h1).1]; exact h1, h2⟩
  · have hp : 0 < el N (el F k) := by omega
    dsimp only
    rw [if_neg h0, if_neg h0]
    obtain ⟨i0, hi0, hF0⟩ := h.at_ _ hf hp
    obtain ⟨p, hpe⟩ : ∃ p, el N (el F k) - 1 = p := ⟨_, rfl⟩
    rw [hpe] at hi0 ⊢
    obtain ⟨hpl, hi0'⟩ := List.getElem?_eq_some_iff.1 hi0
    have hi0m := List.mem_of_getElem? hi0
    have hi0k := (mem_led.1 hi0m).1
    have hnl : ¬ leadS (sameF F) k = true := fun q => sameF_lead.1 q i0 hi0k hF0
    refine ⟨hp, by omega, ⟨h.len, ?_, fun f hfn => ?_, fun f hfn hpf => ?_⟩⟩
    · unfold grpI grp2
      rw [led_succ, if_neg hnl, List.append_nil]
      apply List.ext_getElem
      · rw [List.length_set, hrl]; simp
      · intro idx h1 h2
        rw [List.length_set] at h1
        have hil : idx < (ledS (sameF F) k).length := by omega
        have hrow : rows[idx] = memI (sameF F) k ((ledS (sameF F) k)[idx]) := by
          have : rows[idx]? = some (memI (sameF F) k ((ledS (sameF F) k)[idx])) := by
            rw [h.rows]; simp [grpI, grp2, hil]
          exact (List.getElem?_eq_some_iff.1 this).2
        rw [List.getElem_map, mem_succ]
        by_cases e : p = idx
        · subst e
          rw [List.getElem_set_self]
          have hS : sameF F ((ledS (sameF F) k)[p]) k = true := by rw [hi0']; simp [sameF, hF0]
          rw [hS, if_pos rfl, ← hrow]
          congr 1
          simp [rowG, List.getD, h1]
        · rw [List.getElem_set_ne e]
          have hS : ¬ sameF F ((ledS (sameF F) k)[idx]) k = true := by
            intro q
            have q : el F ((ledS (sameF F) k)[idx]) = el F k := by simpa [sameF] using q
            have hm := mem_led.1 (List.getElem_mem hil)
            have hm0 := mem_led.1 hi0m
            have hne : (ledS (sameF F) k)[idx] ≠ i0 := fun e2 => (by
              rw [← hi0'] at e2
              have hnd := List.pairwise_iff_getElem.1 (led_nodup (sameF F) k)
              rcases Nat.lt_or_gt_of_ne e with h3 | h3
              · exact absurd e2.symm (hnd p idx hpl hil h3)
              · exact absurd e2 (hnd idx p hil hpl h3))
            rcases Nat.lt_or_ge ((ledS (sameF F) k)[idx]) i0 with h3 | h3
            · exact sameF_lead.1 hm0.2 _ h3 (q.trans hF0.symm)
            · exact sameF_lead.1 hm.2 i0 (by omega) (hF0.trans q.symm)
          rw [if_neg hS, List.append_nil, hrow]
    · rw [h.no f hfn]
      exact ⟨fun q j hj => by
        by_cases e2 : j = k
        · subst e2
          intro e
          exact q i0 hi0k (hF0.trans e)
        · exact q j (by omega), fun q j hj => q j (by omega)⟩
    · rw [led_succ, if_neg hnl, List.append_nil]
      exact h.at_ f hfn hpf

/-! ### as the document makes them -/
structure Eqv (S : Nat → Nat → Bool) (n : Nat) : Prop where
  rfl_ : ∀ i, i < n → S i i = true
  sym : ∀ i j, i < n → j < n → S i j = true → S j i = true
  trans : ∀ i j k, i < n → j < n → k < n → S i j = true → S j k = true → S i k = true
structure DI (S : Nat → Nat → Bool) (n i : Nat) (L : List Bool) (rows : Gr) : Prop where
  len : L.length = n
  rows : rows = grp2 S i n
  inn : ∀ k, k < n → (L.getD k false = true ↔ ∃ j, j < i ∧ S j k = true)
theorem DI.zero (S : Nat → Nat → Bool) (n : Nat) : DI S n 0 (List.replicate n false) [] :=
  ⟨by simp, rfl, fun k hk => by simp [List.getD, List.getElem?_replicate, hk]⟩
theorem DI.skip {S : Nat → Nat → Bool} {n i : Nat} {L : List Bool} {rows : Gr} (E : Eqv S n) (h : DI S n i L rows) (hi : i < n) (hb : L.getD i false = true) : DI S n (i + 1) L rows := by
  obtain ⟨j, hj, hs⟩ := (h.inn i hi).1 hb
  have hnl : ¬ leadS S i = true := fun q => by have := lead_iff.1 q j hj; rw [hs] at this; cases this
  refine ⟨h.len, ?_, fun k hk => ?_⟩
  · rw [h.rows]; unfold grp2; rw [led_succ, if_neg hnl, List.append_nil]
  · rw [h.inn k hk]
    constructor
    · rintro ⟨a, ha, hc⟩; exact ⟨a, by omega, hc⟩
    · rintro ⟨a, ha, hc⟩
      by_cases e : a = i
      · subst e; exact ⟨j, hj, E.trans j a k (by omega) hi hk hs hc⟩
      · exact ⟨a, by omega, hc⟩
/-- Within a group: those below k are gone through. -/
structure DJ (S : Nat → Nat → Bool) (n i k : Nat) (L0 L : List Bool) (l : List Int) : Prop where
  len : L.length = n
  l : l = memI S k i
  inn : ∀ y, y < n → (L.getD y false = true ↔ L0.getD y false = true ∨ y < k ∧ S i y = true)
theorem DJ.start {S : Nat → Nat → Bool} {n i : Nat} {L : List Bool} {rows : Gr} (E : Eqv S n) (h : DI S n i L rows) (hi : i < n) (hb : L.getD i false = false) : DJ S n i i L L [] := by
  have hno : ∀ j, j < i → S i j = false := fun j hj => by
    cases e : S i j with
    | false => rfl
    | true =>
      have := (h.inn i hi).2 ⟨j, hj, E.sym i j hi (by omega) e⟩
      rw [hb] at this; cases this
  refine ⟨h.len, ?_, fun y hy => ⟨.inl, fun q => q.elim id fun q => by rw [hno y q.1] at q; cases q.2⟩⟩
  unfold memI
  have : (List.range i).filter (S i) = [] := by
    rw [List.filter_eq_nil_iff]
    intro j hj
    rw [hno j (by simpa using hj)]; simp
  rw [this]; rfl
theorem DJ.yes {S : Nat → Nat → Bool} {n i k : Nat} {L0 L : List Bool} {l : List Int} (h : DJ S n i k L0 L l) (hk : k < n) (hs : S i k = true) : DJ S n i (k + 1) L0 (L.set k true) (l ++ [(k : Int)]) := by
  refine ⟨by simp [h.len], by rw [mem_succ, if_pos hs, h.l], fun y hy => ?_⟩
  by_cases e : k = y
  · subst e
    have : (L.set k true).getD k false = true := by simp [List.getD, show k < L.length by rw [h.len]; exact hk]
    rw [this]
    exact ⟨fun _ => .inr ⟨by omega, hs⟩, fun _ => rfl⟩
  · have : (L.set k true).getD y false = L.getD y false := by simp [List.getD, List.getElem?_set_ne e]
    rw [this, h.inn y hy]
    exact ⟨fun q => q.imp id fun q => ⟨by omega, q.2⟩, fun q => q.imp id fun q => ⟨by omega, q.2⟩⟩
theorem DJ.no {S : Nat → Nat → Bool} {n i k : Nat} {L0 L : List Bool} {l : List Int} (h : DJ S n i k L0 L l) (hs : S i k = false) : DJ S n i (k + 1) L0 L l := by
  refine ⟨h.len, by rw [mem_succ, hs]; simpa using h.l, fun y hy => ?_⟩
  rw [h.inn y hy]
  exact ⟨fun q => q.imp id fun q => ⟨by omega, q.2⟩, fun q => q.imp id fun q => ⟨by
    by_cases e : y = k
    · rw [e, hs] at q; cases q.2
    · omega, q.2⟩⟩
theorem DJ.done {S : Nat → Nat → Bool} {n i : Nat} {L0 L : List Bool} {l : List Int} {rows : Gr} (h0 : DI S n i L0 rows) (hi : i < n) (hb : L0.getD i false = false) (h : DJ S n i n L0 L l) : DI S n (i + 1) L (rows ++ [l]) := by
  have hl : leadS S i = true := lead_iff.2 fun j hj => by
    cases e : S j i with
    | false => rfl
    | true => have := (h0.inn i hi).2 ⟨j, hj, e⟩; rw [hb] at this; cases this
  refine ⟨h.len, ?_, fun y hy => ?_⟩
  · rw [h0.rows, h.l]; unfold grp2; rw [led_succ, if_pos hl, List.map_append]; rfl
  · rw [h.inn y hy, h0.inn y hy]
    constructor
    · rintro (⟨j, hj, hs⟩ | ⟨_, hs⟩)
      · exact ⟨j, by omega, hs⟩
      · exact ⟨i, by omega, hs⟩
    · rintro ⟨j, hj, hs⟩
      by_cases e : j = i
      · subst e; exact .inr ⟨hy, hs⟩
      · exact .inl ⟨j, by omega, hs⟩

end Go.Proofs.Ytdbjmonboecfgaa
