/- What the groups are: each node is in one, two are of one just where each reaches the other. No program. -/
import Derived.Test.YtdbjmonboecfgaaGof
namespace Go.Proofs.Ytdbjmonboecfgaa
set_option linter.unusedVariables false
set_option linter.unusedSimpArgs false

theorem mutB_eqv' (g : Gr) : Eqv (mutB g) g.length :=
  ⟨fun i hi => (mutB_iff hi hi).2 ⟨.refl, .refl⟩, fun i j hi hj h => by have := (mutB_iff hi hj).1 h; exact (mutB_iff hj hi).2 ⟨this.2, this.1⟩, fun i j k hi hj hk h1 h2 => by
    have a := (mutB_iff hi hj).1 h1
    have b := (mutB_iff hj hk).1 h2
    exact (mutB_iff hi hk).2 ⟨a.1.trans b.1, b.2.trans a.2⟩⟩
section
variable {S : Nat → Nat → Bool} {n : Nat}
theorem grp_row {i : Nat} (hi : i < (grpI S n).length) : ∃ r, (ledS S n)[i]? = some r ∧ rowG (grpI S n) i = memI S n r := by
  unfold grpI grp2 at hi ⊢
  rw [List.length_map] at hi
  refine ⟨(ledS S n)[i], by simp [hi], ?_⟩
  simp [rowG, List.getD, hi]
theorem mem_memI {r : Nat} {v : Int} : v ∈ memI S n r ↔ ∃ j : Nat, j < n ∧ S r j = true ∧ v = (j : Int) := by
  unfold memI
  rw [List.mem_map]
  constructor
  · rintro ⟨j, hj, rfl⟩
    rw [List.mem_filter, List.mem_range] at hj
    exact ⟨j, hj.1, hj.2, rfl⟩
  · rintro ⟨j, h1, h2, rfl⟩
    exact ⟨j, by rw [List.mem_filter, List.mem_range]; exact ⟨h1, h2⟩, rfl⟩
theorem grp_in {i : Nat} (hi : i < (grpI S n).length) {v : Int} (hv : v ∈ rowG (grpI S n) i) : ∃ j : Nat, v = (j : Int) ∧ j < n := by
  obtain ⟨r, _, h2⟩ := grp_row hi
  rw [h2] at hv
  obtain ⟨j, h3, _, h4⟩ := mem_memI.1 hv
  exact ⟨j, h4, h3⟩
theorem led_one (E : Eqv S n) {r r' : Nat} (h : r ∈ ledS S n) (h' : r' ∈ ledS S n) (hs : S r r' = true) : r = r' := by
  obtain ⟨h1, h2⟩ := mem_led.1 h
  obtain ⟨h3, h4⟩ := mem_led.1 h'
  rcases Nat.lt_trichotomy r r' with q | q | q
  · have := lead_iff.1 h4 r q; rw [hs] at this; cases this
  · exact q
  · have := lead_iff.1 h2 r' q; rw [E.sym r r' h1 h3 hs] at this; cases this
theorem grp_same (E : Eqv S n) {i i' : Nat} (hi : i < (grpI S n).length) (hi' : i' < (grpI S n).length) {x y : Nat} (hx : (x : Int) ∈ rowG (grpI S n) i) (hy : (y : Int) ∈ rowG (grpI S n) i') : i = i' ↔ S x y = true := by
  obtain ⟨r, h1, h2⟩ := grp_row hi
  obtain ⟨r', h1', h2'⟩ := grp_row hi'
  rw [h2] at hx
  rw [h2'] at hy
  obtain ⟨x', hx1, hx2, ex⟩ := mem_memI.1 hx
  obtain ⟨y', hy1, hy2, ey⟩ := mem_memI.1 hy
  obtain rfl : x = x' := by omega
  obtain rfl : y = y' := by omega
  have hr := List.mem_of_getElem? h1
  have hr' := List.mem_of_getElem? h1'
  have hrn := (mem_led.1 hr).1
  have hrn' := (mem_led.1 hr').1
  constructor
  · rintro rfl
    rw [h1] at h1'
    obtain rfl := Option.some.inj h1'
    exact E.trans x r y hx1 hrn hy1 (E.sym r x hrn hx1 hx2) hy2
  · intro hs
    have e := led_one E hr hr' (E.trans r y r' hrn hy1 hrn' (E.trans r x y hrn hx1 hy1 hx2 hs) (E.sym r' y hrn' hy1 hy2))
    subst e
    obtain ⟨a1, a2⟩ := List.getElem?_eq_some_iff.1 h1
    obtain ⟨b1, b2⟩ := List.getElem?_eq_some_iff.1 h1'
    have hnd := List.pairwise_iff_getElem.1 (led_nodup S n)
    rcases Nat.lt_trichotomy i i' with q | q | q
    · exact absurd (a2.trans b2.symm) (hnd i i' a1 b1 q)
    · exact q
    · exact absurd (b2.trans a2.symm) (hnd i' i b1 a1 q)
theorem grp_has (E : Eqv S n) {x : Nat} (hx : x < n) : ∃ i, i < (grpI S n).length ∧ (x : Int) ∈ rowG (grpI S n) i := by
  have key : ∀ (m r : Nat), r ≤ m → r < n → S r x = true → ∃ r', r' ∈ ledS S n ∧ S r' x = true := by
    intro m
    induction m with
    | zero =>
      intro r hr hrn hs
      obtain rfl : r = 0 := by omega
      exact ⟨0, mem_led.2 ⟨hrn, lead_iff.2 fun j hj => by omega⟩, hs⟩
    | succ m ih =>
      intro r hr hrn hs
      by_cases hl : leadS S r = true
      · exact ⟨r, mem_led.2 ⟨hrn, hl⟩, hs⟩
      · have : ∃ j, j < r ∧ S j r = true := by
          apply Classical.byContradiction
          intro q
          refine hl (lead_iff.2 fun j hj => ?_)
          cases e : S j r with
          | false => rfl
          | true => exact absurd ⟨j, hj, e⟩ q
        obtain ⟨j, hj, hjs⟩ := this
        exact ih j (by omega) (by omega) (E.trans j r x (by omega) hrn hx hjs hs)
  obtain ⟨r, hr, hs⟩ := key x x (Nat.le_refl _) hx (E.rfl_ x hx)
  obtain ⟨i, hi⟩ := List.getElem?_of_mem hr
  have hil : i < (grpI S n).length := by unfold grpI grp2; rw [List.length_map]; exact (List.getElem?_eq_some_iff.1 hi).1
  obtain ⟨r', h1, h2⟩ := grp_row hil
  rw [hi] at h1
  obtain rfl := Option.some.inj h1
  exact ⟨i, hil, by rw [h2]; exact mem_memI.2 ⟨x, hx, hs, rfl⟩⟩
end

/-- Which group each is in, so far: groups below i, and of group i the first j. -/
structure OI (L : Gr) (k i j : Nat) (O : List Nat) : Prop where
  len : O.length = k
  old : ∀ i', i' < i → ∀ v : Nat, (v : Int) ∈ rowG L i' → el O v = i'
  cur : ∀ v : Nat, (v : Int) ∈ (rowG L i).take j → el O v = i
theorem OI.zero (L : Gr) (k : Nat) : OI L k 0 0 (List.replicate k 0) := ⟨by simp, fun i' h => by omega, fun v h => by simp at h⟩
theorem OI.next {L : Gr} {k i j : Nat} {O : List Nat} (h : OI L k i j O) (hd : (∀ i i', i < L.length → i' < L.length → ∀ v : Nat, (v : Int) ∈ rowG L i → (v : Int) ∈ rowG L i' → i = i')) (hi : i < L.length) {v : Nat} (hv : (rowG L i)[j]? = some (v : Int)) (hk : v < k) : OI L k i (j + 1) (O.set v i) := by
  have hvm := List.mem_of_getElem? hv
  refine ⟨by simp [h.len], fun i' hi' u hu => ?_, fun u hu => ?_⟩
  · have : v ≠ u := fun e => by
      subst e
      have := hd i i' hi (by omega) v hvm hu
      omega
    rw [el_set_other this]; exact h.old i' hi' u hu
  · by_cases e : v = u
    · subst e; exact el_set_self (by rw [h.len]; exact hk)
    · rw [el_set_other e]
      rw [List.take_add_one, List.mem_append] at hu
      rcases hu with hu | hu
      · exact h.cur u hu
      · rw [hv] at hu
        have : (u : Int) = (v : Int) := by simpa using hu
        omega
theorem OI.turn {L : Gr} {k i : Nat} {O : List Nat} (h : OI L k i (rowG L i).length O) : OI L k (i + 1) 0 O :=
  ⟨h.len, fun i' hi' v hv => by
    by_cases e : i' = i
    · subst e; exact h.cur v (by rw [List.take_length]; exact hv)
    · exact h.old i' (by omega) v hv, fun v hv => by simp at hv⟩

end Go.Proofs.Ytdbjmonboecfgaa
