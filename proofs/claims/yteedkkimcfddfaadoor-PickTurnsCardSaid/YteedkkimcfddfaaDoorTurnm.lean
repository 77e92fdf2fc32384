/- The plain mathematics of the law PickTurns: who comes in turn. No program. -/
import Derived.Test.YteedkkimcfddfaaDoorPickm
namespace Go.Proofs.YteedkkimcfddfaaDoor

theorem take_all_le (en : List Bool) (k : Nat) (hk : k < (on 0 en).length) : ∀ x ∈ (on 0 en).take (k + 1), (x : Int) ≤ ((on 0 en).getD k 0 : Nat) := by
  have hp := on_pairwise en 0
  rw [List.pairwise_iff_getElem] at hp
  intro x hx
  obtain ⟨i, hi, rfl⟩ := List.getElem_of_mem hx
  have hi1 : i < (on 0 en).length := by simp at hi; omega
  have hi2 : i ≤ k := by simp at hi; omega
  rw [List.getElem_take, List.getD_eq_getElem?_getD, List.getElem?_eq_getElem hk]
  simp
  rcases Nat.lt_or_eq_of_le hi2 with h | h
  · have := hp i k hi1 hk h; omega
  · subst h; exact Nat.le_refl _

/-- Who comes t-th, if the j0-th comes first. -/
def turn (en : List Bool) (j0 t : Nat) : Nat := (on 0 en).getD ((j0 + t) % (on 0 en).length) 0

theorem turn_mem (en : List Bool) (j0 t : Nat) (h : 0 < (on 0 en).length) : turn en j0 t ∈ on 0 en := by
  unfold turn
  have := Nat.mod_lt (j0 + t) h
  rw [List.getD_eq_getElem?_getD, List.getElem?_eq_getElem this]; simp

theorem turn_on (en : List Bool) (j0 t : Nat) (h : 0 < (on 0 en).length) : turn en j0 t < en.length ∧ en.getD (turn en j0 t) false = true := by
  have := on_range en 0 _ (turn_mem en j0 t h)
  exact ⟨by omega, by simpa using this.2.2⟩

theorem behind_first (en : List Bool) (l : Int) (_h : 0 < (on 0 en).length) : ∃ j0, behindI en l = (turn en j0 0 : Nat) := by
  have key : ∀ x ∈ on 0 en, ∃ j0, x = turn en j0 0 := by
    intro x hx
    obtain ⟨i, hi, rfl⟩ := List.getElem_of_mem hx
    refine ⟨i, ?_⟩
    unfold turn
    rw [Nat.add_zero, Nat.mod_eq_of_lt hi, List.getD_eq_getElem?_getD, List.getElem?_eq_getElem hi]; rfl
  unfold behindI
  split
  · rename_i x hx
    obtain ⟨j0, hj⟩ := key x (List.mem_of_find?_eq_some hx)
    exact ⟨j0, by rw [hj]⟩
  · refine ⟨0, ?_⟩
    unfold turn; simp

/-- How often x came in t turns. -/
def came (en : List Bool) (j0 x : Nat) : Nat → Nat
  | 0 => 0
  | t + 1 => came en j0 x t + if turn en j0 t = x then 1 else 0

theorem came_le (en : List Bool) (j0 x t : Nat) : came en j0 x t ≤ t := by
  induction t with
  | zero => exact Nat.le_refl _
  | succ t ih => simp only [came]; split <;> omega

theorem came_off (en : List Bool) (j0 x t : Nat) (h : 0 < (on 0 en).length) (hx : en.getD x false = false) : came en j0 x t = 0 := by
  induction t with
  | zero => rfl
  | succ t ih =>
    have := turn_on en j0 t h
    simp only [came, ih]
    rw [if_neg (by rintro rfl; rw [hx] at this; exact absurd this.2 (by simp))]

theorem mod_step (c d t : Nat) (hd : d < c) : (t + 1 + c - 1 - d) / c = (t + c - 1 - d) / c + if t % c = d then 1 else 0 := by
  have hq := Nat.div_add_mod t c
  have hr := Nat.mod_lt t (by omega : 0 < c)
  generalize t / c = q at hq
  generalize t % c = r at hq hr
  subst hq
  rcases Nat.lt_trichotomy r d with h | h | h
  · rw [if_neg (by omega)]
    have e1 : c * q + r + 1 + c - 1 - d = (r + c - d) + c * q := by omega
    have e2 : c * q + r + c - 1 - d = (r + c - 1 - d) + c * q := by omega
    rw [e1, e2, Nat.add_mul_div_left _ _ (by omega), Nat.add_mul_div_left _ _ (by omega), Nat.div_eq_of_lt (by omega), Nat.div_eq_of_lt (by omega)]; omega
  · subst h
    rw [if_pos rfl]
    have e1 : c * q + r + 1 + c - 1 - r = c * (q + 1) := by rw [Nat.mul_add]; omega
    have e2 : c * q + r + c - 1 - r = (c - 1) + c * q := by omega
    rw [e1, e2, Nat.mul_div_cancel_left _ (by omega), Nat.add_mul_div_left _ _ (by omega), Nat.div_eq_of_lt (by omega)]; omega
  · rw [if_neg (by omega)]
    have e1 : c * q + r + 1 + c - 1 - d = (r - d) + c * (q + 1) := by rw [Nat.mul_add]; omega
    have e2 : c * q + r + c - 1 - d = (r - 1 - d) + c * (q + 1) := by rw [Nat.mul_add]; omega
    rw [e1, e2, Nat.add_mul_div_left _ _ (by omega), Nat.add_mul_div_left _ _ (by omega), Nat.div_eq_of_lt (by omega), Nat.div_eq_of_lt (by omega)]; omega

theorem mod_shift (c j0 t j : Nat) (hc : 0 < c) (hj : j < c) : (j0 + t) % c = j ↔ t % c = (j + (c - j0 % c)) % c := by
  have h1 := Nat.div_add_mod j0 c
  have h2 := Nat.mod_lt j0 hc
  have h3 := Nat.div_add_mod t c
  have h4 := Nat.mod_lt t hc
  generalize j0 / c = q0 at h1
  generalize t / c = q1 at h3
  generalize j0 % c = r0 at h1 h2 ⊢
  generalize t % c = r1 at h3 h4 ⊢
  have e : (j0 + t) % c = (r0 + r1) % c := by
    rw [← h1, ← h3, show c * q0 + r0 + (c * q1 + r1) = (r0 + r1) + c * (q0 + q1) from by rw [Nat.mul_add]; omega, Nat.add_mul_mod_self_left]
  rw [e]
  have m1 : (r0 + r1) % c = if r0 + r1 < c then r0 + r1 else r0 + r1 - c := by
    split
    · exact Nat.mod_eq_of_lt ‹_›
    · rw [Nat.mod_eq_sub_mod (by omega), Nat.mod_eq_of_lt (by omega)]
  have m2 : (j + (c - r0)) % c = if j + (c - r0) < c then j + (c - r0) else j + (c - r0) - c := by
    split
    · exact Nat.mod_eq_of_lt ‹_›
    · rw [Nat.mod_eq_sub_mod (by omega), Nat.mod_eq_of_lt (by omega)]
  rw [m1, m2]
  split <;> split <;> omega

theorem came_on (en : List Bool) (j0 x : Nat) (hx : en.getD x false = true) : came en j0 x (3 * (on 0 en).length) = 3 := by
  have hmem : x ∈ on 0 en := by have := mem_on en 0 x hx; rwa [Nat.zero_add] at this
  obtain ⟨j, hj, hjx⟩ := List.getElem_of_mem hmem
  have hc : 0 < (on 0 en).length := by omega
  -- the turns in which x comes
  have hiff : ∀ t, turn en j0 t = x ↔ t % (on 0 en).length = (j + ((on 0 en).length - j0 % (on 0 en).length)) % (on 0 en).length := by
    intro t
    have hm := Nat.mod_lt (j0 + t) hc
    have hinj : turn en j0 t = x ↔ (j0 + t) % (on 0 en).length = j := by
      unfold turn
      rw [List.getD_eq_getElem?_getD, List.getElem?_eq_getElem hm, ← hjx]
      simp only [Option.getD_some]
      have hp := on_pairwise en 0
      rw [List.pairwise_iff_getElem] at hp
      constructor
      · intro he
        rcases Nat.lt_trichotomy ((j0 + t) % (on 0 en).length) j with h | h | h
        · have := hp _ _ hm hj h; omega
        · exact h
        · have := hp _ _ hj hm h; omega
      · intro he; simp only [he]
    rw [hinj]
    exact mod_shift _ j0 t j hc hj
  have hd := Nat.mod_lt (j + ((on 0 en).length - j0 % (on 0 en).length)) hc
  generalize (j + ((on 0 en).length - j0 % (on 0 en).length)) % (on 0 en).length = d at hiff hd
  have hform : ∀ t, came en j0 x t = (t + (on 0 en).length - 1 - d) / (on 0 en).length := by
    intro t
    induction t with
    | zero => simp only [came]; rw [Nat.div_eq_of_lt (by omega)]
    | succ t ih =>
      rw [mod_step _ d t hd, ← ih]
      simp only [came]
      congr 1
      by_cases h : turn en j0 t = x
      · rw [if_pos h, if_pos ((hiff t).1 h)]
      · rw [if_neg h, if_neg (fun h' => h ((hiff t).2 h'))]
  rw [hform, show 3 * (on 0 en).length + (on 0 en).length - 1 - d = ((on 0 en).length - 1 - d) + (on 0 en).length * 3 from by omega, Nat.add_mul_div_left _ _ hc, Nat.div_eq_of_lt (by omega)]

/-- What stands in came behind t turns. -/
def cameL (en : List Bool) (j0 t : Nat) : List Int := (List.range en.length).map fun x => (came en j0 x t : Int)

theorem cameL_length (en : List Bool) (j0 t : Nat) : (cameL en j0 t).length = en.length := by simp [cameL]
theorem cameL_zero (en : List Bool) (j0 : Nat) : cameL en j0 0 = List.replicate en.length 0 := by
  apply List.ext_getElem
  · simp [cameL]
  · intro i h1 h2; simp [cameL, came]
theorem cameL_get (en : List Bool) (j0 t x : Nat) (h : x < en.length) : (cameL en j0 t)[x]? = some (came en j0 x t : Int) := by simp [cameL, h]
theorem cameL_set (en : List Bool) (j0 t : Nat) : (cameL en j0 t).set (turn en j0 t) ((came en j0 (turn en j0 t) t : Int) + 1) = cameL en j0 (t + 1) := by
  apply List.ext_getElem
  · simp [cameL]
  · intro i h1 h2
    rw [List.getElem_set]
    simp only [cameL, List.getElem_map, List.getElem_range, came]
    by_cases h : turn en j0 t = i
    · subst h; simp
    · simp [h]

end Go.Proofs.YteedkkimcfddfaaDoor
