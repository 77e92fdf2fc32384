/- Graphs whose edges lead to earlier nodes alone: each node is a group. No program. -/
import Derived.Test.YtdbjmonboecfgaaVg
import Derived.Test.YtdbjmonboecfgaaGcm
namespace Go.Proofs.Ytdbjmonboecfgaa
set_option linter.unusedVariables false
set_option linter.unusedSimpArgs false

def Downs (g : Gr) : Prop := ∀ x y, x < g.length → ed g x y → y ≤ x
section
variable {g : Gr}
theorem downs_rch (h : Downs g) {x y : Nat} (hx : x < g.length) (hr : Rch g x y) : y ≤ x := by
  have := hr.keep (C := fun z => z ≤ x ∧ z < g.length) (fun a b ha he => ⟨Nat.le_trans (h a b ha.2 he) ha.1, he.2⟩) ⟨Nat.le_refl _, hx⟩
  exact this.1
theorem downs_groups (h : Downs g) : grpL g = (List.range g.length).map fun i : Nat => [(i : Int)] := by
  have e : grpL g = grpI (fun i j => i == j) g.length := by
    unfold grpL grpI
    refine grp2_congr (Nat.le_refl _) fun i j hi hj => ?_
    rw [Bool.eq_iff_iff, mutB_iff hi hj]
    constructor
    · rintro ⟨h1, h2⟩
      have := downs_rch h hi h1
      have := downs_rch h hj h2
      simp; omega
    · intro q
      have : i = j := by simpa using q
      subst this
      exact ⟨.refl, .refl⟩
  rw [e]
  unfold grpI grp2
  have hl : ledS (fun i j => i == j) g.length = List.range g.length := by
    unfold ledS
    rw [List.filter_eq_self]
    intro i _
    rw [lead_iff]
    intro j hj
    simp; omega
  rw [hl]
  refine List.map_congr_left fun i hi => ?_
  unfold memI
  rw [filter_one _ _ (by simpa using hi)]
  rfl
theorem downs_len (h : Downs g) : (grpL g).length = g.length := by rw [downs_groups h]; simp
theorem downs_gof (h : Downs g) {x : Nat} (hx : x < g.length) : gof g x = x := by
  rw [← gof_iff hx (by rw [downs_len h]; exact hx), downs_groups h]
  simp [rowG, List.getD, hx]
theorem downs_gE (h : Downs g) {i j : Nat} : gE g i j ↔ i ≠ j ∧ i < g.length ∧ ed g i j := by
  unfold gE
  constructor
  · rintro ⟨h1, x, y, hx, he, rfl, rfl⟩
    rw [downs_gof h hx, downs_gof h he.2] at *
    exact ⟨h1, hx, he⟩
  · rintro ⟨h1, hi, he⟩
    exact ⟨h1, i, j, hi, he, downs_gof h hi, downs_gof h he.2⟩
/-- Levels are told by what fits. -/
theorem downs_lv (h : Downs g) {f : Nat → Nat} (h1 : ∀ i j, i ≠ j → i < g.length → ed g i j → f j + 1 ≤ f i) (h2 : ∀ i, i < g.length → f i = 0 ∨ ∃ j, i ≠ j ∧ ed g i j ∧ f i = f j + 1) : lvL g = (List.range g.length).map f := by
  refine ext_el (by rw [lvL_len, downs_len h]; simp) fun i hi => ?_
  rw [lvL_len] at hi
  rw [lvL_el hi]
  rw [downs_len h] at hi
  rw [el_rangemap hi]
  refine (lv_one (f := f) (fun i j he => ?_) (fun i hi => ?_) (by rw [downs_len h]; exact hi)).symm
  · obtain ⟨q1, q2, q3⟩ := (downs_gE h).1 he
    exact h1 i j q1 q2 q3
  · rw [downs_len h] at hi
    rcases h2 i hi with q | ⟨j, q1, q2, q3⟩
    · exact .inl q
    · exact .inr ⟨j, (downs_gE h).2 ⟨q1, hi, q2⟩, q3⟩
end
theorem lv_awake : lvL [[], [0]] = [0, 1] := by
  have hd : Downs [[], [0]] := by
    rintro x y hx ⟨h1, h2⟩
    match x, hx with
    | 0, _ => simp [rowG] at h1
    | 1, _ => simp [rowG] at h1; omega
  have := downs_lv hd (f := fun i => i) (fun i j hn hi he => by
    have := hd i j hi he; omega) (fun i hi => by
    match i, hi with
    | 0, _ => exact .inl rfl
    | 1, _ => exact .inr ⟨0, by omega, ⟨by simp [rowG], by simp⟩, rfl⟩)
  rw [this]; rfl
theorem gr_awake : (grpL [[], [0]]).length = 2 := by
  have := lvL_len [[], [0]]
  rw [lv_awake] at this
  exact this.symm

end Go.Proofs.Ytdbjmonboecfgaa
