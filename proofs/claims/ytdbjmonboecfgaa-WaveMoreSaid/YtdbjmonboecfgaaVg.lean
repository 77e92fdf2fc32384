/- Groups that lead to one another: edges between them, levels. No program. -/
import Derived.Test.YtdbjmonboecfgaaVm
import Derived.Test.YtdbjmonboecfgaaGgf
namespace Go.Proofs.Ytdbjmonboecfgaa
set_option linter.unusedVariables false
set_option linter.unusedSimpArgs false

/-- In which group a node is. -/
noncomputable def gof (g : Gr) (x : Nat) : Nat := @dite _ (∃ i, i < (grpL g).length ∧ (x : Int) ∈ rowG (grpL g) i) (Classical.propDecidable _) (fun h => Classical.choose h) (fun _ => 0)
section
variable {g : Gr}
theorem gof_spec {x : Nat} (hx : x < g.length) : gof g x < (grpL g).length ∧ (x : Int) ∈ rowG (grpL g) (gof g x) := by
  have h : ∃ i, i < (grpL g).length ∧ (x : Int) ∈ rowG (grpL g) i := grp_has (mutB_eqv' g) hx
  have := Classical.choose_spec h
  unfold gof
  rw [dif_pos h]
  exact this
theorem gof_lt {x : Nat} (hx : x < g.length) : gof g x < (grpL g).length := (gof_spec hx).1
theorem gof_mem {x : Nat} (hx : x < g.length) : (x : Int) ∈ rowG (grpL g) (gof g x) := (gof_spec hx).2
theorem gof_iff {x i : Nat} (hx : x < g.length) (hi : i < (grpL g).length) : (x : Int) ∈ rowG (grpL g) i ↔ gof g x = i := by
  obtain ⟨h1, h2⟩ := gof_spec hx
  constructor
  · intro h
    exact (grp_same (mutB_eqv' g) h1 hi h2 h).2 ((mutB_eqv' g).rfl_ x hx)
  · rintro rfl; exact h2
theorem gof_eq {x y : Nat} (hx : x < g.length) (hy : y < g.length) : gof g x = gof g y ↔ Rch g x y ∧ Rch g y x := by
  rw [← mutB_iff hx hy]
  obtain ⟨h1, h2⟩ := gof_spec hx
  obtain ⟨h3, h4⟩ := gof_spec hy
  exact grp_same (mutB_eqv' g) h1 h3 h2 h4
theorem grp_node {i : Nat} (hi : i < (grpL g).length) : ∃ x, x < g.length ∧ gof g x = i := by
  obtain ⟨r, h1, h2⟩ := grp_row hi
  have hr := mem_led.1 (List.mem_of_getElem? h1)
  refine ⟨r, hr.1, (gof_iff hr.1 hi).1 ?_⟩
  show (r : Int) ∈ rowG (grpI _ _) i
  rw [h2]
  exact mem_memI.2 ⟨r, hr.1, (mutB_eqv' g).rfl_ r hr.1, rfl⟩
theorem grp_at {i : Nat} (hi : i < (grpL g).length) {v : Int} (hv : v ∈ rowG (grpL g) i) : ∃ x : Nat, v = (x : Int) ∧ x < g.length ∧ gof g x = i := by
  obtain ⟨x, h1, h2⟩ := grp_in hi hv
  exact ⟨x, h1, h2, (gof_iff h2 hi).1 (by rw [← h1]; exact hv)⟩
end
noncomputable def gofL (g : Gr) : List Nat := (List.range g.length).map (gof g)
theorem gofL_len (g : Gr) : (gofL g).length = g.length := by unfold gofL; simp
theorem gofL_el {g : Gr} {x : Nat} (hx : x < g.length) : el (gofL g) x = gof g x := el_rangemap hx
theorem OI.done {g : Gr} {O : List Nat} (h : OI (grpL g) g.length (grpL g).length 0 O) : O = gofL g := by
  refine ext_el (by rw [h.len, gofL_len]) fun i hi => ?_
  rw [h.len] at hi
  rw [gofL_el hi]
  exact h.old _ (gof_lt hi) i (gof_mem hi)

/-- One group leads to another one. -/
def gE (g : Gr) (i j : Nat) : Prop := i ≠ j ∧ ∃ x y, x < g.length ∧ ed g x y ∧ gof g x = i ∧ gof g y = j
noncomputable def gEB (g : Gr) (i j : Nat) : Bool := @decide (gE g i j) (Classical.propDecidable _)
theorem gEB_iff {g : Gr} {i j : Nat} : gEB g i j = true ↔ gE g i j := by
  unfold gEB; rw [@decide_eq_true_iff _ (Classical.propDecidable _)]
theorem gE.lt {g : Gr} {i j : Nat} (h : gE g i j) : i < (grpL g).length ∧ j < (grpL g).length := by
  obtain ⟨_, x, y, hx, he, rfl, rfl⟩ := h
  exact ⟨gof_lt hx, gof_lt he.2⟩
theorem cnt_le {l : List Nat} {p q : Nat → Bool} (h : ∀ a ∈ l, p a = true → q a = true) : l.countP p ≤ l.countP q := by
  induction l with
  | nil => simp
  | cons x l ih =>
    have := ih fun a ha => h a (by simp [ha])
    have h2 := h x (by simp)
    simp only [List.countP_cons]
    cases e : p x <;> cases e2 : q x <;> simp_all <;> omega
theorem cnt_lt {l : List Nat} {p q : Nat → Bool} (h : ∀ a ∈ l, p a = true → q a = true) {a : Nat} (ha : a ∈ l) (hp : p a = false) (hq : q a = true) : l.countP p < l.countP q := by
  induction l with
  | nil => simp at ha
  | cons x l ih =>
    have h1 := cnt_le (l := l) (p := p) (q := q) fun a ha => h a (by simp [ha])
    have h2 := h x (by simp)
    simp only [List.countP_cons]
    rcases List.mem_cons.1 ha with rfl | hm
    · rw [hp, hq]; simp; omega
    · have := ih (fun a ha => h a (by simp [ha])) hm
      cases e : p x <;> cases e2 : q x <;> simp_all <;> omega
noncomputable def rkG (g : Gr) (i : Nat) : Nat := (List.range (grpL g).length).countP fun k => @decide (∃ x y, x < g.length ∧ y < g.length ∧ gof g x = i ∧ gof g y = k ∧ Rch g x y) (Classical.propDecidable _)
theorem ranked (g : Gr) : Ranked (gEB g) (grpL g).length (rkG g) := by
  refine ⟨fun i j hi hj he => ?_, fun i => Nat.le_trans List.countP_le_length (by simp)⟩
  obtain ⟨hne, x, y, hx, hed, rfl, rfl⟩ := gEB_iff.1 he
  have hy := hed.2
  refine cnt_lt (fun k _ hk => ?_) (a := gof g x) (by rw [List.mem_range]; exact hi) ?_ ?_
  · rw [@decide_eq_true_iff _ (Classical.propDecidable _)] at hk ⊢
    obtain ⟨a, b, ha, hb, h1, h2, h3⟩ := hk
    exact ⟨x, b, hx, hb, rfl, h2, ((Rch.one hed).trans ((gof_eq ha hy).1 h1).2).trans h3⟩
  · rw [@decide_eq_false_iff_not _ (Classical.propDecidable _)]
    rintro ⟨a, b, ha, hb, h1, h2, h3⟩
    refine hne ((gof_eq hx hy).2 ⟨.one hed, ?_⟩)
    exact (((gof_eq ha hy).1 h1).2.trans h3).trans ((gof_eq hb hx).1 h2).1
  · rw [@decide_eq_true_iff _ (Classical.propDecidable _)]
    exact ⟨x, x, hx, hx, rfl, rfl, .refl⟩
/-- The level of each group. -/
noncomputable def lvF (g : Gr) (i : Nat) : Nat := levI (gEB g) (grpL g).length i
noncomputable def lvL (g : Gr) : List Nat := (List.range (grpL g).length).map (lvF g)
theorem lvL_len (g : Gr) : (lvL g).length = (grpL g).length := by unfold lvL; simp
theorem lvL_el {g : Gr} {i : Nat} (h : i < (grpL g).length) : el (lvL g) i = lvF g i := el_rangemap h
theorem lv_lt {g : Gr} {i j : Nat} (h : gE g i j) : lvF g j + 1 ≤ lvF g i := levI_lt (ranked g) h.lt.1 h.lt.2 (gEB_iff.2 h)
theorem lv_at {g : Gr} {i : Nat} (hi : i < (grpL g).length) : lvF g i = 0 ∨ ∃ j, gE g i j ∧ lvF g i = lvF g j + 1 := by
  rcases levI_at (ranked g) hi with h | ⟨j, h1, h2, h3⟩
  · exact .inl h
  · exact .inr ⟨j, gEB_iff.1 h2, h3⟩
theorem lv_le (g : Gr) (i : Nat) : lvF g i ≤ (grpL g).length := levI_le i
theorem lv_one {g : Gr} {f : Nat → Nat} (h1 : ∀ i j, gE g i j → f j + 1 ≤ f i) (h2 : ∀ i, i < (grpL g).length → f i = 0 ∨ ∃ j, gE g i j ∧ f i = f j + 1) {i : Nat} (hi : i < (grpL g).length) : f i = lvF g i :=
  lev_one (ranked g) (fun i j _ _ he => h1 i j (gEB_iff.1 he)) (fun i hi => by
    rcases h2 i hi with h | ⟨j, q1, q2⟩
    · exact .inl h
    · exact .inr ⟨j, q1.lt.2, gEB_iff.2 q1, q2⟩) _ i (Nat.le_refl _) hi

/-! ### the edges that were found so far -/
abbrev PL := List (Nat × Nat)
structure BI (g : Gr) (x j : Nat) (P : PL) : Prop where
  nd : P.Nodup
  iff_ : ∀ s t, (s, t) ∈ P ↔ s ≠ t ∧ ∃ a b, a < g.length ∧ ed g a b ∧ gof g a = s ∧ gof g b = t ∧ (a < x ∨ a = x ∧ (b : Int) ∈ (rowG g x).take j)
section
variable {g : Gr} {x j : Nat} {P : PL}
theorem BI.zero (g : Gr) : BI g 0 0 [] := ⟨List.nodup_nil, fun s t => by simp⟩
theorem BI.lt (h : BI g x j P) {s t : Nat} (hp : (s, t) ∈ P) : s < (grpL g).length ∧ t < (grpL g).length := by
  obtain ⟨_, a, b, ha, hb, rfl, rfl, _⟩ := (h.iff_ s t).1 hp
  exact ⟨gof_lt ha, gof_lt hb.2⟩
theorem BI.done (h : BI g g.length 0 P) {s t : Nat} : (s, t) ∈ P ↔ gE g s t := by
  rw [h.iff_]
  constructor
  · rintro ⟨hn, a, b, ha, hb, h1, h2, _⟩; exact ⟨hn, a, b, ha, hb, h1, h2⟩
  · rintro ⟨hn, a, b, ha, hb, h1, h2⟩; exact ⟨hn, a, b, ha, hb, h1, h2, .inl ha⟩
theorem mem_take_succ {l : List Int} {j : Nat} {Y v : Int} (hY : l[j]? = some Y) : v ∈ l.take (j + 1) ↔ v ∈ l.take j ∨ v = Y := by
  rw [List.take_add_one, hY, List.mem_append]; simp
/-- The edge makes nothing new: it leads nowhere, or within its group, or it was there. -/
theorem BI.skip (h : BI g x j P) (hx : x < g.length) {Y : Int} (hY : (rowG g x)[j]? = some Y) (hs : ∀ y : Nat, Y = (y : Int) → y < g.length → gof g x ≠ gof g y → (gof g x, gof g y) ∈ P) : BI g x (j + 1) P := by
  refine ⟨h.nd, fun s t => ?_⟩
  constructor
  · intro hp
    obtain ⟨hn, a, b, ha, hb, h1, h2, h3⟩ := (h.iff_ s t).1 hp
    exact ⟨hn, a, b, ha, hb, h1, h2, h3.imp id fun q => ⟨q.1, (mem_take_succ hY).2 (.inl q.2)⟩⟩
  · rintro ⟨hn, a, b, ha, hb, h1, h2, h3⟩
    rcases h3 with h3 | ⟨rfl, h4⟩
    · exact (h.iff_ s t).2 ⟨hn, a, b, ha, hb, h1, h2, .inl h3⟩
    · rcases (mem_take_succ hY).1 h4 with h4 | h4
      · exact (h.iff_ s t).2 ⟨hn, a, b, ha, hb, h1, h2, .inr ⟨rfl, h4⟩⟩
      · rw [← h1, ← h2]
        exact hs b h4.symm hb.2 (by rw [h1, h2]; exact hn)
theorem BI.new (h : BI g x j P) (hx : x < g.length) {y : Nat} (hY : (rowG g x)[j]? = some (y : Int)) (hy : y < g.length) (hn : gof g x ≠ gof g y) (hp : (gof g x, gof g y) ∉ P) : BI g x (j + 1) (P ++ [(gof g x, gof g y)]) := by
  refine ⟨by rw [List.nodup_append]; exact ⟨h.nd, by simp, fun a ha b hb e => by simp at hb; subst hb; subst e; exact hp ha⟩, fun s t => ?_⟩
  rw [List.mem_append]
  constructor
  · rintro (hq | hq)
    · obtain ⟨hn, a, b, ha, hb, h1, h2, h3⟩ := (h.iff_ s t).1 hq
      exact ⟨hn, a, b, ha, hb, h1, h2, h3.imp id fun q => ⟨q.1, (mem_take_succ hY).2 (.inl q.2)⟩⟩
    · simp only [List.mem_singleton, Prod.mk.injEq] at hq
      obtain ⟨rfl, rfl⟩ := hq
      exact ⟨hn, x, y, hx, ⟨List.mem_of_getElem? hY, hy⟩, rfl, rfl, .inr ⟨rfl, (mem_take_succ hY).2 (.inr rfl)⟩⟩
  · rintro ⟨hst, a, b, ha, hb, h1, h2, h3⟩
    rcases h3 with h3 | ⟨rfl, h4⟩
    · exact .inl ((h.iff_ s t).2 ⟨hst, a, b, ha, hb, h1, h2, .inl h3⟩)
    · rcases (mem_take_succ hY).1 h4 with h4 | h4
      · exact .inl ((h.iff_ s t).2 ⟨hst, a, b, ha, hb, h1, h2, .inr ⟨rfl, h4⟩⟩)
      · right
        have : b = y := by omega
        subst this
        simp [h1, h2]
theorem BI.turn (h : BI g x (rowG g x).length P) : BI g (x + 1) 0 P := by
  refine ⟨h.nd, fun s t => ?_⟩
  rw [h.iff_]
  constructor
  · rintro ⟨hn, a, b, ha, hb, h1, h2, h3⟩
    exact ⟨hn, a, b, ha, hb, h1, h2, .inl (by omega)⟩
  · rintro ⟨hn, a, b, ha, hb, h1, h2, h3⟩
    rcases h3 with h3 | ⟨_, h4⟩
    · by_cases e : a < x
      · exact ⟨hn, a, b, ha, hb, h1, h2, .inl e⟩
      · have : a = x := by omega
        subst this
        exact ⟨hn, a, b, ha, hb, h1, h2, .inr ⟨rfl, by rw [List.take_length]; exact hb.1⟩⟩
    · simp at h4
end
/-- Of each group those that lead to it. -/
def fromR (P : PL) (t : Nat) : List Int := (P.filter fun p => p.2 == t).map fun p => (p.1 : Int)
def fromL (m : Nat) (P : PL) : Gr := (List.range m).map (fromR P)
def leftN (P : PL) (s : Nat) : Nat := P.countP fun p => p.1 == s
def leftL (m : Nat) (P : PL) : List Nat := (List.range m).map (leftN P)
section
variable {m : Nat} {P : PL}
theorem fromL_len : (fromL m P).length = m := by unfold fromL; simp
theorem leftL_len : (leftL m P).length = m := by unfold leftL; simp
theorem fromL_row {t : Nat} (ht : t < m) : rowG (fromL m P) t = fromR P t := by unfold fromL rowG; simp [List.getD, ht]
theorem leftL_el {s : Nat} (hs : s < m) : el (leftL m P) s = leftN P s := el_rangemap hs
theorem fromL_nil : fromL m [] = List.replicate m [] := by
  apply List.ext_getElem (by simp [fromL])
  intro i h1 h2; simp [fromL, fromR]
theorem leftL_nil : leftL m [] = List.replicate m 0 := by
  apply List.ext_getElem (by simp [leftL])
  intro i h1 h2; simp [leftL, leftN]
theorem fromL_add {s t : Nat} (ht : t < m) : fromL m (P ++ [(s, t)]) = (fromL m P).set t (rowG (fromL m P) t ++ [(s : Int)]) := by
  rw [fromL_row ht]
  apply List.ext_getElem (by simp [fromL])
  intro i h1 h2
  rw [List.getElem_set]
  have him : i < m := by rw [fromL_len] at h1; exact h1
  by_cases e : t = i
  · subst e; simp [fromL, fromR, List.filter_append]
  · rw [if_neg e]
    simp [fromL, fromR, List.filter_append, e]
theorem leftL_add {s t : Nat} (hs : s < m) : leftL m (P ++ [(s, t)]) = (leftL m P).set s (el (leftL m P) s + 1) := by
  refine ext_el (by simp [leftL]) fun i hi => ?_
  have him : i < m := by rw [leftL_len] at hi; exact hi
  rw [leftL_el him, leftL_el hs]
  by_cases e : s = i
  · subst e
    rw [el_set_self (by rw [leftL_len]; exact hs)]
    simp [leftN, List.countP_append]
  · rw [el_set_other e, leftL_el him]
    simp [leftN, List.countP_append, e]
theorem fromR_len_le (t : Nat) : (fromR P t).length ≤ P.length := by unfold fromR; rw [List.length_map]; exact List.length_filter_le _ _
theorem leftN_le (s : Nat) : leftN P s ≤ P.length := List.countP_le_length
theorem mem_fromR {t : Nat} {v : Int} : v ∈ fromR P t ↔ ∃ s : Nat, v = (s : Int) ∧ (s, t) ∈ P := by
  unfold fromR
  rw [List.mem_map]
  constructor
  · rintro ⟨⟨a, b⟩, h1, rfl⟩
    rw [List.mem_filter] at h1
    have : b = t := by simpa using h1.2
    subst this
    exact ⟨a, rfl, h1.1⟩
  · rintro ⟨s, rfl, h⟩
    exact ⟨(s, t), by rw [List.mem_filter]; exact ⟨h, by simp⟩, rfl⟩
end

end Go.Proofs.Ytdbjmonboecfgaa
