/- More mathematics of finding and uniting: one operation alone; a chain. No program. -/
import Derived.Test.YthhcchdjeeigpaaDoorCufm
namespace Go.Proofs.YthhcchdjeeigpaaDoor
set_option linter.unusedVariables false
set_option linter.unusedSimpArgs false

/-- How many steps are left at most, alone, of a task. -/
def mes (pr : List Int) (n : Nat) (t : Tk) : Nat :=
  if t.dn then 0
  else if t.st = 1 then 3 * hgt pr n t.u + 1 + (if t.k = 1 then 0 else 3 * n)
  else if t.st = 2 then 3 * hgt pr n t.u + (if t.k = 1 then 0 else 3 * n)
  else if t.st = 3 then 3 * hgt pr n t.u - 1 + (if t.k = 1 then 0 else 3 * n)
  else if t.st = 4 then 3 * hgt pr n t.v + 2
  else if t.st = 5 then 3 * hgt pr n t.v + 1
  else if t.st = 6 then 3 * hgt pr n t.v
  else 1

/-- An operation alone: what holds ahead of each of its steps. -/
structure Alone (n : Nat) (pr : List Int) (was up : List Nat) (k x y : Nat) (t : Tk) : Prop where
  W : For n pr was
  F : For n pr up
  I : Inv n pr up t
  tk : t.k = k
  tx : t.x = x
  ty : t.y = y
  on : t.dn = false → (∀ j, j < n → rtu up j = rtu was j) ∧ (t.st ≤ 3 → rtu was t.u = rtu was x ∧ t.v = y) ∧ (4 ≤ t.st → t.u = rtu was x ∧ rtu was t.v = rtu was y) ∧ (7 ≤ t.st → t.v = rtu was y ∧ t.u ≠ t.v)
  fin : t.dn = true → (k = 1 → (∀ j, j < n → rtu up j = rtu was j) ∧ t.res = rtu was x) ∧
    (k = 2 → (∀ j, j < n → rtu up j = rtu was j) ∧ t.res = if rtu was x = rtu was y then 1 else 0) ∧
    (k = 3 → (rtu was x = rtu was y → (∀ j, j < n → rtu up j = rtu was j) ∧ t.res = 0) ∧
      (rtu was x ≠ rtu was y → t.res = 1 ∧ ∃ c, (c = rtu was x ∨ c = rtu was y) ∧ ∀ j, j < n → rtu up j = if rtu was j = rtu was x ∨ rtu was j = rtu was y then c else rtu was j))

theorem alone_new {n : Nat} {pr : List Int} {was : List Nat} {k x y : Nat} (W : For n pr was) (h1 : 1 ≤ k) (h3 : k ≤ 3) (hx : x < n) (hy : y < n) : Alone n pr was was k x y ⟨k, x, y, 1, x, y, 0, 0, false, 0⟩ :=
  ⟨W, W, inv_new h1 h3 hx hy, rfl, rfl, rfl, fun _ => ⟨fun _ _ => rfl, fun _ => ⟨rfl, rfl⟩, fun h => absurd h (by show ¬ 4 ≤ 1; omega), fun h => absurd h (by show ¬ 7 ≤ 1; omega)⟩, fun h => by cases h⟩
theorem mes_new {n : Nat} {pr : List Int} {k x y : Nat} (hx : x < n) : mes pr n ⟨k, x, y, 1, x, y, 0, 0, false, 0⟩ ≤ 3 * n + (if k = 1 then 0 else 3 * n) := by
  have := hgt_lt_n (pr := pr) hx
  simp only [mes]
  simp
  omega

/-- A root stays one where no root changes. -/
theorem root_stays {n : Nat} {pr : List Int} {was up : List Nat} (W : For n pr was) (F : For n pr up) (h : ∀ j, j < n → rtu up j = rtu was j) {x : Nat} (hx : x < n) : el up (rtu was x) = rtu was x := by
  have h1 := W.rt_spec hx
  have h2 := h _ h1.2
  have h3 := F.rt_spec h1.2
  rw [h2, W.rt_idem hx] at h3
  exact h3.1

theorem alone_step {n : Nat} {pr : List Int} {was up : List Nat} {k x y : Nat} {t : Tk} (A : Alone n pr was up k x y t) (hx : x < n) (hy : y < n) (hd : t.dn = false) :
    Alone n pr was (ups up pr t) k x y (tks up pr t) ∧ mes pr n (tks up pr t) < mes pr n t := by
  obtain ⟨F', I', D⟩ := step_ok A.F A.I
  obtain ⟨W, F, I, htk, htx, hty, hon, _⟩ := A
  obtain ⟨same, h13, h46, h78⟩ := hon hd
  obtain ⟨k', x', y', st, u, v, w, r, dn, res⟩ := t
  dsimp only at hd htk htx hty h13 h46 h78
  subst hd htk htx hty
  have keep : (¬ (st = 8 ∧ (tks up pr ⟨k', x', y', st, u, v, w, r, false, res⟩).dn = true)) → ∀ j, j < n → rtu (ups up pr ⟨k', x', y', st, u, v, w, r, false, res⟩) j = rtu was j := fun hne j hj => by
    rcases D with ⟨_, h⟩ | ⟨h, _⟩
    · rw [(h j hj).2, same j hj]
    · exact absurd ⟨h.1, h.2.2⟩ hne
  have hst : st = 1 ∨ st = 2 ∨ st = 3 ∨ st = 4 ∨ st = 5 ∨ st = 6 ∨ st = 7 ∨ st = 8 := by have := I.s1; have := I.s8; dsimp only at *; omega
  have hk : k' = 1 ∨ k' = 2 ∨ k' = 3 := by have := I.k1; have := I.k3; dsimp only at *; omega
  have un := I.un
  have vn := I.vn
  have wn := I.wn
  have rn := I.rn
  dsimp only at un vn wn rn
  have rsx := root_stays W F same hx
  have rsy := root_stays W F same hy
  rcases hst with rfl | rfl | rfl | rfl | rfl | rfl | rfl | rfl
  · obtain ⟨e1, rfl⟩ := h13 (by omega)
    have kp := keep (by simp)
    by_cases e : el up u = u
    · have e2 : u = rtu was x' := by rw [← e1, ← same u un, F.rt_self un e]
      have hv := hgt_lt_n (pr := pr) vn
      refine ⟨⟨W, F', I', ?_, ?_, ?_, ?_, ?_⟩, ?_⟩
      all_goals rcases hk with rfl | rfl | rfl <;> simp [tks, e, Tk.fst, Tk.fin, mes]
      all_goals first | exact ⟨kp, e2⟩ | exact ⟨kp, e2, trivial⟩ | omega | (refine ⟨kp, ?_⟩; first | exact e2 | exact ⟨e2, rfl⟩)
    · have hb := (F.ok u un).resolve_left e
      have hh := hgt_lt (n := n) hb (F.lt u un)
      refine ⟨⟨W, F', I', ?_, ?_, ?_, ?_, ?_⟩, ?_⟩
      all_goals simp [tks, e, mes]
      · exact ⟨kp, e1⟩
  · obtain ⟨e1, rfl⟩ := h13 (by omega)
    have kp := keep (by simp)
    obtain ⟨a1, a2⟩ := I.a rfl (.inl rfl)
    dsimp only at a1 a2
    have hh := hgt_lt (n := n) a1 wn
    have ew : rtu was w = rtu was x' := by rw [← same w wn, a2, same u un, e1]
    have hv := hgt_lt_n (pr := pr) vn
    by_cases e : el up w = w
    · have e2 : w = rtu was x' := by rw [← ew, ← same w wn, F.rt_self wn e]
      refine ⟨⟨W, F', I', ?_, ?_, ?_, ?_, ?_⟩, ?_⟩
      all_goals rcases hk with rfl | rfl | rfl <;> simp [tks, e, Tk.fst, Tk.fin, mes]
      all_goals first | exact ⟨kp, e2⟩ | exact ⟨kp, e2, trivial⟩ | omega | (refine ⟨kp, ?_⟩; first | exact e2 | exact ⟨e2, rfl⟩)
    · refine ⟨⟨W, F', I', ?_, ?_, ?_, ?_, ?_⟩, ?_⟩
      all_goals simp [tks, e, mes]
      · exact ⟨kp, e1⟩
      · omega
  · obtain ⟨e1, rfl⟩ := h13 (by omega)
    have kp := keep (by simp)
    obtain ⟨a1, a2⟩ := I.a rfl (.inr rfl)
    dsimp only at a1 a2
    have hh := hgt_lt (n := n) a1 wn
    have ew : rtu was w = rtu was x' := by rw [← same w wn, a2, same u un, e1]
    refine ⟨⟨W, F', I', ?_, ?_, ?_, ?_, ?_⟩, ?_⟩
    all_goals simp [tks, mes]
    · exact ⟨kp, ew⟩
    · omega
  · obtain ⟨e1, e2⟩ := h46 (by omega)
    have kp := keep (by simp)
    have hk1 := I.kk (Nat.le_refl _)
    dsimp only at hk1
    by_cases e : el up v = v
    · have e3 : v = rtu was y' := by rw [← e2, ← same v vn, F.rt_self vn e]
      by_cases e4 : u = v
      · have e5 : rtu was x' = rtu was y' := by rw [← e1, ← e3, e4]
        refine ⟨⟨W, F', I', ?_, ?_, ?_, ?_, ?_⟩, ?_⟩
        all_goals rcases hk with rfl | rfl | rfl <;> simp [tks, e, e4, Tk.snd, Tk.fin, mes, e5]
        all_goals first | exact kp | omega
      · refine ⟨⟨W, F', I', ?_, ?_, ?_, ?_, ?_⟩, ?_⟩
        all_goals rcases hk with rfl | rfl | rfl <;> simp [tks, e, e4, Tk.snd, Tk.fin, mes]
        all_goals first | exact ⟨kp, ⟨e1, e2⟩, e3⟩ | omega
    · refine ⟨⟨W, F', I', ?_, ?_, ?_, ?_, ?_⟩, ?_⟩
      all_goals simp [tks, e, mes]
      · exact ⟨kp, e1, e2⟩
  · obtain ⟨e1, e2⟩ := h46 (by omega)
    have kp := keep (by simp)
    have hk1 := I.kk (by show 4 ≤ 5; omega)
    dsimp only at hk1
    obtain ⟨a1, a2⟩ := I.c rfl (.inl rfl)
    dsimp only at a1 a2
    have hh := hgt_lt (n := n) a1 wn
    have ew : rtu was w = rtu was y' := by rw [← same w wn, a2, same v vn, e2]
    by_cases e : el up w = w
    · have e3 : w = rtu was y' := by rw [← ew, ← same w wn, F.rt_self wn e]
      by_cases e4 : u = w
      · have e5 : rtu was x' = rtu was y' := by rw [← e1, ← e3, e4]
        refine ⟨⟨W, F', I', ?_, ?_, ?_, ?_, ?_⟩, ?_⟩
        all_goals rcases hk with rfl | rfl | rfl <;> simp [tks, e, e4, Tk.snd, Tk.fin, mes, e5]
        all_goals first | exact kp | omega
      · refine ⟨⟨W, F', I', ?_, ?_, ?_, ?_, ?_⟩, ?_⟩
        all_goals rcases hk with rfl | rfl | rfl <;> simp [tks, e, e4, Tk.snd, Tk.fin, mes]
        all_goals first | exact ⟨kp, ⟨e1, ew⟩, e3⟩ | omega
    · refine ⟨⟨W, F', I', ?_, ?_, ?_, ?_, ?_⟩, ?_⟩
      all_goals simp [tks, e, mes]
      · exact ⟨kp, e1, e2⟩
  · obtain ⟨e1, e2⟩ := h46 (by omega)
    have kp := keep (by simp)
    obtain ⟨a1, a2⟩ := I.c rfl (.inr rfl)
    dsimp only at a1 a2
    have hh := hgt_lt (n := n) a1 wn
    have ew : rtu was w = rtu was y' := by rw [← same w wn, a2, same v vn, e2]
    refine ⟨⟨W, F', I', ?_, ?_, ?_, ?_, ?_⟩, ?_⟩
    all_goals simp [tks, mes]
    · exact ⟨kp, e1, ew⟩
    · omega
  · obtain ⟨e1, e2⟩ := h46 (by omega)
    obtain ⟨e3, e4⟩ := h78 (by omega)
    have kp := keep (by simp)
    have hk2 := I.k7 rfl
    dsimp only at hk2
    subst hk2
    have e : el up u = u := by rw [e1]; exact rsx
    have e5 : ¬ rtu was x' = rtu was y' := by rw [← e1, ← e3]; exact e4
    refine ⟨⟨W, F', I', ?_, ?_, ?_, ?_, ?_⟩, ?_⟩
    all_goals simp [tks, e, Tk.fin, mes, e5]
    exact kp
  · obtain ⟨e1, e2⟩ := h46 (by omega)
    obtain ⟨e3, e4⟩ := h78 (by omega)
    have hk2 := I.k8 rfl
    dsimp only at hk2
    subst hk2
    have eu : el up u = u := by rw [e1]; exact rsx
    have ev : el up v = v := by rw [e3]; exact rsy
    have e5 : ¬ rtu was x' = rtu was y' := by rw [← e1, ← e3]; exact e4
    have ru : rtu up u = u := F.rt_self un eu
    have rv : rtu up v = v := F.rt_self vn ev
    by_cases hb : bel pr u v
    · have J := (F.join un vn hb eu).rt
      refine ⟨⟨W, F', I', ?_, ?_, ?_, ?_, ?_⟩, ?_⟩
      all_goals simp [tks, eu, ev, hb, Tk.fin, mes, e5, ups]
      refine .inr fun j hj => ?_
      rw [J j hj, same j hj, rv, e1, e3]
      by_cases p : rtu was j = rtu was x'
      · simp [p]
      · by_cases q : rtu was j = rtu was y'
        · simp [q]
        · simp [p, q]
    · have J := (F.join vn un (bel_total e4 hb) ev).rt
      refine ⟨⟨W, F', I', ?_, ?_, ?_, ?_, ?_⟩, ?_⟩
      all_goals simp [tks, eu, ev, hb, Tk.fin, mes, e5, ups]
      refine .inl fun j hj => ?_
      rw [J j hj, same j hj, ru, e1, e3]
      by_cases p : rtu was j = rtu was x'
      · simp [p]
      · by_cases q : rtu was j = rtu was y'
        · simp [q]
        · simp [p, q]

end Go.Proofs.YthhcchdjeeigpaaDoor
