/- Mathematics of cells whose elements have priorities (a forest), of their roots, and of tasks that find and unite step by step: no program. -/
import Derived.Test.YthhcchdjeeigpaaDoorPartm
namespace Go.Proofs.YthhcchdjeeigpaaDoor
set_option linter.unusedVariables false
set_option linter.unusedSimpArgs false

def pri (pr : List Int) (x : Nat) : Int := pr.getD x 0
/-- Is x below y? -/
def bel (pr : List Int) (x y : Nat) : Prop := pri pr x < pri pr y ∨ (pri pr x = pri pr y ∧ x < y)
instance (pr : List Int) (x y : Nat) : Decidable (bel pr x y) := by unfold bel; infer_instance

theorem bel_irr {pr : List Int} {x : Nat} : ¬ bel pr x x := by unfold bel; omega
theorem bel_trans {pr : List Int} {x y z : Nat} (h1 : bel pr x y) (h2 : bel pr y z) : bel pr x z := by unfold bel at *; omega
theorem bel_total {pr : List Int} {x y : Nat} (h : x ≠ y) (h2 : ¬ bel pr x y) : bel pr y x := by unfold bel at *; omega

/-- How many elements are above x. -/
def hgt (pr : List Int) (n x : Nat) : Nat := (List.range n).countP (fun z => decide (bel pr x z))
theorem hgt_succ (pr : List Int) (n x : Nat) : hgt pr (n + 1) x = hgt pr n x + if bel pr x n then 1 else 0 := by
  unfold hgt; rw [List.range_succ, List.countP_append]; simp [List.countP_cons]
theorem hgt_self (pr : List Int) (x : Nat) : ∀ n, hgt pr n x + (if x < n then 1 else 0) ≤ n
  | 0 => by simp [hgt]
  | n + 1 => by
    have ih := hgt_self pr x n
    rw [hgt_succ]
    by_cases e : x = n
    · subst e
      rw [if_neg bel_irr]
      split at ih <;> split <;> omega
    · split <;> split <;> split at ih <;> omega
theorem hgt_lt_n {pr : List Int} {n x : Nat} (h : x < n) : hgt pr n x < n := by
  have := hgt_self pr x n
  rw [if_pos h] at this; omega
theorem hgt_step {pr : List Int} {x y : Nat} (h : bel pr x y) : ∀ n, hgt pr n y + (if y < n then 1 else 0) ≤ hgt pr n x
  | 0 => by simp [hgt]
  | n + 1 => by
    have ih := hgt_step h n
    rw [hgt_succ, hgt_succ]
    by_cases e : y = n
    · subst e
      rw [if_neg bel_irr, if_pos h]
      split at ih <;> split <;> omega
    · by_cases e2 : bel pr y n
      · rw [if_pos e2, if_pos (bel_trans h e2)]
        split at ih <;> split <;> omega
      · rw [if_neg e2]
        split at ih <;> split <;> split <;> omega
theorem hgt_lt {pr : List Int} {n x y : Nat} (h : bel pr x y) (hy : y < n) : hgt pr n y < hgt pr n x := by
  have := hgt_step h n
  rw [if_pos hy] at this; omega

/-- Cells that may be. -/
structure For (n : Nat) (pr : List Int) (up : List Nat) : Prop where
  len : up.length = n
  lt : ∀ x, x < n → el up x < n
  ok : ∀ x, x < n → el up x = x ∨ bel pr x (el up x)

def root (up : List Nat) : Nat → Nat → Nat
  | 0, x => x
  | f + 1, x => if el up x = x then x else root up f (el up x)
def rtu (up : List Nat) (x : Nat) : Nat := root up up.length x

section
variable {n : Nat} {pr : List Int} {up : List Nat}
theorem For.root_spec (F : For n pr up) : ∀ f x, x < n → hgt pr n x ≤ f → el up (root up f x) = root up f x ∧ root up f x < n
  | 0, x, hx, h => by
    refine ⟨?_, hx⟩
    rcases F.ok x hx with e | e
    · exact e
    · have := hgt_lt e (F.lt x hx); omega
  | f + 1, x, hx, h => by
    unfold root
    split
    · next e => exact ⟨e, hx⟩
    · next e =>
      have hb := (F.ok x hx).resolve_left e
      have := hgt_lt hb (F.lt x hx)
      exact For.root_spec F f _ (F.lt x hx) (by omega)
theorem For.root_fuel (F : For n pr up) : ∀ f g x, x < n → hgt pr n x ≤ f → hgt pr n x ≤ g → root up f x = root up g x
  | 0, 0, x, _, _, _ => rfl
  | 0, g + 1, x, hx, h1, h2 => by
    have e : el up x = x := by
      rcases F.ok x hx with e | e
      · exact e
      · have := hgt_lt e (F.lt x hx); omega
    simp [root, e]
  | f + 1, 0, x, hx, h1, h2 => by
    have e : el up x = x := by
      rcases F.ok x hx with e | e
      · exact e
      · have := hgt_lt e (F.lt x hx); omega
    simp [root, e]
  | f + 1, g + 1, x, hx, h1, h2 => by
    unfold root
    split
    · rfl
    · next e =>
      have hb := (F.ok x hx).resolve_left e
      have := hgt_lt hb (F.lt x hx)
      exact For.root_fuel F f g _ (F.lt x hx) (by omega) (by omega)
theorem For.rt_spec (F : For n pr up) {x : Nat} (hx : x < n) : el up (rtu up x) = rtu up x ∧ rtu up x < n :=
  F.root_spec _ x hx (by rw [F.len]; exact Nat.le_of_lt (hgt_lt_n hx))
theorem For.rt_self {x : Nat} (F : For n pr up) (hx : x < n) (h : el up x = x) : rtu up x = x := by
  unfold rtu
  rw [F.root_fuel _ (n + 1) x hx (by rw [F.len]; exact Nat.le_of_lt (hgt_lt_n hx)) (by have := hgt_lt_n (pr := pr) hx; omega)]
  simp [root, h]
theorem For.rt_step (F : For n pr up) {x : Nat} (hx : x < n) : rtu up (el up x) = rtu up x := by
  by_cases e : el up x = x
  · rw [e]
  · have hb := (F.ok x hx).resolve_left e
    have h1 := hgt_lt hb (F.lt x hx)
    have h2 := hgt_lt_n (pr := pr) hx
    unfold rtu
    rw [F.len, F.root_fuel n (n + 1) x hx (by omega) (by omega)]
    simp [root, e]
theorem For.rt_idem (F : For n pr up) {x : Nat} (hx : x < n) : rtu up (rtu up x) = rtu up x := F.rt_self (F.rt_spec hx).2 (F.rt_spec hx).1
/-- What is kept along each step is kept up to the root. -/
theorem For.rt_uniq {α : Type} (F : For n pr up) (g : Nat → α) (hg : ∀ x, x < n → g (el up x) = g x) : ∀ f x, x < n → g (root up f x) = g x
  | 0, x, hx => rfl
  | f + 1, x, hx => by
    unfold root
    split
    · rfl
    · rw [For.rt_uniq F g hg f _ (F.lt x hx), hg x hx]
theorem For.rt_bel (F : For n pr up) : ∀ f x, x < n → root up f x = x ∨ bel pr x (root up f x)
  | 0, x, hx => .inl rfl
  | f + 1, x, hx => by
    unfold root
    split
    · exact .inl rfl
    · next e =>
      have hb := (F.ok x hx).resolve_left e
      rcases For.rt_bel F f _ (F.lt x hx) with h | h
      · rw [h]; exact .inr hb
      · exact .inr (bel_trans hb h)
theorem For.rt_above (F : For n pr up) {x : Nat} (hx : x < n) : rtu up x = x ∨ bel pr x (rtu up x) := F.rt_bel _ x hx

/-- No root changes. -/
def Keep (n : Nat) (up up' : List Nat) : Prop := ∀ j, j < n → (el up' j = j ↔ el up j = j) ∧ rtu up' j = rtu up j
/-- The root a is under b. -/
structure Won (n : Nat) (up up' : List Nat) (a b : Nat) : Prop where
  an : a < n
  bn : b < n
  was : el up a = a
  is : el up' a ≠ a
  oth : ∀ j, j ≠ a → el up' j = el up j
  ne : rtu up b ≠ a
  rt : ∀ x, x < n → rtu up' x = if rtu up x = a then rtu up b else rtu up x

theorem Keep.refl (n : Nat) (up : List Nat) : Keep n up up := fun _ _ => ⟨Iff.rfl, rfl⟩

theorem For.hang (F : For n pr up) {a b : Nat} (ha : a < n) (hb : b < n) (h : bel pr a b) : For n pr (up.set a b) := by
  have e1 : el (up.set a b) a = b := el_set_self (by rw [F.len]; exact ha)
  refine ⟨by simp [F.len], fun x hx => ?_, fun x hx => ?_⟩
  · by_cases e : a = x
    · subst e; rw [e1]; exact hb
    · rw [el_set_other e]; exact F.lt x hx
  · by_cases e : a = x
    · subst e; rw [e1]; exact .inr h
    · rw [el_set_other e]; exact F.ok x hx

theorem For.compress (F : For n pr up) {a b : Nat} (ha : a < n) (hb : b < n) (h : bel pr a b) (hr : rtu up b = rtu up a) : Keep n up (up.set a b) := by
  have F' := F.hang ha hb h
  have e1 : el (up.set a b) a = b := el_set_self (by rw [F.len]; exact ha)
  have hab : b ≠ a := fun e => bel_irr (e ▸ h)
  have hna : el up a ≠ a := fun e => by
    have h1 := F.rt_self ha e
    rw [h1] at hr
    rcases F.rt_above hb with h2 | h2
    · exact hab (h2.symm.trans hr)
    · rw [hr] at h2; exact bel_irr (bel_trans h h2)
  have hs : ∀ x, x < n → rtu up (el (up.set a b) x) = rtu up x := fun x hx => by
    by_cases e : a = x
    · subst e; rw [e1, hr]
    · rw [el_set_other e]; exact F.rt_step hx
  refine fun j hj => ⟨?_, ?_⟩
  · by_cases e : a = j
    · subst e; rw [e1]; exact ⟨fun h => absurd h hab, fun h => absurd h hna⟩
    · rw [el_set_other e]
  · have h1 : rtu up (rtu (up.set a b) j) = rtu up j := F'.rt_uniq (rtu up) hs _ j hj
    obtain ⟨h2, h3⟩ := F'.rt_spec hj
    rw [← h1]
    by_cases e : a = rtu (up.set a b) j
    · rw [← e, e1] at h2; exact absurd h2 hab
    · rw [el_set_other e] at h2
      exact (F.rt_self h3 h2).symm

theorem For.join (F : For n pr up) {a b : Nat} (ha : a < n) (hb : b < n) (h : bel pr a b) (hr : el up a = a) : Won n up (up.set a b) a b := by
  have F' := F.hang ha hb h
  have e1 : el (up.set a b) a = b := el_set_self (by rw [F.len]; exact ha)
  have hab : b ≠ a := fun e => bel_irr (e ▸ h)
  have hne : rtu up b ≠ a := fun e => by
    rcases F.rt_above hb with h2 | h2
    · exact hab (h2.symm.trans e)
    · rw [e] at h2; exact bel_irr (bel_trans h h2)
  refine ⟨ha, hb, hr, by rw [e1]; exact hab, fun j hj => el_set_other (Ne.symm hj), hne, fun x hx => ?_⟩
  have hs : ∀ x, x < n → (fun z => if rtu up z = a then rtu up b else rtu up z) (el (up.set a b) x) = (fun z => if rtu up z = a then rtu up b else rtu up z) x := fun x hx => by
    by_cases e : a = x
    · subst e
      simp only [e1, F.rt_self ha hr, if_pos]
      rw [if_neg hne]
    · simp only [el_set_other e, F.rt_step hx]
  have h1 := F'.rt_uniq (fun z => if rtu up z = a then rtu up b else rtu up z) hs (up.set a b).length x hx
  obtain ⟨h2, h3⟩ := F'.rt_spec hx
  have h4 : a ≠ rtu (up.set a b) x := fun e => by rw [← e, e1] at h2; exact hab h2
  rw [el_set_other h4] at h2
  have h5 := F.rt_self h3 h2
  have h6 : root (up.set a b) (up.set a b).length x = rtu (up.set a b) x := rfl
  simp only [h6, h5] at h1
  rw [if_neg (Ne.symm h4)] at h1
  exact h1
end

/-- A task: its operation (k, x, y), its step, what it has found, whether it is done, its result. -/
structure Tk where
  k : Nat
  x : Nat
  y : Nat
  st : Nat
  u : Nat
  v : Nat
  w : Nat
  r : Nat
  dn : Bool
  res : Nat

def Tk.fin (t : Tk) (r : Nat) : Tk := { t with dn := true, res := r }
def Tk.fst (t : Tk) : Tk := if t.k = 1 then t.fin t.u else { t with st := 4 }
def Tk.snd (t : Tk) : Tk := if t.u = t.v then (if t.k = 2 then t.fin 1 else t.fin 0) else { t with st := if t.k = 2 then 7 else 8 }

/-- The cells behind a step. -/
def ups (up : List Nat) (pr : List Int) (t : Tk) : List Nat :=
  if t.dn then up
  else if t.st = 3 then (if el up t.u = t.w then up.set t.u t.r else up)
  else if t.st = 6 then (if el up t.v = t.w then up.set t.v t.r else up)
  else if t.st = 8 then (if bel pr t.u t.v then (if el up t.u = t.u then up.set t.u t.v else up) else (if el up t.v = t.v then up.set t.v t.u else up))
  else up
/-- The task behind it. -/
def tks (up : List Nat) (pr : List Int) (t : Tk) : Tk :=
  if t.dn then t
  else if t.st = 1 then (if el up t.u = t.u then ({ t with w := t.u } : Tk).fst else { t with w := el up t.u, st := 2 })
  else if t.st = 2 then (if el up t.w = t.w then ({ t with r := t.w, u := t.w } : Tk).fst else { t with r := el up t.w, st := 3 })
  else if t.st = 3 then { t with u := t.w, st := 1 }
  else if t.st = 4 then (if el up t.v = t.v then ({ t with w := t.v } : Tk).snd else { t with w := el up t.v, st := 5 })
  else if t.st = 5 then (if el up t.w = t.w then ({ t with r := t.w, v := t.w } : Tk).snd else { t with r := el up t.w, st := 6 })
  else if t.st = 6 then { t with v := t.w, st := 4 }
  else if t.st = 7 then (if el up t.u = t.u then ({ t with w := t.u } : Tk).fin 0 else { t with w := el up t.u, st := 1 })
  else if t.st = 8 then (if bel pr t.u t.v then (if el up t.u = t.u then t.fin 1 else { t with st := 1 }) else (if el up t.v = t.v then t.fin 1 else { t with st := 1 }))
  else t

/-- What holds of a task that came of its beginning, and of steps. -/
structure Inv (n : Nat) (pr : List Int) (up : List Nat) (t : Tk) : Prop where
  k1 : 1 ≤ t.k
  k3 : t.k ≤ 3
  xn : t.x < n
  yn : t.y < n
  un : t.u < n
  vn : t.v < n
  wn : t.w < n
  rn : t.r < n
  s1 : 1 ≤ t.st
  s8 : t.st ≤ 8
  kk : 4 ≤ t.st → t.k ≠ 1
  k7 : t.st = 7 → t.k = 2
  k8 : t.st = 8 → t.k = 3
  a : t.dn = false → (t.st = 2 ∨ t.st = 3) → bel pr t.u t.w ∧ rtu up t.w = rtu up t.u
  b : t.dn = false → t.st = 3 → bel pr t.w t.r ∧ rtu up t.r = rtu up t.w
  c : t.dn = false → (t.st = 5 ∨ t.st = 6) → bel pr t.v t.w ∧ rtu up t.w = rtu up t.v
  d : t.dn = false → t.st = 6 → bel pr t.w t.r ∧ rtu up t.r = rtu up t.w
  e : t.dn = false → t.st = 8 → t.u ≠ t.v

theorem Inv.mono {n : Nat} {pr : List Int} {up up' : List Nat} {t : Tk} (h : Inv n pr up t) (hm : ∀ x y, x < n → y < n → rtu up x = rtu up y → rtu up' x = rtu up' y) : Inv n pr up' t :=
  ⟨h.k1, h.k3, h.xn, h.yn, h.un, h.vn, h.wn, h.rn, h.s1, h.s8, h.kk, h.k7, h.k8, fun p q => ⟨(h.a p q).1, hm _ _ h.wn h.un (h.a p q).2⟩, fun p q => ⟨(h.b p q).1, hm _ _ h.rn h.wn (h.b p q).2⟩,
   fun p q => ⟨(h.c p q).1, hm _ _ h.wn h.vn (h.c p q).2⟩, fun p q => ⟨(h.d p q).1, hm _ _ h.rn h.wn (h.d p q).2⟩, h.e⟩

theorem inv_new {n : Nat} {pr : List Int} {up : List Nat} {k x y : Nat} (h1 : 1 ≤ k) (h3 : k ≤ 3) (hx : x < n) (hy : y < n) : Inv n pr up ⟨k, x, y, 1, x, y, 0, 0, false, 0⟩ :=
  ⟨h1, h3, hx, hy, hx, hy, by show 0 < n; omega, by show 0 < n; omega, Nat.le_refl _, by show 1 ≤ 8; omega, fun h => absurd h (by show ¬ 4 ≤ 1; omega), fun h => absurd h (by show ¬ 1 = 7; omega), fun h => absurd h (by show ¬ 1 = 8; omega),
   fun _ h => absurd h (by show ¬ (1 = 2 ∨ 1 = 3); omega), fun _ h => absurd h (by show ¬ 1 = 3; omega), fun _ h => absurd h (by show ¬ (1 = 5 ∨ 1 = 6); omega), fun _ h => absurd h (by show ¬ 1 = 6; omega), fun _ h => absurd h (by show ¬ 1 = 8; omega)⟩

theorem merge_keep {n : Nat} {up up' : List Nat} (h : Keep n up up') : ∀ x y, x < n → y < n → rtu up x = rtu up y → rtu up' x = rtu up' y := fun x y hx hy e => by rw [(h x hx).2, (h y hy).2, e]
theorem merge_won {n : Nat} {up up' : List Nat} {a b : Nat} (h : Won n up up' a b) : ∀ x y, x < n → y < n → rtu up x = rtu up y → rtu up' x = rtu up' y := fun x y hx hy e => by rw [h.rt x hx, h.rt y hy, e]

/-- What a step does to the cells. -/
def Did (n : Nat) (up up' : List Nat) (t t' : Tk) : Prop :=
  (¬ (t.st = 8 ∧ t.dn = false ∧ t'.dn = true) ∧ Keep n up up') ∨ ((t.st = 8 ∧ t.dn = false ∧ t'.dn = true) ∧ ∃ a b, Won n up up' a b)

theorem Did.merge {n : Nat} {up up' : List Nat} {t t' : Tk} (h : Did n up up' t t') : ∀ x y, x < n → y < n → rtu up x = rtu up y → rtu up' x = rtu up' y := by
  rcases h with ⟨_, h⟩ | ⟨_, a, b, h⟩
  · exact merge_keep h
  · exact merge_won h
theorem Did.idem {n : Nat} {pr : List Int} {up up' : List Nat} {t t' : Tk} (F : For n pr up) (h : Did n up up' t t') {x : Nat} (hx : x < n) : rtu up' (rtu up x) = rtu up' x :=
  h.merge _ _ (F.rt_spec hx).2 hx (F.rt_idem hx)

theorem step_ok {n : Nat} {pr : List Int} {up : List Nat} {t : Tk} (F : For n pr up) (I : Inv n pr up t) :
    For n pr (ups up pr t) ∧ Inv n pr (ups up pr t) (tks up pr t) ∧ Did n up (ups up pr t) t (tks up pr t) := by
  obtain ⟨k, x, y, st, u, v, w, r, dn, res⟩ := t
  obtain ⟨k1, k3, xn, yn, un, vn, wn, rn, s1, s8, kk, k7, k8, ha, hb, hc, hd, he⟩ := I
  dsimp only at k1 k3 xn yn un vn wn rn s1 s8 kk k7 k8 ha hb hc hd he
  cases dn with
  | true =>
    simp only [ups, tks, if_true]
    exact ⟨F, ⟨k1, k3, xn, yn, un, vn, wn, rn, s1, s8, kk, k7, k8, ha, hb, hc, hd, he⟩, .inl ⟨by simp, Keep.refl _ _⟩⟩
  | false =>
    have hst : st = 1 ∨ st = 2 ∨ st = 3 ∨ st = 4 ∨ st = 5 ∨ st = 6 ∨ st = 7 ∨ st = 8 := by omega
    have hk : k = 1 ∨ k = 2 ∨ k = 3 := by omega
    have lu := F.lt u un
    have lv := F.lt v vn
    have lw := F.lt w wn
    have ou := F.ok u un
    have ov := F.ok v vn
    have ow := F.ok w wn
    have ru := F.rt_step un
    have rv := F.rt_step vn
    have rw' := F.rt_step wn
    rcases hst with rfl | rfl | rfl | rfl | rfl | rfl | rfl | rfl
    · by_cases e : el up u = u
      · refine ⟨by simpa [ups] using F, ?_, .inl ⟨by simp, by simpa [ups] using Keep.refl n up⟩⟩
        rcases hk with rfl | rfl | rfl <;> simp [ups, tks, e, Tk.fst, Tk.fin] <;> constructor <;> simp <;> first | assumption | omega
      · refine ⟨by simpa [ups] using F, ?_, .inl ⟨by simp, by simpa [ups] using Keep.refl n up⟩⟩
        simp [ups, tks, e]
        constructor <;> simp <;> first | assumption | omega | exact ⟨ou.resolve_left e, ru⟩
    · obtain ⟨a1, a2⟩ := ha rfl (.inl rfl)
      by_cases e : el up w = w
      · refine ⟨by simpa [ups] using F, ?_, .inl ⟨by simp, by simpa [ups] using Keep.refl n up⟩⟩
        rcases hk with rfl | rfl | rfl <;> simp [ups, tks, e, Tk.fst, Tk.fin] <;> constructor <;> simp <;> first | assumption | omega
      · refine ⟨by simpa [ups] using F, ?_, .inl ⟨by simp, by simpa [ups] using Keep.refl n up⟩⟩
        simp [ups, tks, e]
        constructor <;> simp <;> first | assumption | omega | exact ⟨a1, a2⟩ | exact ⟨ow.resolve_left e, rw'⟩
    · obtain ⟨a1, a2⟩ := ha rfl (.inr rfl)
      obtain ⟨b1, b2⟩ := hb rfl rfl
      have hI : ∀ q, Inv n pr q ⟨k, x, y, 1, w, v, w, r, false, res⟩ := fun q => by constructor <;> simp <;> first | assumption | omega
      by_cases e : el up u = w
      · have h1 := F.hang un rn (bel_trans a1 b1)
        have h2 := F.compress un rn (bel_trans a1 b1) (b2.trans a2)
        refine ⟨by simpa [ups, e] using h1, by simpa [ups, tks, e] using hI _, .inl ⟨by simp, by simpa [ups, e] using h2⟩⟩
      · refine ⟨by simpa [ups, e] using F, by simpa [ups, tks, e] using hI _, .inl ⟨by simp, by simpa [ups, e] using Keep.refl n up⟩⟩
    · have hk' := kk (Nat.le_refl _)
      by_cases e : el up v = v
      · refine ⟨by simpa [ups] using F, ?_, .inl ⟨by simp, by simpa [ups] using Keep.refl n up⟩⟩
        by_cases e2 : u = v
        · subst e2
          rcases hk with rfl | rfl | rfl <;> simp [ups, tks, e, Tk.snd, Tk.fin] <;> constructor <;> simp <;> first | assumption | omega
        · rcases hk with rfl | rfl | rfl <;> simp [ups, tks, e, e2, Tk.snd, Tk.fin] <;> constructor <;> simp <;> first | assumption | omega
      · refine ⟨by simpa [ups] using F, ?_, .inl ⟨by simp, by simpa [ups] using Keep.refl n up⟩⟩
        simp [ups, tks, e]
        constructor <;> simp <;> first | assumption | omega | exact ⟨ov.resolve_left e, rv⟩
    · have hk' := kk (by omega)
      obtain ⟨a1, a2⟩ := hc rfl (.inl rfl)
      by_cases e : el up w = w
      · refine ⟨by simpa [ups] using F, ?_, .inl ⟨by simp, by simpa [ups] using Keep.refl n up⟩⟩
        by_cases e2 : u = w
        · subst e2
          rcases hk with rfl | rfl | rfl <;> simp [ups, tks, e, Tk.snd, Tk.fin] <;> constructor <;> simp <;> first | assumption | omega
        · rcases hk with rfl | rfl | rfl <;> simp [ups, tks, e, e2, Tk.snd, Tk.fin] <;> constructor <;> simp <;> first | assumption | omega
      · refine ⟨by simpa [ups] using F, ?_, .inl ⟨by simp, by simpa [ups] using Keep.refl n up⟩⟩
        simp [ups, tks, e]
        constructor <;> simp <;> first | assumption | omega | exact ⟨a1, a2⟩ | exact ⟨ow.resolve_left e, rw'⟩
    · have hk' := kk (by omega)
      obtain ⟨a1, a2⟩ := hc rfl (.inr rfl)
      obtain ⟨b1, b2⟩ := hd rfl rfl
      have hI : ∀ q, Inv n pr q ⟨k, x, y, 4, u, w, w, r, false, res⟩ := fun q => by constructor <;> simp <;> first | assumption | omega
      by_cases e : el up v = w
      · have h1 := F.hang vn rn (bel_trans a1 b1)
        have h2 := F.compress vn rn (bel_trans a1 b1) (b2.trans a2)
        refine ⟨by simpa [ups, e] using h1, by simpa [ups, tks, e] using hI _, .inl ⟨by simp, by simpa [ups, e] using h2⟩⟩
      · refine ⟨by simpa [ups, e] using F, by simpa [ups, tks, e] using hI _, .inl ⟨by simp, by simpa [ups, e] using Keep.refl n up⟩⟩
    · have hk' := k7 rfl
      by_cases e : el up u = u
      · refine ⟨by simpa [ups] using F, ?_, .inl ⟨by simp, by simpa [ups] using Keep.refl n up⟩⟩
        simp [ups, tks, e, Tk.fin]
        constructor <;> simp <;> first | assumption | omega
      · refine ⟨by simpa [ups] using F, ?_, .inl ⟨by simp, by simpa [ups] using Keep.refl n up⟩⟩
        simp [ups, tks, e]
        constructor <;> simp <;> first | assumption | omega
    · have hk' := k8 rfl
      have hne := he rfl rfl
      have hI1 : ∀ q, Inv n pr q ⟨k, x, y, 8, u, v, w, r, true, 1⟩ := fun q => by constructor <;> simp <;> first | assumption | omega
      have hI2 : ∀ q, Inv n pr q ⟨k, x, y, 1, u, v, w, r, false, res⟩ := fun q => by constructor <;> simp <;> first | assumption | omega
      by_cases e1 : bel pr u v
      · by_cases e : el up u = u
        · refine ⟨by simpa [ups, e1, e] using F.hang un vn e1, by simpa [ups, tks, e1, e, Tk.fin] using hI1 _, .inr ⟨by simp [tks, e1, e, Tk.fin], u, v, by simpa [ups, e1, e] using F.join un vn e1 e⟩⟩
        · refine ⟨by simpa [ups, e1, e] using F, by simpa [ups, tks, e1, e] using hI2 _, .inl ⟨by simp [tks, e1, e], by simpa [ups, e1, e] using Keep.refl n up⟩⟩
      · have e2 := bel_total hne e1
        by_cases e : el up v = v
        · refine ⟨by simpa [ups, e1, e] using F.hang vn un e2, by simpa [ups, tks, e1, e, Tk.fin] using hI1 _, .inr ⟨by simp [tks, e1, e, Tk.fin], v, u, by simpa [ups, e1, e] using F.join vn un e2 e⟩⟩
        · refine ⟨by simpa [ups, e1, e] using F, by simpa [ups, tks, e1, e] using hI2 _, .inl ⟨by simp [tks, e1, e], by simpa [ups, e1, e] using Keep.refl n up⟩⟩

end Go.Proofs.YthhcchdjeeigpaaDoor
