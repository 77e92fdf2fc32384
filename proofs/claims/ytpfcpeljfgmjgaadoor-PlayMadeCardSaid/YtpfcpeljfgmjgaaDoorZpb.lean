/- Mathematics of cells whose elements have priorities (a forest), of their roots, and of tasks that find and unite step by step: no program. Contracts of there, below, look of package cuf and of the document. Words for slices of numbers not below 0 that the call made; slices.Clone. Contracts of May of package cuf and of the document's MayUp. Contracts of Root of package cuf and of the document. Contracts of the small functions on tasks: done, what follows a find's end; Begin. -/
import Derived.Test.YtpfcpeljfgmjgaaDoorZpa
import Derived.Deep.AppendLies
namespace Go.Proofs.YtpfcpeljfgmjgaaDoor
set_option linter.unusedVariables false
set_option linter.unusedSimpArgs false

def pri (pr : List Int) (x : Nat) : Int := pr.getD x 0
/-- Is x below y? -/
def bel (pr : List Int) (x y : Nat) : Prop := pri pr x < pri pr y ∨ (pri pr x = pri pr y ∧ x < y)
instance (pr : List Int) (x y : Nat) : Decidable (bel pr x y) := by unfold bel; infer_instance

theorem bel_irr {pr : List Int} {x : Nat} : ¬ bel pr x x := by unfold bel; omega
theorem bel_trans {pr : List Int} {x y z : Nat} (h1 : bel pr x y) (h2 : bel pr y z) : bel pr x z := by unfold bel at *; omega
theorem bel_total {pr : List Int} {x y : Nat} (h : x ≠ y) (h2 : ¬ bel pr x y) : bel pr y x := by unfold bel at *; omega

/-- How many elements are above x. -/
def hgt (pr : List Int) (n x : Nat) : Nat := (List.range n).countP (fun z => decide (bel pr x z))
theorem hgt_succ (pr : List Int) (n x : Nat) : hgt pr (n + 1) x = hgt pr n x + if bel pr x n then 1 else 0 := by
  unfold hgt; rw [List.range_succ, List.countP_append]; simp [List.countP_cons]
theorem hgt_self (pr : List Int) (x : Nat) : ∀ n, hgt pr n x + (if x < n then 1 else 0) ≤ n
  | 0 => by simp [hgt]
  | n + 1 => by
    have ih := hgt_self pr x n
    rw [hgt_succ]
    by_cases e : x = n
    · subst e
      rw [if_neg bel_irr]
      split at ih <;> split <;> omega
    · split <;> split <;> split at ih <;> omega
theorem hgt_lt_n {pr : List Int} {n x : Nat} (h : x < n) : hgt pr n x < n := by
  have := hgt_self pr x n
  rw [if_pos h] at this; omega
theorem hgt_step {pr : List Int} {x y : Nat} (h : bel pr x y) : ∀ n, hgt pr n y + (if y < n then 1 else 0) ≤ hgt pr n x
  | 0 => by simp [hgt]
  | n + 1 => by
    have ih := hgt_step h n
    rw [hgt_succ, hgt_succ]
    by_cases e : y = n
    · subst e
      rw [if_neg bel_irr, if_pos h]
      split at ih <;> split <;> omega
    · by_cases e2 : bel pr y n
      · rw [if_pos e2, if_pos (bel_trans h e2)]
        split at ih <;> split <;> omega
      · rw [if_neg e2]
        split at ih <;> split <;> split <;> omega
theorem hgt_lt {pr : List Int} {n x y : Nat} (h : bel pr x y) (hy : y < n) : hgt pr n y < hgt pr n x := by
  have := hgt_step h n
  rw [if_pos hy] at this; omega

/-- Cells that may be. -/
structure For (n : Nat) (pr : List Int) (up : List Nat) : Prop where
  len : up.length = n
  lt : ∀ x, x < n → el up x < n
  ok : ∀ x, x < n → el up x = x ∨ bel pr x (el up x)

def root (up : List Nat) : Nat → Nat → Nat
  | 0, x => x
  | f + 1, x => if el up x = x then x else root up f (el up x)
def rtu (up : List Nat) (x : Nat) : Nat := root up up.length x

section
variable {n : Nat} {pr : List Int} {up : List Nat}
theorem For.root_spec (F : For n pr up) : ∀ f x, x < n → hgt pr n x ≤ f → el up (root up f x) = root up f x ∧ root up f x < n
  | 0, x, hx, h => by
    refine ⟨?_, hx⟩
    rcases F.ok x hx with e | e
    · exact e
    · have := hgt_lt e (F.lt x hx); omega
  | f + 1, x, hx, h => by
    unfold root
    split
    · next e => exact ⟨e, hx⟩
    · next e =>
      have hb := (F.ok x hx).resolve_left e
      have := hgt_lt hb (F.lt x hx)
      exact For.root_spec F f _ (F.lt x hx) (by omega)
theorem For.root_fuel (F : For n pr up) : ∀ f g x, x < n → hgt pr n x ≤ f → hgt pr n x ≤ g → root up f x = root up g x
  | 0, 0, x, _, _, _ => rfl
  | 0, g + 1, x, hx, h1, h2 => by
    have e : el up x = x := by
      rcases F.ok x hx with e | e
      · exact e
      · have := hgt_lt e (F.lt x hx); omega
    simp [root, e]
  | f + 1, 0, x, hx, h1, h2 => by
    have e : el up x = x := by
      rcases F.ok x hx with e | e
      · exact e
      · have := hgt_lt e (F.lt x hx); omega
    simp [root, e]
  | f + 1, g + 1, x, hx, h1, h2 => by
    unfold root
    split
    · rfl
    · next e =>
      have hb := (F.ok x hx).resolve_left e
      have := hgt_lt hb (F.lt x hx)
      exact For.root_fuel F f g _ (F.lt x hx) (by omega) (by omega)
theorem For.rt_spec (F : For n pr up) {x : Nat} (hx : x < n) : el up (rtu up x) = rtu up x ∧ rtu up x < n :=
  F.root_spec _ x hx (by rw [F.len]; exact Nat.le_of_lt (hgt_lt_n hx))
theorem For.rt_self {x : Nat} (F : For n pr up) (hx : x < n) (h : el up x = x) : rtu up x = x := by
  unfold rtu
  rw [F.root_fuel _ (n + 1) x hx (by rw [F.len]; exact Nat.le_of_lt (hgt_lt_n hx)) (by have := hgt_lt_n (pr := pr) hx; omega)]
  simp [root, h]
theorem For.rt_step (F : For n pr up) {x : Nat} (hx : x < n) : rtu up (el up x) = rtu up x := by
  by_cases e : el up x = x
  · rw [e]
  · have hb := (F.ok x hx).resolve_left e
    have h1 := hgt_lt hb (F.lt x hx)
    have h2 := hgt_lt_n (pr := pr) hx
    unfold rtu
    rw [F.len, F.root_fuel n (n + 1) x hx (by omega) (by omega)]
    simp [root, e]
theorem For.rt_idem (F : For n pr up) {x : Nat} (hx : x < n) : rtu up (rtu up x) = rtu up x := F.rt_self (F.rt_spec hx).2 (F.rt_spec hx).1
/-- What is kept along each step is kept up to the root. -/
theorem For.rt_uniq {α : Type} (F : For n pr up) (g : Nat → α) (hg : ∀ x, x < n → g (el up x) = g x) : ∀ f x, x < n → g (root up f x) = g x
  | 0, x, hx => rfl
  | f + 1, x, hx => by
    unfold root
    split
    · rfl
    · rw [For.rt_uniq F g hg f _ (F.lt x hx), hg x hx]
theorem For.rt_bel (F : For n pr up) : ∀ f x, x < n → root up f x = x ∨ bel pr x (root up f x)
  | 0, x, hx => .inl rfl
  | f + 1, x, hx => by
    unfold root
    split
    · exact .inl rfl
    · next e =>
      have hb := (F.ok x hx).resolve_left e
      rcases For.rt_bel F f _ (F.lt x hx) with h | h
      · rw [h]; exact .inr hb
      · exact .inr (bel_trans hb h)
theorem For.rt_above (F : For n pr up) {x : Nat} (hx : x < n) : rtu up x = x ∨ bel pr x (rtu up x) := F.rt_bel _ x hx

/-- No root changes. -/
def Keep (n : Nat) (up up' : List Nat) : Prop := ∀ j, j < n → (el up' j = j ↔ el up j = j) ∧ rtu up' j = rtu up j
/-- The root a is under b. -/
structure Won (n : Nat) (up up' : List Nat) (a b : Nat) : Prop where
  an : a < n
  bn : b < n
  was : el up a = a
  is : el up' a ≠ a
  oth : ∀ j, j ≠ a → el up' j = el up j
  ne : rtu up b ≠ a
  rt : ∀ x, x < n → rtu up' x = if rtu up x = a then rtu up b else rtu up x

theorem Keep.refl (n : Nat) (up : List Nat) : Keep n up up := fun _ _ => ⟨Iff.rfl, rfl⟩

theorem For.hang (F : For n pr up) {a b : Nat} (ha : a < n) (hb : b < n) (h : bel pr a b) : For n pr (up.set a b) := by
  have e1 : el (up.set a b) a = b := el_set_self (by rw [F.len]; exact ha)
  refine ⟨by simp [F.len], fun x hx => ?_, fun x hx => ?_⟩
  · by_cases e : a = x
    · subst e; rw [e1]; exact hb
    · rw [el_set_other e]; exact F.lt x hx
  · by_cases e : a = x
    · subst e; rw [e1]; exact .inr h
    · rw [el_set_other e]; exact F.ok x hx

theorem For.compress (F : For n pr up) {a b : Nat} (ha : a < n) (hb : b < n) (h : bel pr a b) (hr : rtu up b = rtu up a) : Keep n up (up.set a b) := by
  have F' := F.hang ha hb h
  have e1 : el (up.set a b) a = b := el_set_self (by rw [F.len]; exact ha)
  have hab : b ≠ a := fun e => bel_irr (e ▸ h)
  have hna : el up a ≠ a := fun e => by
    have h1 := F.rt_self ha e
    rw [h1] at hr
    rcases F.rt_above hb with h2 | h2
    · exact hab (h2.symm.trans hr)
    · rw [hr] at h2; exact bel_irr (bel_trans h h2)
  have hs : ∀ x, x < n → rtu up (el (up.set a b) x) = rtu up x := fun x hx => by
    by_cases e : a = x
    · subst e; rw [e1, hr]
    · rw [el_set_other e]; exact F.rt_step hx
  refine fun j hj => ⟨?_, ?_⟩
  · by_cases e : a = j
    · subst e; rw [e1]; exact ⟨fun h => absurd h hab, fun h => absurd h hna⟩
    · rw [el_set_other e]
  · have h1 : rtu up (rtu (up.set a b) j) = rtu up j := F'.rt_uniq (rtu up) hs _ j hj
    obtain ⟨h2, h3⟩ := F'.rt_spec hj
    rw [← h1]
    by_cases e : a = rtu (up.set a b) j
    · rw [← e, e1] at h2; exact absurd h2 hab
    · rw [el_set_other e] at h2
      exact (F.rt_self h3 h2).symm

theorem For.join (F : For n pr up) {a b : Nat} (ha : a < n) (hb : b < n) (h : bel pr a b) (hr : el up a = a) : Won n up (up.set a b) a b := by
  have F' := F.hang ha hb h
  have e1 : el (up.set a b) a = b := el_set_self (by rw [F.len]; exact ha)
  have hab : b ≠ a := fun e => bel_irr (e ▸ h)
  have hne : rtu up b ≠ a := fun e => by
    rcases F.rt_above hb with h2 | h2
    · exact hab (h2.symm.trans e)
    · rw [e] at h2; exact bel_irr (bel_trans h h2)
  refine ⟨ha, hb, hr, by rw [e1]; exact hab, fun j hj => el_set_other (Ne.symm hj), hne, fun x hx => ?_⟩
  have hs : ∀ x, x < n → (fun z => if rtu up z = a then rtu up b else rtu up z) (el (up.set a b) x) = (fun z => if rtu up z = a then rtu up b else rtu up z) x := fun x hx => by
    by_cases e : a = x
    · subst e
      simp only [e1, F.rt_self ha hr, if_pos]
      rw [if_neg hne]
    · simp only [el_set_other e, F.rt_step hx]
  have h1 := F'.rt_uniq (fun z => if rtu up z = a then rtu up b else rtu up z) hs (up.set a b).length x hx
  obtain ⟨h2, h3⟩ := F'.rt_spec hx
  have h4 : a ≠ rtu (up.set a b) x := fun e => by rw [← e, e1] at h2; exact hab h2
  rw [el_set_other h4] at h2
  have h5 := F.rt_self h3 h2
  have h6 : root (up.set a b) (up.set a b).length x = rtu (up.set a b) x := rfl
  simp only [h6, h5] at h1
  rw [if_neg (Ne.symm h4)] at h1
  exact h1
end

/-- A task: its operation (k, x, y), its step, what it has found, whether it is done, its result. -/
structure Tk where
  k : Nat
  x : Nat
  y : Nat
  st : Nat
  u : Nat
  v : Nat
  w : Nat
  r : Nat
  dn : Bool
  res : Nat

def Tk.fin (t : Tk) (r : Nat) : Tk := { t with dn := true, res := r }
def Tk.fst (t : Tk) : Tk := if t.k = 1 then t.fin t.u else { t with st := 4 }
def Tk.snd (t : Tk) : Tk := if t.u = t.v then (if t.k = 2 then t.fin 1 else t.fin 0) else { t with st := if t.k = 2 then 7 else 8 }

/-- The cells behind a step. -/
def ups (up : List Nat) (pr : List Int) (t : Tk) : List Nat :=
  if t.dn then up
  else if t.st = 3 then (if el up t.u = t.w then up.set t.u t.r else up)
  else if t.st = 6 then (if el up t.v = t.w then up.set t.v t.r else up)
  else if t.st = 8 then (if bel pr t.u t.v then (if el up t.u = t.u then up.set t.u t.v else up) else (if el up t.v = t.v then up.set t.v t.u else up))
  else up
/-- The task behind it. -/
def tks (up : List Nat) (pr : List Int) (t : Tk) : Tk :=
  if t.dn then t
  else if t.st = 1 then (if el up t.u = t.u then ({ t with w := t.u } : Tk).fst else { t with w := el up t.u, st := 2 })
  else if t.st = 2 then (if el up t.w = t.w then ({ t with r := t.w, u := t.w } : Tk).fst else { t with r := el up t.w, st := 3 })
  else if t.st = 3 then { t with u := t.w, st := 1 }
  else if t.st = 4 then (if el up t.v = t.v then ({ t with w := t.v } : Tk).snd else { t with w := el up t.v, st := 5 })
  else if t.st = 5 then (if el up t.w = t.w then ({ t with r := t.w, v := t.w } : Tk).snd else { t with r := el up t.w, st := 6 })
  else if t.st = 6 then { t with v := t.w, st := 4 }
  else if t.st = 7 then (if el up t.u = t.u then ({ t with w := t.u } : Tk).fin 0 else { t with w := el up t.u, st := 1 })
  else if t.st = 8 then (if bel pr t.u t.v then (if el up t.u = t.u then t.fin 1 else { t with st := 1 }) else (if el up t.v = t.v then t.fin 1 else { t with st := 1 }))
  else t

/-- What holds of a task that came of its beginning, and of steps. -/
structure Inv (n : Nat) (pr : List Int) (up : List Nat) (t : Tk) : Prop where
  k1 : 1 ≤ t.k
  k3 : t.k ≤ 3
  xn : t.x < n
  yn : t.y < n
  un : t.u < n
  vn : t.v < n
  wn : t.w < n
  rn : t.r < n
  s1 : 1 ≤ t.st
  s8 : t.st ≤ 8
  kk : 4 ≤ t.st → t.k ≠ 1
  k7 : t.st = 7 → t.k = 2
  k8 : t.st = 8 → t.k = 3
  a : t.dn = false → (t.st = 2 ∨ t.st = 3) → bel pr t.u t.w ∧ rtu up t.w = rtu up t.u
  b : t.dn = false → t.st = 3 → bel pr t.w t.r ∧ rtu up t.r = rtu up t.w
  c : t.dn = false → (t.st = 5 ∨ t.st = 6) → bel pr t.v t.w ∧ rtu up t.w = rtu up t.v
  d : t.dn = false → t.st = 6 → bel pr t.w t.r ∧ rtu up t.r = rtu up t.w
  e : t.dn = false → t.st = 8 → t.u ≠ t.v

theorem Inv.mono {n : Nat} {pr : List Int} {up up' : List Nat} {t : Tk} (h : Inv n pr up t) (hm : ∀ x y, x < n → y < n → rtu up x = rtu up y → rtu up' x = rtu up' y) : Inv n pr up' t :=
  ⟨h.k1, h.k3, h.xn, h.yn, h.un, h.vn, h.wn, h.rn, h.s1, h.s8, h.kk, h.k7, h.k8, fun p q => ⟨(h.a p q).1, hm _ _ h.wn h.un (h.a p q).2⟩, fun p q => ⟨(h.b p q).1, hm _ _ h.rn h.wn (h.b p q).2⟩,
   fun p q => ⟨(h.c p q).1, hm _ _ h.wn h.vn (h.c p q).2⟩, fun p q => ⟨(h.d p q).1, hm _ _ h.rn h.wn (h.d p q).2⟩, h.e⟩

theorem inv_new {n : Nat} {pr : List Int} {up : List Nat} {k x y : Nat} (h1 : 1 ≤ k) (h3 : k ≤ 3) (hx : x < n) (hy : y < n) : Inv n pr up ⟨k, x, y, 1, x, y, 0, 0, false, 0⟩ :=
  ⟨h1, h3, hx, hy, hx, hy, by show 0 < n; omega, by show 0 < n; omega, Nat.le_refl _, by show 1 ≤ 8; omega, fun h => absurd h (by show ¬ 4 ≤ 1; omega), fun h => absurd h (by show ¬ 1 = 7; omega), fun h => absurd h (by show ¬ 1 = 8; omega),
   fun _ h => absurd h (by show ¬ (1 = 2 ∨ 1 = 3); omega), fun _ h => absurd h (by show ¬ 1 = 3; omega), fun _ h => absurd h (by show ¬ (1 = 5 ∨ 1 = 6); omega), fun _ h => absurd h (by show ¬ 1 = 6; omega), fun _ h => absurd h (by show ¬ 1 = 8; omega)⟩

theorem merge_keep {n : Nat} {up up' : List Nat} (h : Keep n up up') : ∀ x y, x < n → y < n → rtu up x = rtu up y → rtu up' x = rtu up' y := fun x y hx hy e => by rw [(h x hx).2, (h y hy).2, e]
theorem merge_won {n : Nat} {up up' : List Nat} {a b : Nat} (h : Won n up up' a b) : ∀ x y, x < n → y < n → rtu up x = rtu up y → rtu up' x = rtu up' y := fun x y hx hy e => by rw [h.rt x hx, h.rt y hy, e]

/-- What a step does to the cells. -/
def Did (n : Nat) (up up' : List Nat) (t t' : Tk) : Prop :=
  (¬ (t.st = 8 ∧ t.dn = false ∧ t'.dn = true) ∧ Keep n up up') ∨ ((t.st = 8 ∧ t.dn = false ∧ t'.dn = true) ∧ ∃ a b, Won n up up' a b)

theorem Did.merge {n : Nat} {up up' : List Nat} {t t' : Tk} (h : Did n up up' t t') : ∀ x y, x < n → y < n → rtu up x = rtu up y → rtu up' x = rtu up' y := by
  rcases h with ⟨_, h⟩ | ⟨_, a, b, h⟩
  · exact merge_keep h
  · exact merge_won h
theorem Did.idem {n : Nat} {pr : List Int} {up up' : List Nat} {t t' : Tk} (F : For n pr up) (h : Did n up up' t t') {x : Nat} (hx : x < n) : rtu up' (rtu up x) = rtu up' x :=
  h.merge _ _ (F.rt_spec hx).2 hx (F.rt_idem hx)

theorem step_ok {n : Nat} {pr : List Int} {up : List Nat} {t : Tk} (F : For n pr up) (I : Inv n pr up t) :
    For n pr (ups up pr t) ∧ Inv n pr (ups up pr t) (tks up pr t) ∧ Did n up (ups up pr t) t (tks up pr t) := by
  obtain ⟨k, x, y, st, u, v, w, r, dn, res⟩ := t
  obtain ⟨k1, k3, xn, yn, un, vn, wn, rn, s1, s8, kk, k7, k8, ha, hb, hc, hd, he⟩ := I
  dsimp only at k1 k3 xn yn un vn wn rn s1 s8 kk k7 k8 ha hb hc hd he
  cases dn with
  | true =>
    simp only [ups, tks, if_true]
    exact ⟨F, ⟨k1, k3, xn, yn, un, vn, wn, rn, s1, s8, kk, k7, k8, ha, hb, hc, hd, he⟩, .inl ⟨by simp, Keep.refl _ _⟩⟩
  | false =>
    have hst : st = 1 ∨ st = 2 ∨ st = 3 ∨ st = 4 ∨ st = 5 ∨ st = 6 ∨ st = 7 ∨ st = 8 := by omega
    have hk : k = 1 ∨ k = 2 ∨ k = 3 := by omega
    have lu := F.lt u un
    have lv := F.lt v vn
    have lw := F.lt w wn
    have ou := F.ok u un
    have ov := F.ok v vn
    have ow := F.ok w wn
    have ru := F.rt_step un
    have rv := F.rt_step vn
    have rw' := F.rt_step wn
    rcases hst with rfl | rfl | rfl | rfl | rfl | rfl | rfl | rfl
    · by_cases e : el up u = u
      · refine ⟨by simpa [ups] using F, ?_, .inl ⟨by simp, by simpa [ups] using Keep.refl n up⟩⟩
        rcases hk with rfl | rfl | rfl <;> simp [ups, tks, e, Tk.fst, Tk.fin] <;> constructor <;> simp <;> first | assumption | omega
      · refine ⟨by simpa [ups] using F, ?_, .inl ⟨by simp, by simpa [ups] using Keep.refl n up⟩⟩
        simp [ups, tks, e]
        constructor <;> simp <;> first | assumption | omega | exact ⟨ou.resolve_left e, ru⟩
    · obtain ⟨a1, a2⟩ := ha rfl (.inl rfl)
      by_cases e : el up w = w
      · refine ⟨by simpa [ups] using F, ?_, .inl ⟨by simp, by simpa [ups] using Keep.refl n up⟩⟩
        rcases hk with rfl | rfl | rfl <;> simp [ups, tks, e, Tk.fst, Tk.fin] <;> constructor <;> simp <;> first | assumption | omega
      · refine ⟨by simpa [ups] using F, ?_, .inl ⟨by simp, by simpa [ups] using Keep.refl n up⟩⟩
        simp [ups, tks, e]
        constructor <;> simp <;> first | assumption | omega | exact ⟨a1, a2⟩ | exact ⟨ow.resolve_left e, rw'⟩
    · obtain ⟨a1, a2⟩ := ha rfl (.inr rfl)
      obtain ⟨b1, b2⟩ := hb rfl rfl
      have hI : ∀ q, Inv n pr q ⟨k, x, y, 1, w, v, w, r, false, res⟩ := fun q => by constructor <;> simp <;> first | assumption | omega
      by_cases e : el up u = w
      · have h1 := F.hang un rn (bel_trans a1 b1)
        have h2 := F.compress un rn (bel_trans a1 b1) (b2.trans a2)
        refine ⟨by simpa [ups, e] using h1, by simpa [ups, tks, e] using hI _, .inl ⟨by simp, by simpa [ups, e] using h2⟩⟩
      · refine ⟨by simpa [ups, e] using F, by simpa [ups, tks, e] using hI _, .inl ⟨by simp, by simpa [ups, e] using Keep.refl n up⟩⟩
    · have hk' := kk (Nat.le_refl _)
      by_cases e : el up v = v
      · refine ⟨by simpa [ups] using F, ?_, .inl ⟨by simp, by simpa [ups] using Keep.refl n up⟩⟩
        by_cases e2 : u = v
        · subst e2
          rcases hk with rfl | rfl | rfl <;> simp [ups, tks, e, Tk.snd, Tk.fin] <;> constructor <;> simp <;> first | assumption | omega
        · rcases hk with rfl | rfl | rfl <;> simp [ups, tks, e, e2, Tk.snd, Tk.fin] <;> constructor <;> simp <;> first | assumption | omega
      · refine ⟨by simpa [ups] using F, ?_, .inl ⟨by simp, by simpa [ups] using Keep.refl n up⟩⟩
        simp [ups, tks, e]
        constructor <;> simp <;> first | assumption | omega | exact ⟨ov.resolve_left e, rv⟩
    · have hk' := kk (by omega)
      obtain ⟨a1, a2⟩ := hc rfl (.inl rfl)
      by_cases e : el up w = w
      · refine ⟨by simpa [ups] using F, ?_, .inl ⟨by simp, by simpa [ups] using Keep.refl n up⟩⟩
        by_cases e2 : u = w
        · subst e2
          rcases hk with rfl | rfl | rfl <;> simp [ups, tks, e, Tk.snd, Tk.fin] <;> constructor <;> simp <;> first | assumption | omega
        · rcases hk with rfl | rfl | rfl <;> simp [ups, tks, e, e2, Tk.snd, Tk.fin] <;> constructor <;> simp <;> first | assumption | omega
      · refine ⟨by simpa [ups] using F, ?_, .inl ⟨by simp, by simpa [ups] using Keep.refl n up⟩⟩
        simp [ups, tks, e]
        constructor <;> simp <;> first | assumption | omega | exact ⟨a1, a2⟩ | exact ⟨ow.resolve_left e, rw'⟩
    · have hk' := kk (by omega)
      obtain ⟨a1, a2⟩ := hc rfl (.inr rfl)
      obtain ⟨b1, b2⟩ := hd rfl rfl
      have hI : ∀ q, Inv n pr q ⟨k, x, y, 4, u, w, w, r, false, res⟩ := fun q => by constructor <;> simp <;> first | assumption | omega
      by_cases e : el up v = w
      · have h1 := F.hang vn rn (bel_trans a1 b1)
        have h2 := F.compress vn rn (bel_trans a1 b1) (b2.trans a2)
        refine ⟨by simpa [ups, e] using h1, by simpa [ups, tks, e] using hI _, .inl ⟨by simp, by simpa [ups, e] using h2⟩⟩
      · refine ⟨by simpa [ups, e] using F, by simpa [ups, tks, e] using hI _, .inl ⟨by simp, by simpa [ups, e] using Keep.refl n up⟩⟩
    · have hk' := k7 rfl
      by_cases e : el up u = u
      · refine ⟨by simpa [ups] using F, ?_, .inl ⟨by simp, by simpa [ups] using Keep.refl n up⟩⟩
        simp [ups, tks, e, Tk.fin]
        constructor <;> simp <;> first | assumption | omega
      · refine ⟨by simpa [ups] using F, ?_, .inl ⟨by simp, by simpa [ups] using Keep.refl n up⟩⟩
        simp [ups, tks, e]
        constructor <;> simp <;> first | assumption | omega
    · have hk' := k8 rfl
      have hne := he rfl rfl
      have hI1 : ∀ q, Inv n pr q ⟨k, x, y, 8, u, v, w, r, true, 1⟩ := fun q => by constructor <;> simp <;> first | assumption | omega
      have hI2 : ∀ q, Inv n pr q ⟨k, x, y, 1, u, v, w, r, false, res⟩ := fun q => by constructor <;> simp <;> first | assumption | omega
      by_cases e1 : bel pr u v
      · by_cases e : el up u = u
        · refine ⟨by simpa [ups, e1, e] using F.hang un vn e1, by simpa [ups, tks, e1, e, Tk.fin] using hI1 _, .inr ⟨by simp [tks, e1, e, Tk.fin], u, v, by simpa [ups, e1, e] using F.join un vn e1 e⟩⟩
        · refine ⟨by simpa [ups, e1, e] using F, by simpa [ups, tks, e1, e] using hI2 _, .inl ⟨by simp [tks, e1, e], by simpa [ups, e1, e] using Keep.refl n up⟩⟩
      · have e2 := bel_total hne e1
        by_cases e : el up v = v
        · refine ⟨by simpa [ups, e1, e] using F.hang vn un e2, by simpa [ups, tks, e1, e, Tk.fin] using hI1 _, .inr ⟨by simp [tks, e1, e, Tk.fin], v, u, by simpa [ups, e1, e] using F.join vn un e2 e⟩⟩
        · refine ⟨by simpa [ups, e1, e] using F, by simpa [ups, tks, e1, e] using hI2 _, .inl ⟨by simp [tks, e1, e], by simpa [ups, e1, e] using Keep.refl n up⟩⟩

end Go.Proofs.YtpfcpeljfgmjgaaDoor

namespace Go.Proofs.YtpfcpeljfgmjgaaDoor
open Go.RowKit
set_option linter.unusedVariables false

theorem there_yes (n x : Int) (w : World) (h : 0 ≤ x) (h2 : x < n) :
    Calls Tryd.prog 116 #[.int .i64 n, .int .i64 x] w fun e w' => e = .returned (.bool true) ∧ w = w' := by
  go_enter Tryd.func116, Tryd.ntmps116
  go_wp2
  go_ret
  exact ⟨rfl, rfl⟩
theorem there_no (n x : Int) (w : World) (h : ¬ (0 ≤ x ∧ x < n)) :
    Calls Tryd.prog 116 #[.int .i64 n, .int .i64 x] w fun e w' => e = .returned (.bool false) ∧ w = w' := by
  by_cases h0 : 0 ≤ x
  · have h1 : ¬ x < n := fun h1 => h ⟨h0, h1⟩
    clear h
    go_enter Tryd.func116, Tryd.ntmps116
    go_wp2
    go_ret
    exact ⟨rfl, rfl⟩
  · clear h
    go_enter Tryd.func116, Tryd.ntmps116
    go_wp2
    go_ret
    exact ⟨rfl, rfl⟩
theorem rthere_yes (n x : Int) (w : World) (h : 0 ≤ x) (h2 : x < n) :
    Calls Tryd.prog 76 #[.int .i64 n, .int .i64 x] w fun e w' => e = .returned (.bool true) ∧ w = w' := by
  go_enter Tryd.func76, Tryd.ntmps76
  go_wp2
  go_ret
  exact ⟨rfl, rfl⟩
theorem rthere_no (n x : Int) (w : World) (h : ¬ (0 ≤ x ∧ x < n)) :
    Calls Tryd.prog 76 #[.int .i64 n, .int .i64 x] w fun e w' => e = .returned (.bool false) ∧ w = w' := by
  by_cases h0 : 0 ≤ x
  · have h1 : ¬ x < n := fun h1 => h ⟨h0, h1⟩
    clear h
    go_enter Tryd.func76, Tryd.ntmps76
    go_wp2
    go_ret
    exact ⟨rfl, rfl⟩
  · clear h
    go_enter Tryd.func76, Tryd.ntmps76
    go_wp2
    go_ret
    exact ⟨rfl, rfl⟩
theorem there_yes_q (n x : Int) (w : World) (h : 0 ≤ x) (h2 : x < n) :
    Calls Tryd.prog 116 #[.int .i64 n, .int .i64 x] w fun e w' => e = .returned (.bool true) ∧ w' = w := (there_yes n x w h h2).mono fun _ _ h => ⟨h.1, h.2.symm⟩
theorem rthere_yes_q (n x : Int) (w : World) (h : 0 ≤ x) (h2 : x < n) :
    Calls Tryd.prog 76 #[.int .i64 n, .int .i64 x] w fun e w' => e = .returned (.bool true) ∧ w' = w := (rthere_yes n x w h h2).mono fun _ _ h => ⟨h.1, h.2.symm⟩
theorem rthere_no_q (n x : Int) (w : World) (h : ¬ (0 ≤ x ∧ x < n)) :
    Calls Tryd.prog 76 #[.int .i64 n, .int .i64 x] w fun e w' => e = .returned (.bool false) ∧ w' = w := (rthere_no n x w h).mono fun _ _ h => ⟨h.1, h.2.symm⟩

theorem cast_beq (u v : Nat) : ((u : Int) == (v : Int)) = decide (u = v) := by
  rw [Bool.eq_iff_iff]; simp; omega
theorem ret_bool {b c : Bool} (h : b = c) : Ending.returned (.bool b) = .returned (.bool c) := by rw [h]
theorem ret_i64 {b c : Int} (h : b = c) : Ending.returned (.int .i64 b) = .returned (.int .i64 c) := by rw [h]

section
variable {lo hi : Nat} {w : World} {a : Option Addr} {len : Nat} {xs : List Int}
theorem RowF.ati (h : Row lo hi w a len xs) {i : Nat} (hi' : i < len) : ∃ b off, a = some ⟨b, off, none⟩ ∧ lo ≤ b ∧ b < hi ∧ ∀ i, i < len → w.cell? ⟨b, off + i, none⟩ = some (.int .i64 (xs.getD i 0)) :=
  h.2.resolve_left (by omega)
end

theorem bel_val {pr : List Int} {x y : Nat} {p q : Int} (hp : pr.getD x 0 = p) (hq : pr.getD y 0 = q) : decide (bel pr x y) = (decide (p < q) || (decide (p = q) && decide (x < y))) := by
  have : bel pr x y ↔ (p < q ∨ (p = q ∧ x < y)) := by unfold bel pri; rw [hp, hq]
  rw [Bool.eq_iff_iff]; simp [this]

set_option maxRecDepth 100000 in
set_option maxHeartbeats 1000000 in
theorem below_any (a : Option Addr) (la ca : Nat) (pr : List Int) (x y : Nat) (w : World) {lo hi : Nat} (hp : Row lo hi w a la pr) (hx : x < la) (hy : y < la) (hm : la ≤ 1000000) :
    Calls Tryd.prog 123 #[.slice a la ca, .int .i64 (x : Int), .int .i64 (y : Int)] w fun e w' => e = .returned (.bool (decide (bel pr x y))) ∧ ∃ n, w' = w.drewN n := by
  obtain ⟨b, off, rfl, _, _, hc⟩ := hp.ati hx
  have cx := hc x hx
  have cy := hc y hy
  obtain ⟨p, hpx⟩ : ∃ v, pr.getD x 0 = v := ⟨_, rfl⟩
  obtain ⟨q, hqy⟩ : ∃ v, pr.getD y 0 = v := ⟨_, rfl⟩
  rw [bel_val hpx hqy]
  rw [hpx] at cx
  rw [hqy] at cy
  have hx0 : (0 : Int) ≤ x := by omega
  have hy0 : (0 : Int) ≤ y := by omega
  have hx1 : (x : Int) < la := by omega
  have hy1 : (y : Int) < la := by omega
  clear hc hp hpx hqy
  by_cases h1 : p < q
  · have d1 : decide (p < q) = true := by simpa using h1
    go_enter Tryd.func123, Tryd.ntmps123
    go_wp2_with (first | (go_at_call 116; (with_reducible refine (there_yes _ _ _ hx0 hx1).mono ?_); rintro e w' ⟨rfl, rfl⟩) | (go_at_call 116; (with_reducible refine (there_yes _ _ _ hy0 hy1).mono ?_); rintro e w' ⟨rfl, rfl⟩))
    go_quiet (fail)
    go_wp2_with fail
    go_ret
    exact ⟨ret_bool (by simp [h1]), nq, rfl⟩
  · have d1 : decide (p < q) = false := by simpa using h1
    by_cases h2 : p = q
    · subst h2
      have d2 : (p == p) = true := by simp
      by_cases h3 : x < y
      · have d3 : decide (x < y) = true := by simpa using h3
        go_enter Tryd.func123, Tryd.ntmps123
        go_wp2_with (first | (go_at_call 116; (with_reducible refine (there_yes _ _ _ hx0 hx1).mono ?_); rintro e w' ⟨rfl, rfl⟩) | (go_at_call 116; (with_reducible refine (there_yes _ _ _ hy0 hy1).mono ?_); rintro e w' ⟨rfl, rfl⟩))
        go_quiet (fail)
        go_wp2_with fail
        go_ret
        exact ⟨ret_bool (by simp [h3]), nq, rfl⟩
      · have d3 : decide (x < y) = false := by simpa using h3
        go_enter Tryd.func123, Tryd.ntmps123
        go_wp2_with (first | (go_at_call 116; (with_reducible refine (there_yes _ _ _ hx0 hx1).mono ?_); rintro e w' ⟨rfl, rfl⟩) | (go_at_call 116; (with_reducible refine (there_yes _ _ _ hy0 hy1).mono ?_); rintro e w' ⟨rfl, rfl⟩))
        go_quiet (fail)
        go_wp2_with fail
        go_ret
        exact ⟨ret_bool (by simp [h3]), nq, rfl⟩
    · have d2 : (p == q) = false := by simpa using h2
      go_enter Tryd.func123, Tryd.ntmps123
      go_wp2_with (first | (go_at_call 116; (with_reducible refine (there_yes _ _ _ hx0 hx1).mono ?_); rintro e w' ⟨rfl, rfl⟩) | (go_at_call 116; (with_reducible refine (there_yes _ _ _ hy0 hy1).mono ?_); rintro e w' ⟨rfl, rfl⟩))
      go_quiet (fail)
      go_wp2_with fail
      go_ret
      exact ⟨ret_bool (by simp [h1, h2]), nq, rfl⟩

theorem below_out (a : Option Addr) (la ca : Nat) (x : Nat) (y : Int) (w : World) (hx : x < la) (hy : ¬ (0 ≤ y ∧ y < la)) (hm : la ≤ 1000000) :
    Calls Tryd.prog 123 #[.slice a la ca, .int .i64 (x : Int), .int .i64 y] w fun e w' => e = .returned (.bool false) ∧ w = w' := by
  have hx0 : (0 : Int) ≤ x := by omega
  have hx1 : (x : Int) < la := by omega
  have HY := Lib.hid hy
  clear hy
  go_enter Tryd.func123, Tryd.ntmps123
  go_wp2_with (first | (go_at_call 116; (with_reducible refine (there_yes _ _ _ hx0 hx1).mono ?_); rintro e w' ⟨rfl, rfl⟩) | (go_at_call 116; (with_reducible refine (there_no _ _ _ HY.out).mono ?_); rintro e w' ⟨rfl, rfl⟩))
  go_ret
  exact ⟨rfl, rfl⟩

set_option maxRecDepth 100000 in
set_option maxHeartbeats 1000000 in
theorem rbelow_any (a : Option Addr) (la ca : Nat) (pr : List Int) (x y : Nat) (w : World) {lo hi : Nat} (hp : Row lo hi w a la pr) (hx : x < la) (hy : y < la) (hm : la ≤ 1000000) :
    Calls Tryd.prog 81 #[.slice a la ca, .int .i64 (x : Int), .int .i64 (y : Int)] w fun e w' => e = .returned (.bool (decide (bel pr x y))) ∧ ∃ n, w' = w.drewN n := by
  obtain ⟨b, off, rfl, _, _, hc⟩ := hp.ati hx
  have cx := hc x hx
  have cy := hc y hy
  obtain ⟨p, hpx⟩ : ∃ v, pr.getD x 0 = v := ⟨_, rfl⟩
  obtain ⟨q, hqy⟩ : ∃ v, pr.getD y 0 = v := ⟨_, rfl⟩
  rw [bel_val hpx hqy]
  rw [hpx] at cx
  rw [hqy] at cy
  have hx0 : (0 : Int) ≤ x := by omega
  have hy0 : (0 : Int) ≤ y := by omega
  have hx1 : (x : Int) < la := by omega
  have hy1 : (y : Int) < la := by omega
  clear hc hp hpx hqy
  by_cases h1 : p < q
  · have d1 : decide (p < q) = true := by simpa using h1
    go_enter Tryd.func81, Tryd.ntmps81
    go_wp2_with fail
    go_quiet (fail)
    go_wp2_with fail
    go_ret
    exact ⟨ret_bool (by simp [h1]), nq, rfl⟩
  · have d1 : decide (p < q) = false := by simpa using h1
    by_cases h2 : p = q
    · subst h2
      have d2 : (p == p) = true := by simp
      by_cases h3 : x < y
      · have d3 : decide (x < y) = true := by simpa using h3
        go_enter Tryd.func81, Tryd.ntmps81
        go_wp2_with fail
        go_quiet (fail)
        go_wp2_with fail
        go_ret
        exact ⟨ret_bool (by simp [h3]), nq, rfl⟩
      · have d3 : decide (x < y) = false := by simpa using h3
        go_enter Tryd.func81, Tryd.ntmps81
        go_wp2_with fail
        go_quiet (fail)
        go_wp2_with fail
        go_ret
        exact ⟨ret_bool (by simp [h3]), nq, rfl⟩
    · have d2 : (p == q) = false := by simpa using h2
      go_enter Tryd.func81, Tryd.ntmps81
      go_wp2_with fail
      go_quiet (fail)
      go_wp2_with fail
      go_ret
      exact ⟨ret_bool (by simp [h1, h2]), nq, rfl⟩

theorem look_in (a : Option Addr) (la ca : Nat) (up : List Nat) (x : Nat) (w : World) {lo hi : Nat} (hp : RowN lo hi w a la up) (hx : x < la) (hm : la ≤ 1000000) :
    Calls Tryd.prog 120 #[.slice a la ca, .int .i64 (x : Int)] w fun e w' => e = .returned (.int .i64 (el up x : Nat)) ∧ w = w' := by
  obtain ⟨b, off, rfl, _, _, hc⟩ := hp.at_ hx
  have cx := hc x hx
  have hx0 : (0 : Int) ≤ x := by omega
  have hx1 : (x : Int) < la := by omega
  clear hc hp
  go_enter Tryd.func120, Tryd.ntmps120
  go_wp2_with (go_at_call 116; (with_reducible refine (there_yes _ _ _ hx0 hx1).mono ?_); rintro e w' ⟨rfl, rfl⟩)
  go_ret
  exact ⟨rfl, rfl⟩
theorem look_out (a : Option Addr) (la ca : Nat) (x : Int) (w : World) (hx : ¬ (0 ≤ x ∧ x < la)) :
    Calls Tryd.prog 120 #[.slice a la ca, .int .i64 x] w fun e w' => e = .returned (.int .i64 (-1)) ∧ w = w' := by
  have HX := Lib.hid hx
  clear hx
  go_enter Tryd.func120, Tryd.ntmps120
  go_wp2_with (go_at_call 116; (with_reducible refine (there_no _ _ _ HX.out).mono ?_); rintro e w' ⟨rfl, rfl⟩)
  go_ret
  exact ⟨rfl, rfl⟩

end Go.Proofs.YtpfcpeljfgmjgaaDoor

namespace Go.Proofs.YtpfcpeljfgmjgaaDoor
open Go.RowKit
set_option linter.unusedVariables false

theorem lt_succ_all {P : Nat → Prop} {k : Nat} (h : ∀ i, i < k → P i) (hk : P k) : ∀ i, i < k + 1 → P i := by
  intro i hi
  rcases Nat.lt_or_ge i k with h1 | h1
  · exact h i h1
  · obtain rfl : i = k := by omega
    exact hk

def intsOf (p : List Nat) : List Value := p.map fun n : Nat => Value.int .i64 (n : Int)
theorem intsOf_length (p : List Nat) : (intsOf p).length = p.length := by simp [intsOf]
theorem intsOf_get {p : List Nat} {i : Nat} (h : i < p.length) : (intsOf p)[i]? = some (.int .i64 (el p i : Nat)) := by
  unfold intsOf el; simp [h]
theorem intsOf_set (p : List Nat) (i v : Nat) : (intsOf p).set i (.int .i64 (v : Int)) = intsOf (p.set i v) := by
  unfold intsOf; rw [List.map_set]
theorem RowF.owned {w : World} {base e : Nat} {v : Value} {n : Nat} {p : List Nat} (h : w.ownsRow base e 1 v n (intsOf p)) (hl : p.length = n) : ∃ a c, v = .slice a n c ∧ RowN base w.heap.size w a n p ∧ (a = none → c = 0) := by
  subst hl
  obtain ⟨a, c, h1, h2⟩ := RowF.of_owns (f := fun n : Nat => Value.int .i64 (n : Int)) (d := 0) h
  refine ⟨a, c, h1, h2, fun ha => ?_⟩
  rcases h.2 with ⟨e, _⟩ | ⟨g, cap, cur, e, _⟩
  · rw [h1] at e; simp at e; exact e.2.2
  · rw [h1, ha] at e; cases e

/-- Block g holds these numbers from its first cell on, none of them frozen. -/
def Own (w : World) (g : Nat) (p : List Nat) : Prop := g < w.heap.size ∧ ∀ i, i < p.length → w.cell? ⟨g, i, none⟩ = some (.int .i64 (el p i : Nat)) ∧ w.frozen? ⟨g, i, none⟩ = false
section
variable {w w' : World} {g : Nat} {p : List Nat}
theorem Own.agree (h : Own w g p) (hb : w'.heap[g]? = w.heap[g]?) (hs : w.heap.size ≤ w'.heap.size) : Own w' g p :=
  ⟨Nat.lt_of_lt_of_le h.1 hs, fun i hi => ⟨(World.cell?_of_block hb).trans (h.2 i hi).1, (World.frozen?_of_block hb).trans (h.2 i hi).2⟩⟩
theorem Own.alloc (h : Own w g p) (o : Obj) : Own (w.alloc o) g p := h.agree (Below.heap_alloc w o g h.1) (by simp)
theorem Own.setOther (h : Own w g p) {a : Addr} (ha : g ≠ a.block) (u : Value) : Own (w.setCell a u) g p := h.agree (Below.heap_setCell w a u g ha) (by simp)
theorem Own.below (h : Own w g p) {B : Nat} (hb : Below B w w') (hg : g < B) : Own w' g p := h.agree (hb.block g hg) hb.size
theorem Own.drewN (h : Own w g p) (n : Nat) : Own (w.drewN n) g p := h
theorem Own.put (h : Own w g p) {i v : Nat} (hi : i < p.length) : Own (w.setCell ⟨g, i, none⟩ (.int .i64 (v : Int))) g (p.set i v) := by
  refine ⟨by simpa using h.1, fun j hj => ?_⟩
  rw [List.length_set] at hj
  obtain ⟨h1, h2⟩ := h.2 j hj
  obtain ⟨h3, h4⟩ := h.2 i hi
  refine ⟨?_, by simpa using h2⟩
  by_cases e : i = j
  · subst e
    rw [el_set_self hi]
    exact World.cell?_setCell_same w _ _ h1
  · rw [el_set_other e]
    exact (World.cell?_setCell_other w _ _ _ (fun h => e (by cases h; rfl))).trans h1
theorem Own.row (h : Own w g p) {lo hi n : Nat} (hl : p.length = n) (h1 : lo ≤ g) (h2 : g < hi) : RowN lo hi w (some ⟨g, 0, none⟩) n p :=
  ⟨hl, .inr ⟨g, 0, rfl, h1, h2, fun i hi => by rw [Nat.zero_add]; exact (h.2 i (by omega)).1⟩⟩
end

theorem own_of_owns {w : World} {base e n : Nat} {v : Value} {p : List Nat} (h : w.ownsRow base e 1 v n (intsOf p)) (hl : p.length = n) (hn : 0 < n) : ∃ g c, v = .slice (some ⟨g, 0, none⟩) n c ∧ base ≤ g ∧ Own w g p := by
  obtain ⟨g, c, rfl, h1, h2⟩ := h.form hn
  refine ⟨g, c, rfl, h1, h2, fun i hi => ⟨?_, h.frozenAt i⟩⟩
  rw [h.cellAt i (by omega), intsOf_get hi]

theorem clone_own (a : Option Addr) (la ca : Nat) (p : List Nat) (w : World) {lo hi : Nat} (hx : RowN lo hi w a la p) (hhi : hi ≤ w.heap.size) (hn : 0 < la) (hm : la ≤ 1000000) :
    Calls Tryd.prog 96 #[.slice a la ca] w fun e w' => ∃ g c, e = .returned (.slice (some ⟨g, 0, none⟩) la c) ∧ w.heap.size ≤ g ∧ Own w' g p ∧ Below w.heap.size w w' := by
  have hne := fun (w : World) (a : Option Addr) (n c : Nat) => Lib.run_eql_slice_nil (P := Tryd.prog) w 22 3 a n c 0 0 Tryd.underlying22
  cases a with
  | none => have h0 : la = 0 := hx.nil_len; omega
  | some a =>
    obtain ⟨i0, hi0, hz0, hz1, hz2⟩ := info_parts Tryd.info3
    have hb0 : Below w.heap.size w (w.alloc (.cells #[] 3)) := (Below.refl _ _).alloc (Nat.le_refl _) _
    go_enter Tryd.func96, Tryd.ntmps96
    go_wp2_with (at_builtin; refine wpList_append_own _ rfl _ _ 22 rfl w.heap.size 3 i0 (.int .i64 0) 1 8 Tryd.underlying22 hi0 hz0 hz1 hz2 rfl (by decide) _ 0 [] rfl ?c0 a la ca (intsOf p) rfl ?c1 ?c2 ?c3 ?c4 ?c5 ?c6 ?_)
    case c0 => exact World.ownsRow_made w #[] 0 (Nat.le_refl _) (by decide) rfl
    case c1 => simp [intsOf, hx.1]
    case c2 => exact (hx.alloc hhi _).news
    case c3 => intro u hu; simp [intsOf] at hu; obtain ⟨n, _, rfl⟩ := hu; rfl
    case c4 => unfold maxLen; omega
    case c5 => omega
    case c6 => simp
    intro v' w1 hown hgr hnn
    have hb1 : Below w.heap.size w w1 := hb0.grown hgr (by simp) (by rintro k hk; cases hk; exact Nat.le_refl _)
    obtain ⟨g, c, rfl, hg, ho⟩ := own_of_owns (p := p) (n := 0 + la) (by simpa using hown) (by rw [hx.1]; omega) (by omega)
    clear hgr hnn hb0 hown
    go_wp2
    go_ret
    rw [Nat.zero_add]
    exact ⟨_, _, rfl, hg, ho, hb1⟩

end Go.Proofs.YtpfcpeljfgmjgaaDoor

namespace Go.Proofs.YtpfcpeljfgmjgaaDoor
open Go.RowKit
set_option linter.unusedVariables false

/-- May the number at place i stand there? -/
def mayAt (xs pr : List Int) (n i : Nat) : Prop := 0 ≤ xs.getD i 0 ∧ xs.getD i 0 < n ∧ (xs.getD i 0 = i ∨ bel pr i (xs.getD i 0).toNat)
instance (xs pr : List Int) (n i : Nat) : Decidable (mayAt xs pr n i) := by unfold mayAt; infer_instance
def mayU (xs pr : List Int) : Bool := decide (xs.length = pr.length ∧ xs.length ≤ 65536 ∧ ∀ i, i < xs.length → mayAt xs pr xs.length i)

theorem mayU_yes {xs pr : List Int} {n : Nat} (hl : xs.length = n) (hp : pr.length = n) (h0 : n ≤ 65536) (h : ∀ i, i < n → mayAt xs pr n i) : mayU xs pr = true := by
  subst hl; unfold mayU; exact decide_eq_true ⟨hp.symm, h0, h⟩
theorem mayU_no {xs pr : List Int} {n k : Nat} (hl : xs.length = n) (hk : k < n) (h : ¬ mayAt xs pr n k) : mayU xs pr = false := by
  subst hl; unfold mayU; exact decide_eq_false fun h2 => h (h2.2.2 k hk)
theorem mayU_long {xs pr : List Int} {n : Nat} (hl : xs.length = n) (h : ¬ n ≤ 65536) : mayU xs pr = false := by
  subst hl; unfold mayU; exact decide_eq_false fun h2 => h h2.2.1
theorem mayU_ne {xs pr : List Int} {n m : Nat} (hl : xs.length = n) (hp : pr.length = m) (h : n ≠ m) : mayU xs pr = false := by
  subst hl hp; unfold mayU; exact decide_eq_false fun h2 => h h2.1
theorem mayU_for {n : Nat} {pr : List Int} {up : List Nat} (F : For n pr up) (hp : pr.length = n) (h0 : n ≤ 65536) : mayU (up.map fun n : Nat => (n : Int)) pr = true := by
  refine mayU_yes (by simp [F.len]) hp h0 fun i hi => ?_
  have e : (up.map fun n : Nat => (n : Int)).getD i 0 = (el up i : Nat) := by unfold el; simp [List.getD, F.len, hi]
  unfold mayAt
  rw [e]
  have h1 := F.lt i hi
  refine ⟨by omega, by omega, ?_⟩
  rcases F.ok i hi with h | h
  · left; omega
  · right; rwa [Int.toNat_natCast]
theorem for_mayU {xs pr : List Int} (h : mayU xs pr = true) : For xs.length pr (xs.map Int.toNat) ∧ (∀ i, i < xs.length → 0 ≤ xs.getD i 0) ∧ pr.length = xs.length := by
  unfold mayU at h
  obtain ⟨h1, h2, h⟩ := of_decide_eq_true h
  have e : ∀ j, j < xs.length → el (xs.map Int.toNat) j = (xs.getD j 0).toNat := fun j hj => by unfold el; simp [List.getD, hj]
  refine ⟨⟨by simp, fun i hi => ?_, fun i hi => ?_⟩, fun i hi => (h i hi).1, h1.symm⟩
  · rw [e i hi]; have := h i hi; unfold mayAt at this; omega
  · rw [e i hi]
    obtain ⟨a, b, c⟩ := h i hi
    rcases c with c | c
    · left; omega
    · exact .inr c

theorem below_v (a : Option Addr) (la ca : Nat) (pr : List Int) (x y : Nat) (w : World) {lo hi : Nat} (hp : Row lo hi w a la pr) (hx : x < la) (hy : y < la) (hm : la ≤ 1000000) (v : Bool) (hv : decide (bel pr x y) = v) :
    Calls Tryd.prog 123 #[.slice a la ca, .int .i64 (x : Int), .int .i64 (y : Int)] w fun e w' => e = .returned (.bool v) ∧ ∃ n, w' = w.drewN n := hv ▸ below_any a la ca pr x y w hp hx hy hm
theorem rbelow_v (a : Option Addr) (la ca : Nat) (pr : List Int) (x y : Nat) (w : World) {lo hi : Nat} (hp : Row lo hi w a la pr) (hx : x < la) (hy : y < la) (hm : la ≤ 1000000) (v : Bool) (hv : decide (bel pr x y) = v) :
    Calls Tryd.prog 81 #[.slice a la ca, .int .i64 (x : Int), .int .i64 (y : Int)] w fun e w' => e = .returned (.bool v) ∧ ∃ n, w' = w.drewN n := hv ▸ rbelow_any a la ca pr x y w hp hx hy hm

end Go.Proofs.YtpfcpeljfgmjgaaDoor

namespace Go.Proofs.YtpfcpeljfgmjgaaDoor
open Go.RowKit
set_option linter.unusedVariables false

/-- Root of whatever number: -1 where it is none of them. -/
def rootI (up : List Nat) (x : Int) : Int := if 0 ≤ x ∧ x < up.length then (rtu up x.toNat : Nat) else -1
theorem rootI_in {up : List Nat} {n x : Nat} (hl : up.length = n) (hx : x < n) : rootI up (x : Int) = (rtu up x : Nat) := by
  subst hl; unfold rootI; rw [if_pos (by omega), Int.toNat_natCast]
theorem rootI_out {up : List Nat} {n : Nat} {x : Int} (hl : up.length = n) (hx : ¬ (0 ≤ x ∧ x < n)) : rootI up x = -1 := by
  subst hl; unfold rootI; rw [if_neg hx]

end Go.Proofs.YtpfcpeljfgmjgaaDoor

namespace Go.Proofs.YtpfcpeljfgmjgaaDoor
open Go.RowKit
set_option linter.unusedVariables false

def Tk.cells (t : Tk) : List Value := [.int .i64 (t.k : Int), .int .i64 (t.x : Int), .int .i64 (t.y : Int), .int .i64 (t.st : Int), .int .i64 (t.u : Int), .int .i64 (t.v : Int), .int .i64 (t.w : Int), .int .i64 (t.r : Int), .bool t.dn, .int .i64 (t.res : Int)]
def Tk.val (t : Tk) : Value := .agg t.cells.toArray

theorem tk_val (k x y st u v w r : Nat) (dn : Bool) (res : Nat) : (⟨k, x, y, st, u, v, w, r, dn, res⟩ : Tk).val =
    .agg #[.int .i64 (k : Int), .int .i64 (x : Int), .int .i64 (y : Int), .int .i64 (st : Int), .int .i64 (u : Int), .int .i64 (v : Int), .int .i64 (w : Int), .int .i64 (r : Int), .bool dn, .int .i64 (res : Int)] := rfl


section
variable {w w' : World} {b : Nat} {t : TypeId} {c0 c1 c2 c3 c4 c5 c6 c7 c8 c9 : Value}
theorem Box.ten (h : Box w b t [c0, c1, c2, c3, c4, c5, c6, c7, c8, c9]) : w.cell? ⟨b, 0, none⟩ = some c0 ∧ w.cell? ⟨b, 1, none⟩ = some c1 ∧ w.cell? ⟨b, 2, none⟩ = some c2 ∧ w.cell? ⟨b, 3, none⟩ = some c3 ∧ w.cell? ⟨b, 4, none⟩ = some c4 ∧ w.cell? ⟨b, 5, none⟩ = some c5 ∧ w.cell? ⟨b, 6, none⟩ = some c6 ∧ w.cell? ⟨b, 7, none⟩ = some c7 ∧ w.cell? ⟨b, 8, none⟩ = some c8 ∧ w.cell? ⟨b, 9, none⟩ = some c9 :=
  ⟨h.cell 0, h.cell 1, h.cell 2, h.cell 3, h.cell 4, h.cell 5, h.cell 6, h.cell 7, h.cell 8, h.cell 9⟩
theorem Box.tenf (h : Box w b t [c0, c1, c2, c3, c4, c5, c6, c7, c8, c9]) : w.frozen? ⟨b, 0, none⟩ = false ∧ w.frozen? ⟨b, 1, none⟩ = false ∧ w.frozen? ⟨b, 2, none⟩ = false ∧ w.frozen? ⟨b, 3, none⟩ = false ∧ w.frozen? ⟨b, 4, none⟩ = false ∧ w.frozen? ⟨b, 5, none⟩ = false ∧ w.frozen? ⟨b, 6, none⟩ = false ∧ w.frozen? ⟨b, 7, none⟩ = false ∧ w.frozen? ⟨b, 8, none⟩ = false ∧ w.frozen? ⟨b, 9, none⟩ = false :=
  ⟨h.frozen 0, h.frozen 1, h.frozen 2, h.frozen 3, h.frozen 4, h.frozen 5, h.frozen 6, h.frozen 7, h.frozen 8, h.frozen 9⟩
end


/-- The way out of a function whose one result is a struct in a cell. -/
theorem below_two (w : World) (o1 o2 : Obj) : Below w.heap.size w ((w.alloc o1).alloc o2) := ((Below.refl _ _).alloc (Nat.le_refl _) _).alloc (by simp) _

set_option maxRecDepth 100000 in
theorem done_lit (k x y st u v ww r : Int) (dn : Bool) (res : Int) (n : Int) (w : World) :
    Calls Tryd.prog 122 #[.agg #[.int .i64 k, .int .i64 x, .int .i64 y, .int .i64 st, .int .i64 u, .int .i64 v, .int .i64 ww, .int .i64 r, .bool dn, .int .i64 res], .int .i64 n] w fun e w' => e = .returned (.agg #[.int .i64 k, .int .i64 x, .int .i64 y, .int .i64 st, .int .i64 u, .int .i64 v, .int .i64 ww, .int .i64 r, .bool true, .int .i64 n]) ∧ Below w.heap.size w w' := by
  go_enter Tryd.func122, Tryd.ntmps122
  go_wp2_with fail
  refine bodyPost_ret (v := .agg #[.int .i64 k, .int .i64 x, .int .i64 y, .int .i64 st, .int .i64 u, .int .i64 v, .int .i64 ww, .int .i64 r, .bool true, .int .i64 n]) (by simp only [results, Tryd.results122]; go_simp) rfl ⟨rfl, ?_⟩
  exact below_two _ _ _

set_option maxRecDepth 100000 in
theorem rdone_lit (k x y st u v ww r : Int) (dn : Bool) (res : Int) (n : Int) (w : World) :
    Calls Tryd.prog 80 #[.agg #[.int .i64 k, .int .i64 x, .int .i64 y, .int .i64 st, .int .i64 u, .int .i64 v, .int .i64 ww, .int .i64 r, .bool dn, .int .i64 res], .int .i64 n] w fun e w' => e = .returned (.agg #[.int .i64 k, .int .i64 x, .int .i64 y, .int .i64 st, .int .i64 u, .int .i64 v, .int .i64 ww, .int .i64 r, .bool true, .int .i64 n]) ∧ Below w.heap.size w w' := by
  go_enter Tryd.func80, Tryd.ntmps80
  go_wp2_with fail
  refine bodyPost_ret (v := .agg #[.int .i64 k, .int .i64 x, .int .i64 y, .int .i64 st, .int .i64 u, .int .i64 v, .int .i64 ww, .int .i64 r, .bool true, .int .i64 n]) (by simp only [results, Tryd.results80]; go_simp) rfl ⟨rfl, ?_⟩
  exact below_two _ _ _

set_option maxRecDepth 100000 in
set_option maxHeartbeats 1000000 in
theorem first_done (k x y st u v ww r : Int) (dn : Bool) (res : Int) (w : World) (hk : (k == 1) = true) :
    Calls Tryd.prog 104 #[.agg #[.int .i64 k, .int .i64 x, .int .i64 y, .int .i64 st, .int .i64 u, .int .i64 v, .int .i64 ww, .int .i64 r, .bool dn, .int .i64 res]] w fun e w' => e = .returned (.agg #[.int .i64 k, .int .i64 x, .int .i64 y, .int .i64 st, .int .i64 u, .int .i64 v, .int .i64 ww, .int .i64 r, .bool true, .int .i64 u]) ∧ Below w.heap.size w w' := by
  go_enter Tryd.func104, Tryd.ntmps104
  go_wp2_with fail
  refine (done_lit _ _ _ _ _ _ _ _ _ _ _ _).mono ?_
  rintro e w1 ⟨rfl, hb⟩
  have hs := hb.size
  simp only [World.size_alloc] at hs
  have bx := (Box.new (w.alloc (.cells #[.int .i64 k, .int .i64 x, .int .i64 y, .int .i64 st, .int .i64 u, .int .i64 v, .int .i64 ww, .int .i64 r, .bool dn, .int .i64 res] 81)) 81 [.int .i64 0, .int .i64 0, .int .i64 0, .int .i64 0, .int .i64 0, .int .i64 0, .int .i64 0, .int .i64 0, .bool false, .int .i64 0]).below hb
  rw [World.size_alloc] at bx
  obtain ⟨_, _, _, _, _, _, _, _, _, _⟩ := bx.ten
  obtain ⟨_, _, _, _, _, _, _, _, _, _⟩ := bx.tenf
  have hlt : w.heap.size + 1 < w1.heap.size := by omega
  have HB : Hid (Below w.heap.size w w1) := (below_two _ _ _).trans (hb.mono (by simp; omega))
  clear hb bx hs
  go_wp2_with fail
  refine bodyPost_ret (v := .agg #[.int .i64 k, .int .i64 x, .int .i64 y, .int .i64 st, .int .i64 u, .int .i64 v, .int .i64 ww, .int .i64 r, .bool true, .int .i64 u]) (by simp only [results, Tryd.results104]; go_simp) rfl ⟨rfl, ?_⟩
  exact (((((((((HB.out.setCell (Nat.le_succ _) _).setCell (Nat.le_succ _) _).setCell (Nat.le_succ _) _).setCell (Nat.le_succ _) _).setCell (Nat.le_succ _) _).setCell (Nat.le_succ _) _).setCell (Nat.le_succ _) _).setCell (Nat.le_succ _) _).setCell (Nat.le_succ _) _).setCell (Nat.le_succ _) _

set_option maxRecDepth 100000 in
set_option maxHeartbeats 1000000 in
theorem first_on (k x y st u v ww r : Int) (dn : Bool) (res : Int) (w : World) (hk : (k == 1) = false) :
    Calls Tryd.prog 104 #[.agg #[.int .i64 k, .int .i64 x, .int .i64 y, .int .i64 st, .int .i64 u, .int .i64 v, .int .i64 ww, .int .i64 r, .bool dn, .int .i64 res]] w fun e w' => e = .returned (.agg #[.int .i64 k, .int .i64 x, .int .i64 y, .int .i64 4, .int .i64 u, .int .i64 v, .int .i64 ww, .int .i64 r, .bool dn, .int .i64 res]) ∧ Below w.heap.size w w' := by
  go_enter Tryd.func104, Tryd.ntmps104
  go_wp2_with fail
  refine bodyPost_ret (v := .agg #[.int .i64 k, .int .i64 x, .int .i64 y, .int .i64 4, .int .i64 u, .int .i64 v, .int .i64 ww, .int .i64 r, .bool dn, .int .i64 res]) (by simp only [results, Tryd.results104]; go_simp) rfl ⟨rfl, ?_⟩
  exact below_two _ _ _

set_option maxRecDepth 100000 in
set_option maxHeartbeats 1000000 in
theorem rfirst_done (k x y st u v ww r : Int) (dn : Bool) (res : Int) (w : World) (hk : (k == 1) = true) :
    Calls Tryd.prog 77 #[.agg #[.int .i64 k, .int .i64 x, .int .i64 y, .int .i64 st, .int .i64 u, .int .i64 v, .int .i64 ww, .int .i64 r, .bool dn, .int .i64 res]] w fun e w' => e = .returned (.agg #[.int .i64 k, .int .i64 x, .int .i64 y, .int .i64 st, .int .i64 u, .int .i64 v, .int .i64 ww, .int .i64 r, .bool true, .int .i64 u]) ∧ Below w.heap.size w w' := by
  go_enter Tryd.func77, Tryd.ntmps77
  go_wp2_with fail
  refine (rdone_lit _ _ _ _ _ _ _ _ _ _ _ _).mono ?_
  rintro e w1 ⟨rfl, hb⟩
  have hs := hb.size
  simp only [World.size_alloc] at hs
  have bx := (Box.new (w.alloc (.cells #[.int .i64 k, .int .i64 x, .int .i64 y, .int .i64 st, .int .i64 u, .int .i64 v, .int .i64 ww, .int .i64 r, .bool dn, .int .i64 res] 81)) 81 [.int .i64 0, .int .i64 0, .int .i64 0, .int .i64 0, .int .i64 0, .int .i64 0, .int .i64 0, .int .i64 0, .bool false, .int .i64 0]).below hb
  rw [World.size_alloc] at bx
  obtain ⟨_, _, _, _, _, _, _, _, _, _⟩ := bx.ten
  obtain ⟨_, _, _, _, _, _, _, _, _, _⟩ := bx.tenf
  have hlt : w.heap.size + 1 < w1.heap.size := by omega
  have HB : Hid (Below w.heap.size w w1) := (below_two _ _ _).trans (hb.mono (by simp; omega))
  clear hb bx hs
  go_wp2_with fail
  refine bodyPost_ret (v := .agg #[.int .i64 k, .int .i64 x, .int .i64 y, .int .i64 st, .int .i64 u, .int .i64 v, .int .i64 ww, .int .i64 r, .bool true, .int .i64 u]) (by simp only [results, Tryd.results77]; go_simp) rfl ⟨rfl, ?_⟩
  exact (((((((((HB.out.setCell (Nat.le_succ _) _).setCell (Nat.le_succ _) _).setCell (Nat.le_succ _) _).setCell (Nat.le_succ _) _).setCell (Nat.le_succ _) _).setCell (Nat.le_succ _) _).setCell (Nat.le_succ _) _).setCell (Nat.le_succ _) _).setCell (Nat.le_succ _) _).setCell (Nat.le_succ _) _

set_option maxRecDepth 100000 in
set_option maxHeartbeats 1000000 in
theorem rfirst_on (k x y st u v ww r : Int) (dn : Bool) (res : Int) (w : World) (hk : (k == 1) = false) :
    Calls Tryd.prog 77 #[.agg #[.int .i64 k, .int .i64 x, .int .i64 y, .int .i64 st, .int .i64 u, .int .i64 v, .int .i64 ww, .int .i64 r, .bool dn, .int .i64 res]] w fun e w' => e = .returned (.agg #[.int .i64 k, .int .i64 x, .int .i64 y, .int .i64 4, .int .i64 u, .int .i64 v, .int .i64 ww, .int .i64 r, .bool dn, .int .i64 res]) ∧ Below w.heap.size w w' := by
  go_enter Tryd.func77, Tryd.ntmps77
  go_wp2_with fail
  refine bodyPost_ret (v := .agg #[.int .i64 k, .int .i64 x, .int .i64 y, .int .i64 4, .int .i64 u, .int .i64 v, .int .i64 ww, .int .i64 r, .bool dn, .int .i64 res]) (by simp only [results, Tryd.results77]; go_simp) rfl ⟨rfl, ?_⟩
  exact below_two _ _ _

set_option maxRecDepth 100000 in
set_option maxHeartbeats 1000000 in
theorem second_done1 (k x y st u v ww r : Int) (dn : Bool) (res : Int) (w : World) (hu : (u == v) = true) (hk : (k == 2) = true) :
    Calls Tryd.prog 105 #[.agg #[.int .i64 k, .int .i64 x, .int .i64 y, .int .i64 st, .int .i64 u, .int .i64 v, .int .i64 ww, .int .i64 r, .bool dn, .int .i64 res]] w fun e w' => e = .returned (.agg #[.int .i64 k, .int .i64 x, .int .i64 y, .int .i64 st, .int .i64 u, .int .i64 v, .int .i64 ww, .int .i64 r, .bool true, .int .i64 1]) ∧ Below w.heap.size w w' := by
  go_enter Tryd.func105, Tryd.ntmps105
  go_wp2_with fail
  refine (done_lit _ _ _ _ _ _ _ _ _ _ _ _).mono ?_
  rintro e w1 ⟨rfl, hb⟩
  have hs := hb.size
  simp only [World.size_alloc] at hs
  have bx := (Box.new (w.alloc (.cells #[.int .i64 k, .int .i64 x, .int .i64 y, .int .i64 st, .int .i64 u, .int .i64 v, .int .i64 ww, .int .i64 r, .bool dn, .int .i64 res] 81)) 81 [.int .i64 0, .int .i64 0, .int .i64 0, .int .i64 0, .int .i64 0, .int .i64 0, .int .i64 0, .int .i64 0, .bool false, .int .i64 0]).below hb
  rw [World.size_alloc] at bx
  obtain ⟨_, _, _, _, _, _, _, _, _, _⟩ := bx.ten
  obtain ⟨_, _, _, _, _, _, _, _, _, _⟩ := bx.tenf
  have hlt : w.heap.size + 1 < w1.heap.size := by omega
  have HB : Hid (Below w.heap.size w w1) := (below_two _ _ _).trans (hb.mono (by simp; omega))
  clear hb bx hs
  go_wp2_with fail
  refine bodyPost_ret (v := .agg #[.int .i64 k, .int .i64 x, .int .i64 y, .int .i64 st, .int .i64 u, .int .i64 v, .int .i64 ww, .int .i64 r, .bool true, .int .i64 1]) (by simp only [results, Tryd.results105]; go_simp) rfl ⟨rfl, ?_⟩
  exact (((((((((HB.out.setCell (Nat.le_succ _) _).setCell (Nat.le_succ _) _).setCell (Nat.le_succ _) _).setCell (Nat.le_succ _) _).setCell (Nat.le_succ _) _).setCell (Nat.le_succ _) _).setCell (Nat.le_succ _) _).setCell (Nat.le_succ _) _).setCell (Nat.le_succ _) _).setCell (Nat.le_succ _) _

set_option maxRecDepth 100000 in
set_option maxHeartbeats 1000000 in
theorem second_done0 (k x y st u v ww r : Int) (dn : Bool) (res : Int) (w : World) (hu : (u == v) = true) (hk : (k == 2) = false) :
    Calls Tryd.prog 105 #[.agg #[.int .i64 k, .int .i64 x, .int .i64 y, .int .i64 st, .int .i64 u, .int .i64 v, .int .i64 ww, .int .i64 r, .bool dn, .int .i64 res]] w fun e w' => e = .returned (.agg #[.int .i64 k, .int .i64 x, .int .i64 y, .int .i64 st, .int .i64 u, .int .i64 v, .int .i64 ww, .int .i64 r, .bool true, .int .i64 0]) ∧ Below w.heap.size w w' := by
  go_enter Tryd.func105, Tryd.ntmps105
  go_wp2_with fail
  refine (done_lit _ _ _ _ _ _ _ _ _ _ _ _).mono ?_
  rintro e w1 ⟨rfl, hb⟩
  have hs := hb.size
  simp only [World.size_alloc] at hs
  have bx := (Box.new (w.alloc (.cells #[.int .i64 k, .int .i64 x, .int .i64 y, .int .i64 st, .int .i64 u, .int .i64 v, .int .i64 ww, .int .i64 r, .bool dn, .int .i64 res] 81)) 81 [.int .i64 0, .int .i64 0, .int .i64 0, .int .i64 0, .int .i64 0, .int .i64 0, .int .i64 0, .int .i64 0, .bool false, .int .i64 0]).below hb
  rw [World.size_alloc] at bx
  obtain ⟨_, _, _, _, _, _, _, _, _, _⟩ := bx.ten
  obtain ⟨_, _, _, _, _, _, _, _, _, _⟩ := bx.tenf
  have hlt : w.heap.size + 1 < w1.heap.size := by omega
  have HB : Hid (Below w.heap.size w w1) := (below_two _ _ _).trans (hb.mono (by simp; omega))
  clear hb bx hs
  go_wp2_with fail
  refine bodyPost_ret (v := .agg #[.int .i64 k, .int .i64 x, .int .i64 y, .int .i64 st, .int .i64 u, .int .i64 v, .int .i64 ww, .int .i64 r, .bool true, .int .i64 0]) (by simp only [results, Tryd.results105]; go_simp) rfl ⟨rfl, ?_⟩
  exact (((((((((HB.out.setCell (Nat.le_succ _) _).setCell (Nat.le_succ _) _).setCell (Nat.le_succ _) _).setCell (Nat.le_succ _) _).setCell (Nat.le_succ _) _).setCell (Nat.le_succ _) _).setCell (Nat.le_succ _) _).setCell (Nat.le_succ _) _).setCell (Nat.le_succ _) _).setCell (Nat.le_succ _) _

set_option maxRecDepth 100000 in
set_option maxHeartbeats 1000000 in
theorem second_on7 (k x y st u v ww r : Int) (dn : Bool) (res : Int) (w : World) (hu : (u == v) = false) (hk : (k == 2) = true) :
    Calls Tryd.prog 105 #[.agg #[.int .i64 k, .int .i64 x, .int .i64 y, .int .i64 st, .int .i64 u, .int .i64 v, .int .i64 ww, .int .i64 r, .bool dn, .int .i64 res]] w fun e w' => e = .returned (.agg #[.int .i64 k, .int .i64 x, .int .i64 y, .int .i64 7, .int .i64 u, .int .i64 v, .int .i64 ww, .int .i64 r, .bool dn, .int .i64 res]) ∧ Below w.heap.size w w' := by
  go_enter Tryd.func105, Tryd.ntmps105
  go_wp2_with fail
  refine bodyPost_ret (v := .agg #[.int .i64 k, .int .i64 x, .int .i64 y, .int .i64 7, .int .i64 u, .int .i64 v, .int .i64 ww, .int .i64 r, .bool dn, .int .i64 res]) (by simp only [results, Tryd.results105]; go_simp) rfl ⟨rfl, ?_⟩
  exact below_two _ _ _

set_option maxRecDepth 100000 in
set_option maxHeartbeats 1000000 in
theorem second_on8 (k x y st u v ww r : Int) (dn : Bool) (res : Int) (w : World) (hu : (u == v) = false) (hk : (k == 2) = false) :
    Calls Tryd.prog 105 #[.agg #[.int .i64 k, .int .i64 x, .int .i64 y, .int .i64 st, .int .i64 u, .int .i64 v, .int .i64 ww, .int .i64 r, .bool dn, .int .i64 res]] w fun e w' => e = .returned (.agg #[.int .i64 k, .int .i64 x, .int .i64 y, .int .i64 8, .int .i64 u, .int .i64 v, .int .i64 ww, .int .i64 r, .bool dn, .int .i64 res]) ∧ Below w.heap.size w w' := by
  go_enter Tryd.func105, Tryd.ntmps105
  go_wp2_with fail
  refine bodyPost_ret (v := .agg #[.int .i64 k, .int .i64 x, .int .i64 y, .int .i64 8, .int .i64 u, .int .i64 v, .int .i64 ww, .int .i64 r, .bool dn, .int .i64 res]) (by simp only [results, Tryd.results105]; go_simp) rfl ⟨rfl, ?_⟩
  exact below_two _ _ _

set_option maxRecDepth 100000 in
set_option maxHeartbeats 1000000 in
theorem rsecond_done1 (k x y st u v ww r : Int) (dn : Bool) (res : Int) (w : World) (hu : (u == v) = true) (hk : (k == 2) = true) :
    Calls Tryd.prog 79 #[.agg #[.int .i64 k, .int .i64 x, .int .i64 y, .int .i64 st, .int .i64 u, .int .i64 v, .int .i64 ww, .int .i64 r, .bool dn, .int .i64 res]] w fun e w' => e = .returned (.agg #[.int .i64 k, .int .i64 x, .int .i64 y, .int .i64 st, .int .i64 u, .int .i64 v, .int .i64 ww, .int .i64 r, .bool true, .int .i64 1]) ∧ Below w.heap.size w w' := by
  go_enter Tryd.func79, Tryd.ntmps79
  go_wp2_with fail
  refine (rdone_lit _ _ _ _ _ _ _ _ _ _ _ _).mono ?_
  rintro e w1 ⟨rfl, hb⟩
  have hs := hb.size
  simp only [World.size_alloc] at hs
  have bx := (Box.new (w.alloc (.cells #[.int .i64 k, .int .i64 x, .int .i64 y, .int .i64 st, .int .i64 u, .int .i64 v, .int .i64 ww, .int .i64 r, .bool dn, .int .i64 res] 81)) 81 [.int .i64 0, .int .i64 0, .int .i64 0, .int .i64 0, .int .i64 0, .int .i64 0, .int .i64 0, .int .i64 0, .bool false, .int .i64 0]).below hb
  rw [World.size_alloc] at bx
  obtain ⟨_, _, _, _, _, _, _, _, _, _⟩ := bx.ten
  obtain ⟨_, _, _, _, _, _, _, _, _, _⟩ := bx.tenf
  have hlt : w.heap.size + 1 < w1.heap.size := by omega
  have HB : Hid (Below w.heap.size w w1) := (below_two _ _ _).trans (hb.mono (by simp; omega))
  clear hb bx hs
  go_wp2_with fail
  refine bodyPost_ret (v := .agg #[.int .i64 k, .int .i64 x, .int .i64 y, .int .i64 st, .int .i64 u, .int .i64 v, .int .i64 ww, .int .i64 r, .bool true, .int .i64 1]) (by simp only [results, Tryd.results79]; go_simp) rfl ⟨rfl, ?_⟩
  exact (((((((((HB.out.setCell (Nat.le_succ _) _).setCell (Nat.le_succ _) _).setCell (Nat.le_succ _) _).setCell (Nat.le_succ _) _).setCell (Nat.le_succ _) _).setCell (Nat.le_succ _) _).setCell (Nat.le_succ _) _).setCell (Nat.le_succ _) _).setCell (Nat.le_succ _) _).setCell (Nat.le_succ _) _

set_option maxRecDepth 100000 in
set_option maxHeartbeats 1000000 in
theorem rsecond_done0 (k x y st u v ww r : Int) (dn : Bool) (res : Int) (w : World) (hu : (u == v) = true) (hk : (k == 2) = false) :
    Calls Tryd.prog 79 #[.agg #[.int .i64 k, .int .i64 x, .int .i64 y, .int .i64 st, .int .i64 u, .int .i64 v, .int .i64 ww, .int .i64 r, .bool dn, .int .i64 res]] w fun e w' => e = .returned (.agg #[.int .i64 k, .int .i64 x, .int .i64 y, .int .i64 st, .int .i64 u, .int .i64 v, .int .i64 ww, .int .i64 r, .bool true, .int .i64 0]) ∧ Below w.heap.size w w' := by
  go_enter Tryd.func79, Tryd.ntmps79
  go_wp2_with fail
  refine (rdone_lit _ _ _ _ _ _ _ _ _ _ _ _).mono ?_
  rintro e w1 ⟨rfl, hb⟩
  have hs := hb.size
  simp only [World.size_alloc] at hs
  have bx := (Box.new (w.alloc (.cells #[.int .i64 k, .int .i64 x, .int .i64 y, .int .i64 st, .int .i64 u, .int .i64 v, .int .i64 ww, .int .i64 r, .bool dn, .int .i64 res] 81)) 81 [.int .i64 0, .int .i64 0, .int .i64 0, .int .i64 0, .int .i64 0, .int .i64 0, .int .i64 0, .int .i64 0, .bool false, .int .i64 0]).below hb
  rw [World.size_alloc] at bx
  obtain ⟨_, _, _, _, _, _, _, _, _, _⟩ := bx.ten
  obtain ⟨_, _, _, _, _, _, _, _, _, _⟩ := bx.tenf
  have hlt : w.heap.size + 1 < w1.heap.size := by omega
  have HB : Hid (Below w.heap.size w w1) := (below_two _ _ _).trans (hb.mono (by simp; omega))
  clear hb bx hs
  go_wp2_with fail
  refine bodyPost_ret (v := .agg #[.int .i64 k, .int .i64 x, .int .i64 y, .int .i64 st, .int .i64 u, .int .i64 v, .int .i64 ww, .int .i64 r, .bool true, .int .i64 0]) (by simp only [results, Tryd.results79]; go_simp) rfl ⟨rfl, ?_⟩
  exact (((((((((HB.out.setCell (Nat.le_succ _) _).setCell (Nat.le_succ _) _).setCell (Nat.le_succ _) _).setCell (Nat.le_succ _) _).setCell (Nat.le_succ _) _).setCell (Nat.le_succ _) _).setCell (Nat.le_succ _) _).setCell (Nat.le_succ _) _).setCell (Nat.le_succ _) _).setCell (Nat.le_succ _) _

set_option maxRecDepth 100000 in
set_option maxHeartbeats 1000000 in
theorem rsecond_on7 (k x y st u v ww r : Int) (dn : Bool) (res : Int) (w : World) (hu : (u == v) = false) (hk : (k == 3) = false) :
    Calls Tryd.prog 79 #[.agg #[.int .i64 k, .int .i64 x, .int .i64 y, .int .i64 st, .int .i64 u, .int .i64 v, .int .i64 ww, .int .i64 r, .bool dn, .int .i64 res]] w fun e w' => e = .returned (.agg #[.int .i64 k, .int .i64 x, .int .i64 y, .int .i64 7, .int .i64 u, .int .i64 v, .int .i64 ww, .int .i64 r, .bool dn, .int .i64 res]) ∧ Below w.heap.size w w' := by
  go_enter Tryd.func79, Tryd.ntmps79
  go_wp2_with fail
  refine bodyPost_ret (v := .agg #[.int .i64 k, .int .i64 x, .int .i64 y, .int .i64 7, .int .i64 u, .int .i64 v, .int .i64 ww, .int .i64 r, .bool dn, .int .i64 res]) (by simp only [results, Tryd.results79]; go_simp) rfl ⟨rfl, ?_⟩
  exact below_two _ _ _

set_option maxRecDepth 100000 in
set_option maxHeartbeats 1000000 in
theorem rsecond_on8 (k x y st u v ww r : Int) (dn : Bool) (res : Int) (w : World) (hu : (u == v) = false) (hk : (k == 3) = true) :
    Calls Tryd.prog 79 #[.agg #[.int .i64 k, .int .i64 x, .int .i64 y, .int .i64 st, .int .i64 u, .int .i64 v, .int .i64 ww, .int .i64 r, .bool dn, .int .i64 res]] w fun e w' => e = .returned (.agg #[.int .i64 k, .int .i64 x, .int .i64 y, .int .i64 8, .int .i64 u, .int .i64 v, .int .i64 ww, .int .i64 r, .bool dn, .int .i64 res]) ∧ Below w.heap.size w w' := by
  go_enter Tryd.func79, Tryd.ntmps79
  go_wp2_with fail
  refine bodyPost_ret (v := .agg #[.int .i64 k, .int .i64 x, .int .i64 y, .int .i64 8, .int .i64 u, .int .i64 v, .int .i64 ww, .int .i64 r, .bool dn, .int .i64 res]) (by simp only [results, Tryd.results79]; go_simp) rfl ⟨rfl, ?_⟩
  exact below_two _ _ _


end Go.Proofs.YtpfcpeljfgmjgaaDoor
