/- Mathematics of workers that do operations on cells, one step at a time, who is next by picks: the states, that all ends, how soon. No program. -/
import Derived.Test.YthhcchdjeeigpaaDoorCuf2
import Derived.Test.YthhcchdjeeigpaaDoorWhom
namespace Go.Proofs.YthhcchdjeeigpaaDoor
set_option linter.unusedVariables false
set_option linter.unusedSimpArgs false

/-- An operation: its kind, X, Y (of a find: any number). -/
structure Opn where
  k : Nat
  x : Nat
  y : Int
def Opn.tk (o : Opn) : Tk := ⟨o.k, o.x, if o.k = 1 then 0 else o.y.toNat, 1, o.x, if o.k = 1 then 0 else o.y.toNat, 0, 0, false, 0⟩
def Opn.ok (n : Nat) (o : Opn) : Prop := 1 ≤ o.k ∧ o.k ≤ 3 ∧ o.x < n ∧ (o.k ≠ 1 → 0 ≤ o.y ∧ o.y < n)

/-- An event: who, the operation, its result, its begin, place, end. -/
structure Ev where
  wk : Int
  k : Int
  x : Int
  y : Int
  res : Int
  bg : Int
  pl : Int
  en : Int
def ev0 : Ev := ⟨0, 0, 0, 0, 0, 0, 0, 0⟩
theorem Ev.eq_iff {a b : Ev} : a = b ↔ a.wk = b.wk ∧ a.k = b.k ∧ a.x = b.x ∧ a.y = b.y ∧ a.res = b.res ∧ a.bg = b.bg ∧ a.pl = b.pl ∧ a.en = b.en := by
  constructor
  · rintro rfl; exact ⟨rfl, rfl, rfl, rfl, rfl, rfl, rfl, rfl⟩
  · rintro ⟨h1, h2, h3, h4, h5, h6, h7, h8⟩
    cases a; cases b; simp_all
instance : DecidableEq Ev := fun _ _ => decidable_of_iff _ Ev.eq_iff.symm

/-- A worker: what has not begun; whether one is under way, which (y: its Y); when it began; when its second find ended with two roots. -/
structure Wk where
  left : List Opn
  on : Bool
  t : Tk
  y : Int
  bg : Nat
  mt : Nat
def tk0 : Tk := ⟨0, 0, 0, 0, 0, 0, 0, 0, false, 0⟩
def Wk.new (l : List Opn) : Wk := ⟨l, false, tk0, 0, 0, 0⟩
def Wk.en (k : Wk) : Bool := k.on || !k.left.isEmpty
def Wk.beg (k : Wk) (tm : Nat) : Wk := if k.on then k else match k.left with
  | [] => k
  | o :: r => ⟨r, true, o.tk, o.y, tm, k.mt⟩
def Wk.step (k : Wk) (up : List Nat) (pr : List Int) (tm : Nat) : Wk :=
  ⟨k.left, !(tks up pr k.t).dn, tks up pr k.t, k.y, k.bg, if (tks up pr k.t).st = 7 ∧ k.t.st ≠ 7 then tm else k.mt⟩
def evOf (w : Nat) (s : Wk) (tm : Nat) : Ev := ⟨w, s.t.k, s.t.x, s.y, s.t.res, s.bg, if s.t.k = 2 ∧ s.t.res = 0 then s.mt else tm, tm⟩

structure Gm where
  up : List Nat
  ws : List Wk
  l : List Ev
  tm : Nat
  last : Int
def Gm.wk (g : Gm) (w : Nat) : Wk := g.ws.getD w (Wk.new [])
def Gm.en (g : Gm) : List Bool := g.ws.map Wk.en
def Gm.bg (g : Gm) (w : Nat) : Wk := (g.wk w).beg (g.tm + 1)
def Gm.sp (pr : List Int) (g : Gm) (w : Nat) : Wk := (g.bg w).step g.up pr (g.tm + 1)
/-- Worker w goes on. -/
def adv (pr : List Int) (g : Gm) (w : Nat) : Gm :=
  ⟨ups g.up pr (g.bg w).t, g.ws.set w (g.sp pr w), if (g.sp pr w).t.dn then g.l ++ [evOf w (g.sp pr w) (g.tm + 1)] else g.l, g.tm + 1, w⟩
def Gm.who (picks : List Int) (g : Gm) : Nat := whoN picks g.tm g.last g.en
def run (pr picks : List Int) (g : Gm) : Nat → Gm
  | 0 => g
  | f + 1 => if on 0 (run pr picks g f).en = [] then run pr picks g f else adv pr (run pr picks g f) ((run pr picks g f).who picks)
def gm0 (n : Nat) (ss : List (List Opn)) : Gm := ⟨List.range n, ss.map Wk.new, [], 0, -1⟩

theorem Gm.who_lt {picks : List Int} {g : Gm} (h : on 0 g.en ≠ []) : g.who picks < g.ws.length := by
  have := (whoN_en (picks := picks) (tm := g.tm) (last := g.last) h).1
  unfold Gm.who
  simpa [Gm.en] using this
theorem Gm.who_en {picks : List Int} {g : Gm} (h : on 0 g.en ≠ []) : (g.wk (g.who picks)).en = true := by
  have h1 := Gm.who_lt (picks := picks) h
  have := (whoN_en (picks := picks) (tm := g.tm) (last := g.last) h).2
  unfold Gm.wk
  rw [List.getD_eq_getElem?_getD, List.getElem?_eq_getElem h1]
  change g.en.getD (g.who picks) false = true at this
  rw [List.getD_eq_getElem?_getD, List.getElem?_eq_getElem (by simpa [Gm.en] using h1)] at this
  simpa [Gm.en] using this
theorem Gm.wk_mem {g : Gm} {w : Nat} (h : w < g.ws.length) : g.wk w ∈ g.ws := by
  unfold Gm.wk
  rw [List.getD_eq_getElem?_getD, List.getElem?_eq_getElem h]; simp

/-! ### What holds all along -/
structure WOk (n : Nat) (pr : List Int) (up : List Nat) (k : Wk) : Prop where
  l : ∀ o ∈ k.left, o.ok n
  i : k.on = true → Inv n pr up k.t ∧ k.t.dn = false
  y : k.on = true → k.t.k ≠ 1 → k.y = (k.t.y : Int)
  z : k.on = true → k.t.k = 1 → k.t.y = 0 ∧ k.t.v = 0
structure GInv (n : Nat) (pr : List Int) (g : Gm) : Prop where
  F : For n pr g.up
  ok : ∀ k ∈ g.ws, WOk n pr g.up k

theorem Opn.inv {n : Nat} {pr : List Int} {up : List Nat} {o : Opn} (h : o.ok n) : Inv n pr up o.tk := by
  obtain ⟨h1, h2, h3, h4⟩ := h
  have hy : (if o.k = 1 then 0 else o.y.toNat) < n := by
    split
    · omega
    · next e => have := h4 e; omega
  exact inv_new h1 h2 h3 hy

theorem fst_keeps (t : Tk) : t.fst.k = t.k ∧ t.fst.x = t.x ∧ t.fst.y = t.y := by unfold Tk.fst; split <;> exact ⟨rfl, rfl, rfl⟩
theorem snd_keeps (t : Tk) : t.snd.k = t.k ∧ t.snd.x = t.x ∧ t.snd.y = t.y := by
  unfold Tk.snd
  split
  · split <;> exact ⟨rfl, rfl, rfl⟩
  · exact ⟨rfl, rfl, rfl⟩
theorem fst_v (t : Tk) : t.fst.v = t.v := by unfold Tk.fst; split <;> rfl
theorem tks_keeps (up : List Nat) (pr : List Int) (t : Tk) : (tks up pr t).k = t.k ∧ (tks up pr t).x = t.x ∧ (tks up pr t).y = t.y := by
  have hf := fst_keeps
  have hs := snd_keeps
  unfold tks
  by_cases h : t.dn = true
  · rw [if_pos h]; exact ⟨rfl, rfl, rfl⟩
  rw [if_neg h]
  by_cases h1 : t.st = 1
  · rw [if_pos h1]
    by_cases e : el up t.u = t.u
    · rw [if_pos e]; exact hf _
    · rw [if_neg e]; exact ⟨rfl, rfl, rfl⟩
  rw [if_neg h1]
  by_cases h2 : t.st = 2
  · rw [if_pos h2]
    by_cases e : el up t.w = t.w
    · rw [if_pos e]; exact hf _
    · rw [if_neg e]; exact ⟨rfl, rfl, rfl⟩
  rw [if_neg h2]
  by_cases h3 : t.st = 3
  · rw [if_pos h3]
    exact ⟨rfl, rfl, rfl⟩
  rw [if_neg h3]
  by_cases h4 : t.st = 4
  · rw [if_pos h4]
    by_cases e : el up t.v = t.v
    · rw [if_pos e]; exact hs _
    · rw [if_neg e]; exact ⟨rfl, rfl, rfl⟩
  rw [if_neg h4]
  by_cases h5 : t.st = 5
  · rw [if_pos h5]
    by_cases e : el up t.w = t.w
    · rw [if_pos e]; exact hs _
    · rw [if_neg e]; exact ⟨rfl, rfl, rfl⟩
  rw [if_neg h5]
  by_cases h6 : t.st = 6
  · rw [if_pos h6]
    exact ⟨rfl, rfl, rfl⟩
  rw [if_neg h6]
  by_cases h7 : t.st = 7
  · rw [if_pos h7]
    by_cases e : el up t.u = t.u
    · rw [if_pos e]; exact ⟨rfl, rfl, rfl⟩
    · rw [if_neg e]; exact ⟨rfl, rfl, rfl⟩
  rw [if_neg h7]
  by_cases h8 : t.st = 8
  · rw [if_pos h8]
    by_cases b : bel pr t.u t.v
    · rw [if_pos b]
      by_cases e : el up t.u = t.u
      · rw [if_pos e]; exact ⟨rfl, rfl, rfl⟩
      · rw [if_neg e]; exact ⟨rfl, rfl, rfl⟩
    · rw [if_neg b]
      by_cases e : el up t.v = t.v
      · rw [if_pos e]; exact ⟨rfl, rfl, rfl⟩
      · rw [if_neg e]; exact ⟨rfl, rfl, rfl⟩
  rw [if_neg h8]
  exact ⟨rfl, rfl, rfl⟩
theorem tks_v {n : Nat} {pr : List Int} {up : List Nat} {t : Tk} (I : Inv n pr up t) (hk : t.k = 1) : (tks up pr t).v = t.v := by
  have h4 : ¬ 4 ≤ t.st := fun h => I.kk h hk
  unfold tks
  by_cases h : t.dn = true
  · rw [if_pos h] <;> rfl
  rw [if_neg h]
  by_cases h1 : t.st = 1
  · rw [if_pos h1]
    by_cases e : el up t.u = t.u
    · rw [if_pos e]; exact fst_v _
    · rw [if_neg e] <;> rfl
  rw [if_neg h1]
  by_cases h2 : t.st = 2
  · rw [if_pos h2]
    by_cases e : el up t.w = t.w
    · rw [if_pos e]; exact fst_v _
    · rw [if_neg e] <;> rfl
  rw [if_neg h2]
  by_cases h3 : t.st = 3
  · rw [if_pos h3]
  rw [if_neg h3]
  rw [if_neg (by omega), if_neg (by omega), if_neg (by omega), if_neg (by omega), if_neg (by omega)]

/-- The worker that goes on has one under way then. -/
theorem beg_ok {n : Nat} {pr : List Int} {up : List Nat} {k : Wk} (h : WOk n pr up k) (he : k.en = true) (tm : Nat) : (k.beg tm).on = true ∧ WOk n pr up (k.beg tm) := by
  unfold Wk.beg
  split
  · next e => exact ⟨e, h⟩
  · next e =>
    cases hl : k.left with
    | nil => simp [Wk.en, hl] at he; exact absurd he e
    | cons o r =>
      have h1 := h.l
      rw [hl] at h1
      have ho := h1 o (by simp)
      refine ⟨rfl, ⟨fun q hq => h1 q (by simp [hq]), fun _ => ⟨Opn.inv ho, rfl⟩, fun _ hk => ?_, fun _ hk => ?_⟩⟩
      · change o.k ≠ 1 at hk
        have := ho.2.2.2 hk
        show o.y = ((if o.k = 1 then 0 else o.y.toNat : Nat) : Int)
        rw [if_neg hk]; omega
      · change o.k = 1 at hk
        show (if o.k = 1 then 0 else o.y.toNat) = 0 ∧ (if o.k = 1 then 0 else o.y.toNat) = 0
        simp [hk]

theorem WOk.mono {n : Nat} {pr : List Int} {up up' : List Nat} {k : Wk} (h : WOk n pr up k) (hm : ∀ x y, x < n → y < n → rtu up x = rtu up y → rtu up' x = rtu up' y) : WOk n pr up' k :=
  ⟨h.l, fun e => ⟨(h.i e).1.mono hm, (h.i e).2⟩, h.y, h.z⟩

/-- What a step does, as one. -/
structure Went (n : Nat) (pr : List Int) (g : Gm) (w : Nat) : Prop where
  lt : w < g.ws.length
  on : (g.bg w).on = true
  b : WOk n pr g.up (g.bg w)
  I : Inv n pr g.up (g.bg w).t
  nd : (g.bg w).t.dn = false
  F' : For n pr (adv pr g w).up
  I' : Inv n pr (adv pr g w).up (g.sp pr w).t
  D : Did n g.up (adv pr g w).up (g.bg w).t (g.sp pr w).t
  ok : GInv n pr (adv pr g w)

theorem set_mem {α : Type} {l : List α} {i : Nat} {a b : α} (h : b ∈ l.set i a) : b = a ∨ b ∈ l := by
  rcases List.mem_or_eq_of_mem_set h with h | h
  · exact .inr h
  · exact .inl h

theorem went {n : Nat} {pr : List Int} {g : Gm} {w : Nat} (G : GInv n pr g) (hw : w < g.ws.length) (he : (g.wk w).en = true) : Went n pr g w := by
  obtain ⟨h1, h2⟩ := beg_ok (G.ok _ (Gm.wk_mem hw)) he (g.tm + 1)
  obtain ⟨I, nd⟩ := h2.i h1
  obtain ⟨F', I', D⟩ := step_ok G.F I
  refine ⟨hw, h1, h2, I, nd, F', I', D, F', fun k hk => ?_⟩
  rcases set_mem hk with rfl | hk
  · obtain ⟨e1, e2, e3⟩ := tks_keeps g.up pr (g.bg w).t
    refine ⟨h2.l, fun e => ⟨I', ?_⟩, fun _ hk => ?_, fun _ hk => ?_⟩
    · change (!(tks g.up pr (g.bg w).t).dn) = true at e
      show (tks g.up pr (g.bg w).t).dn = false
      simpa using e
    · change (tks g.up pr (g.bg w).t).k ≠ 1 at hk
      show (g.bg w).y = ((tks g.up pr (g.bg w).t).y : Int)
      rw [e3]; exact h2.y h1 (by rwa [e1] at hk)
    · change (tks g.up pr (g.bg w).t).k = 1 at hk
      rw [e1] at hk
      obtain ⟨z1, z2⟩ := h2.z h1 hk
      have e4 : (tks g.up pr (g.bg w).t).v = (g.bg w).t.v := tks_v I hk
      show (tks g.up pr (g.bg w).t).y = 0 ∧ (tks g.up pr (g.bg w).t).v = 0
      rw [e3, e4]
      exact ⟨z1, z2⟩
  · exact (G.ok k hk).mono D.merge

theorem ginv0 {n : Nat} {pr : List Int} {ss : List (List Opn)} (h : ∀ s ∈ ss, ∀ o ∈ s, o.ok n) : GInv n pr (gm0 n ss) := by
  refine ⟨⟨by simp [gm0], fun x hx => ?_, fun x hx => .inl ?_⟩, fun k hk => ?_⟩
  · show el (List.range n) x < n
    rw [el_range hx]; exact hx
  · show el (List.range n) x = x
    exact el_range hx
  · simp [gm0] at hk
    obtain ⟨s, hs, rfl⟩ := hk
    exact ⟨h s hs, fun e => absurd e (by simp [Wk.new]), fun e => absurd e (by simp [Wk.new]), fun e => absurd e (by simp [Wk.new])⟩

theorem run_inv {n : Nat} {pr picks : List Int} {g : Gm} (G : GInv n pr g) : ∀ f, GInv n pr (run pr picks g f)
  | 0 => G
  | f + 1 => by
    unfold run
    split
    · exact run_inv G f
    · next h => exact (went (run_inv G f) (Gm.who_lt h) (Gm.who_en h)).ok

theorem run_next {pr picks : List Int} {g : Gm} {f : Nat} (h : on 0 (run pr picks g f).en ≠ []) : run pr picks g (f + 1) = adv pr (run pr picks g f) ((run pr picks g f).who picks) := by
  rw [run, if_neg h]
theorem run_stuck {pr picks : List Int} {g : Gm} {f : Nat} (h : on 0 (run pr picks g f).en = []) : ∀ k, run pr picks g (f + k) = run pr picks g f
  | 0 => rfl
  | k + 1 => by
    have e := run_stuck h k
    rw [show f + (k + 1) = f + k + 1 from rfl, run, e, if_pos h]
/-- Both ends are one. -/
theorem run_uniq {pr picks : List Int} {g : Gm} {a b : Nat} (ha : on 0 (run pr picks g a).en = []) (hb : on 0 (run pr picks g b).en = []) (ta : (run pr picks g a).tm = a) (tb : (run pr picks g b).tm = b) : a = b := by
  rcases Nat.le_total a b with h | h
  · obtain ⟨k, rfl⟩ := Nat.le.dest h
    rw [run_stuck ha k, ta] at tb; exact tb
  · obtain ⟨k, rfl⟩ := Nat.le.dest h
    rw [run_stuck hb k, tb] at ta; exact ta.symm

/-! ### How many steps there are at most -/
/-- How many steps of its own a task has at most, with one more, whatever the others do. -/
def pot (pr : List Int) (n : Nat) (up : List Nat) (t : Tk) : Nat :=
  if t.dn then 0 else 8 * (hgt pr n t.u + hgt pr n t.v) + 1 +
    (if t.st = 1 then (if el up t.u = t.u ∧ el up t.v = t.v then 6 else 3)
    else if t.st = 2 then 1
    else if t.st = 3 then 0
    else if t.st = 4 then (if el up t.v = t.v then 5 else 2)
    else if t.st = 5 then 1
    else if t.st = 6 then 0
    else 4)

theorem pot_pos {pr : List Int} {n : Nat} {up : List Nat} {t : Tk} (h : t.dn = false) : 0 < pot pr n up t := by
  unfold pot; rw [h]; simp; omega
theorem pot_new {pr : List Int} {n : Nat} {up : List Nat} {o : Opn} (h : o.ok n) : pot pr n up o.tk ≤ 16 * n := by
  have I := Opn.inv (pr := pr) (up := up) h
  have h1 := hgt_lt_n (pr := pr) I.un
  have h2 := hgt_lt_n (pr := pr) I.vn
  have e1 : o.tk.dn = false := rfl
  have e2 : o.tk.st = 1 := rfl
  unfold pot
  rw [e1, e2]
  simp only [Bool.false_eq_true, if_false, if_true]
  split <;> omega
/-- What others do makes it no greater: a root may be none, none gets one. -/
theorem pot_other {pr : List Int} {n : Nat} {up up' : List Nat} {t : Tk} (hu : t.u < n) (hv : t.v < n) (h : ∀ j, j < n → el up' j = j → el up j = j) : pot pr n up' t ≤ pot pr n up t := by
  unfold pot
  split
  · exact Nat.le_refl _
  · apply Nat.add_le_add_left
    split
    · split
      · next e => rw [if_pos ⟨h _ hu e.1, h _ hv e.2⟩]; exact Nat.le_refl _
      · split <;> omega
    · split
      · exact Nat.le_refl _
      · split
        · exact Nat.le_refl _
        · split
          · split
            · next e => rw [if_pos (h _ hv e)]; exact Nat.le_refl _
            · split <;> omega
          · exact Nat.le_refl _
theorem Did.roots {n : Nat} {up up' : List Nat} {t t' : Tk} (h : Did n up up' t t') : ∀ j, j < n → el up' j = j → el up j = j := by
  rcases h with ⟨_, h⟩ | ⟨_, a, b, h⟩
  · exact fun j hj => (h j hj).1.1
  · intro j hj e
    by_cases ea : j = a
    · subst ea; exact h.was
    · rwa [h.oth j ea] at e

theorem pot_step {n : Nat} {pr : List Int} {up : List Nat} {t : Tk} (F : For n pr up) (I : Inv n pr up t) (hd : t.dn = false) : pot pr n (ups up pr t) (tks up pr t) < pot pr n up t := by
  have hdn : ∀ q : Tk, ∀ r, pot pr n (ups up pr t) (q.fin r) = 0 := fun q r => by simp [pot, Tk.fin]
  have hpos := pot_pos (pr := pr) (n := n) (up := up) hd
  obtain ⟨k, x, y, st, u, v, w, r, dn, res⟩ := t
  dsimp only at hd
  subst hd
  have un := I.un
  have vn := I.vn
  have wn := I.wn
  dsimp only at un vn wn
  have hst : st = 1 ∨ st = 2 ∨ st = 3 ∨ st = 4 ∨ st = 5 ∨ st = 6 ∨ st = 7 ∨ st = 8 := by have := I.s1; have := I.s8; dsimp only at *; omega
  rcases hst with rfl | rfl | rfl | rfl | rfl | rfl | rfl | rfl
  · by_cases e : el up u = u
    · by_cases hk : k = 1
      · simp [tks, ups, e, Tk.fst, hk, Tk.fin, pot]; omega
      · by_cases ev : el up v = v <;> simp [tks, ups, e, Tk.fst, hk, pot, ev]
    · simp [tks, ups, e, pot]
  · obtain ⟨a1, a2⟩ := I.a rfl (.inl rfl)
    dsimp only at a1 a2
    have hh := hgt_lt (n := n) a1 wn
    by_cases e : el up w = w
    · by_cases hk : k = 1
      · simp [tks, ups, e, Tk.fst, hk, Tk.fin, pot]
      · by_cases ev : el up v = v <;> simp [tks, ups, e, Tk.fst, hk, pot, ev] <;> omega
    · simp [tks, ups, e, pot]
  · obtain ⟨a1, a2⟩ := I.a rfl (.inr rfl)
    dsimp only at a1 a2
    have hh := hgt_lt (n := n) a1 wn
    simp only [tks, pot, Bool.false_eq_true, if_false, if_true, show ¬ (3 = 1) by omega, show ¬ (3 = 2) by omega]
    split <;> omega
  · by_cases e : el up v = v
    · by_cases e4 : u = v
      · by_cases hk : k = 2 <;> simp [tks, ups, e, e4, Tk.snd, hk, Tk.fin, pot]
      · by_cases hk : k = 2 <;> simp [tks, ups, e, e4, Tk.snd, hk, Tk.fin, pot]
    · simp [tks, ups, e, pot]
  · obtain ⟨a1, a2⟩ := I.c rfl (.inl rfl)
    dsimp only at a1 a2
    have hh := hgt_lt (n := n) a1 wn
    by_cases e : el up w = w
    · by_cases e4 : u = w
      · by_cases hk : k = 2 <;> simp [tks, ups, e, e4, Tk.snd, hk, Tk.fin, pot]
      · by_cases hk : k = 2 <;> simp [tks, ups, e, e4, Tk.snd, hk, Tk.fin, pot] <;> omega
    · simp [tks, ups, e, pot]
  · obtain ⟨a1, a2⟩ := I.c rfl (.inr rfl)
    dsimp only at a1 a2
    have hh := hgt_lt (n := n) a1 wn
    simp only [tks, pot, Bool.false_eq_true, if_false, if_true, show ¬ (6 = 1) by omega, show ¬ (6 = 2) by omega, show ¬ (6 = 3) by omega, show ¬ (6 = 4) by omega, show ¬ (6 = 5) by omega, show ¬ (4 = 1) by omega, show ¬ (4 = 2) by omega, show ¬ (4 = 3) by omega]
    split <;> omega
  · by_cases e : el up u = u
    · simp [tks, ups, e, Tk.fin, pot]
    · simp [tks, ups, e, pot]
  · by_cases hb : bel pr u v
    · by_cases e : el up u = u
      · simp [tks, hb, e, Tk.fin, pot]
      · simp [tks, ups, hb, e, pot]
    · by_cases e : el up v = v
      · simp [tks, hb, e, Tk.fin, pot]
      · simp [tks, ups, hb, e, pot]

/-- How many steps a worker has at most. -/
def Wk.wt (n : Nat) (pr : List Int) (up : List Nat) (k : Wk) : Nat := k.left.length * (16 * n + 1) + if k.on then pot pr n up k.t else 0
def Gm.wt (n : Nat) (pr : List Int) (g : Gm) : Nat := (g.ws.map (Wk.wt n pr g.up)).sum

theorem sum_le_map {α : Type} {f h : α → Nat} : ∀ {l : List α}, (∀ a ∈ l, f a ≤ h a) → (l.map f).sum ≤ (l.map h).sum
  | [], _ => Nat.le_refl _
  | a :: l, hl => by
    have h1 := hl a (by simp)
    have h2 := sum_le_map (l := l) fun b hb => hl b (by simp [hb])
    simp only [List.map_cons, List.sum_cons]; omega
theorem sum_set_map {α : Type} {f h : α → Nat} {d a : α} : ∀ {l : List α} {i : Nat}, i < l.length → (∀ b ∈ l, f b ≤ h b) → ((l.set i a).map f).sum + h (l.getD i d) ≤ (l.map h).sum + f a
  | b :: l, 0, _, hl => by
    have h2 := sum_le_map (l := l) (f := f) (h := h) fun c hc => hl c (by simp [hc])
    simp; omega
  | b :: l, i + 1, hi, hl => by
    have h1 := hl b (by simp)
    have ih := sum_set_map (f := f) (h := h) (d := d) (a := a) (l := l) (i := i) (by simpa using hi) fun c hc => hl c (by simp [hc])
    simp at ih ⊢; omega

theorem wt_beg {n : Nat} {pr : List Int} {up : List Nat} {k : Wk} (h : WOk n pr up k) (tm : Nat) : (k.beg tm).wt n pr up ≤ k.wt n pr up := by
  unfold Wk.beg
  split
  · exact Nat.le_refl _
  · next e =>
    cases hl : k.left with
    | nil => exact Nat.le_refl _
    | cons o r =>
      have ho := h.l o (by simp [hl])
      have := pot_new (pr := pr) (up := up) ho
      simp only [Wk.wt, hl, List.length_cons, if_true]
      rw [Nat.add_mul]
      omega

theorem wt_adv {n : Nat} {pr : List Int} {g : Gm} {w : Nat} (G : GInv n pr g) (W : Went n pr g w) : (adv pr g w).wt n pr < g.wt n pr := by
  have h1 := pot_step G.F W.I W.nd
  have h2 := wt_beg (G.ok _ (Gm.wk_mem W.lt)) (g.tm + 1)
  have h3 : (g.sp pr w).wt n pr (adv pr g w).up < (g.bg w).wt n pr g.up := by
    unfold Wk.wt
    show (g.bg w).left.length * (16 * n + 1) + (if (!(tks g.up pr (g.bg w).t).dn) = true then pot pr n (ups g.up pr (g.bg w).t) (tks g.up pr (g.bg w).t) else 0) < _
    rw [W.on]
    simp only [if_true]
    split <;> omega
  have h4 := sum_set_map (f := Wk.wt n pr (adv pr g w).up) (h := Wk.wt n pr g.up) (d := Wk.new []) (a := g.sp pr w) W.lt (fun k hk => by
    unfold Wk.wt
    apply Nat.add_le_add_left
    split
    · next e => exact pot_other ((G.ok k hk).i e).1.un ((G.ok k hk).i e).1.vn W.D.roots
    · exact Nat.le_refl _)
  have h5 : ((g.wk w).beg (g.tm + 1)).wt n pr g.up ≤ (g.ws.getD w (Wk.new [])).wt n pr g.up := h2
  have h6 : (g.bg w).wt n pr g.up ≤ (g.ws.getD w (Wk.new [])).wt n pr g.up := h5
  show ((g.ws.set w (g.sp pr w)).map (Wk.wt n pr (adv pr g w).up)).sum < (g.ws.map (Wk.wt n pr g.up)).sum
  omega

def opsIn (ss : List (List Opn)) : Nat := (ss.map List.length).sum
theorem wt0 {n : Nat} {pr : List Int} {ss : List (List Opn)} : (gm0 n ss).wt n pr = opsIn ss * (16 * n + 1) := by
  unfold Gm.wt gm0 opsIn
  simp only [List.map_map]
  induction ss with
  | nil => simp
  | cons s ss ih =>
    simp only [List.map_cons, List.sum_cons, ih, Nat.add_mul]
    simp [Wk.wt, Wk.new]

/-- Time runs on, and what is left gets less. -/
theorem run_wt {n : Nat} {pr picks : List Int} {ss : List (List Opn)} (h : ∀ s ∈ ss, ∀ o ∈ s, o.ok n) : ∀ f, (run pr picks (gm0 n ss) f).tm + (run pr picks (gm0 n ss) f).wt n pr ≤ opsIn ss * (16 * n + 1)
  | 0 => by rw [← wt0 (pr := pr)]; simp [run, gm0]
  | f + 1 => by
    have ih := run_wt (pr := pr) (picks := picks) h f
    by_cases e : on 0 (run pr picks (gm0 n ss) f).en = []
    · rw [run, if_pos e]; exact ih
    · have G := run_inv (picks := picks) (ginv0 (pr := pr) h) f
      have := wt_adv G (went G (Gm.who_lt (picks := picks) e) (Gm.who_en e))
      rw [run_next e]
      show (run pr picks (gm0 n ss) f).tm + 1 + _ ≤ _
      omega

theorem run_len {pr picks : List Int} {n : Nat} {ss : List (List Opn)} : ∀ f, (run pr picks (gm0 n ss) f).ws.length = ss.length
  | 0 => by simp [run, gm0]
  | f + 1 => by
    have ih := run_len (pr := pr) (picks := picks) (n := n) (ss := ss) f
    unfold run
    split
    · exact ih
    · simp [adv, ih]

end Go.Proofs.YthhcchdjeeigpaaDoor
