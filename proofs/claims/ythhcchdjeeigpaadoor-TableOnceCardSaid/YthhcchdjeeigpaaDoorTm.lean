/- Mathematics of workers that share a table of keys, one step at a time, who is next by picks: the states, that all ends, and when. No program. -/
import Derived.Test.YthhcchdjeeigpaaDoorWhom
namespace Go.Proofs.YthhcchdjeeigpaaDoor
set_option linter.unusedVariables false
set_option linter.unusedSimpArgs false

/-- A key: its name, its two numbers. -/
structure Ky where
  s : ByteArray
  a : Int
  b : Int
theorem Ky.eq_iff {x y : Ky} : x = y ↔ x.s.data.toList = y.s.data.toList ∧ x.a = y.a ∧ x.b = y.b := by
  constructor
  · rintro rfl; exact ⟨rfl, rfl, rfl⟩
  · rintro ⟨h1, h2, h3⟩
    obtain ⟨⟨⟨l⟩⟩, a, b⟩ := x
    obtain ⟨⟨⟨l'⟩⟩, a', b'⟩ := y
    simp at h1 h2 h3
    simp [h1, h2, h3]
instance kyDec : DecidableEq Ky := fun _ _ => decidable_of_iff _ Ky.eq_iff.symm
def ky0 : Ky := ⟨ByteArray.empty, 0, 0⟩

/-- The first place of a key; behind all if it is not there. -/
def kat : List Ky → Ky → Nat
  | [], _ => 0
  | x :: l, k => if x = k then 0 else kat l k + 1
theorem kat_le : ∀ (l : List Ky) (k : Ky), kat l k ≤ l.length
  | [], _ => Nat.le_refl _
  | x :: l, k => by
    have := kat_le l k
    unfold kat
    split <;> simp <;> omega
theorem kat_lt : ∀ {l : List Ky} {k : Ky}, kat l k < l.length ↔ k ∈ l
  | [], _ => by simp [kat]
  | x :: l, k => by
    have := kat_lt (l := l) (k := k)
    unfold kat
    by_cases h : x = k
    · subst h; simp
    · rw [if_neg h]
      simp [this]
      exact fun e => absurd e.symm h
theorem kat_get : ∀ {l : List Ky} {k : Ky}, k ∈ l → l[kat l k]? = some k
  | [], _, h => by cases h
  | x :: l, k, h => by
    unfold kat
    by_cases e : x = k
    · subst e; simp
    · rw [if_neg e]
      have hm : k ∈ l := by
        rcases List.mem_cons.1 h with h | h
        · exact absurd h.symm e
        · exact h
      simpa using kat_get hm
theorem kat_before : ∀ {l : List Ky} {k : Ky} {j : Nat}, j < kat l k → l[j]? ≠ some k
  | [], _, _, h => by simp [kat] at h
  | x :: l, k, j, h => by
    unfold kat at h
    by_cases e : x = k
    · rw [if_pos e] at h; omega
    · rw [if_neg e] at h
      cases j with
      | zero => simpa using e
      | succ j => simpa using kat_before (by omega)
theorem kat_is {l : List Ky} {k : Ky} {j : Nat} (h1 : l[j]? = some k) (h2 : ∀ i, i < j → l[i]? ≠ some k) : kat l k = j := by
  have hm : k ∈ l := List.mem_of_getElem? h1
  rcases Nat.lt_trichotomy (kat l k) j with h | h | h
  · exact absurd (kat_get hm) (h2 _ h)
  · exact h
  · exact absurd h1 (kat_before h)
theorem kat_none {l : List Ky} {k : Ky} (h : k ∉ l) : kat l k = l.length := by
  have h1 := kat_le l k
  have h2 : ¬ kat l k < l.length := fun q => h (kat_lt.1 q)
  omega
theorem kat_append {l : List Ky} {k : Ky} (r : List Ky) (h : k ∈ l) : kat (l ++ r) k = kat l k :=
  kat_is (by rw [List.getElem?_append_left (kat_lt.2 h)]; exact kat_get h) (fun i hi => by
    rw [List.getElem?_append_left (Nat.lt_trans hi (kat_lt.2 h))]; exact kat_before hi)
theorem kat_snoc {l : List Ky} {k : Ky} (h : k ∉ l) : kat (l ++ [k]) k = l.length :=
  kat_is (by simp) (fun i hi => by
    rw [List.getElem?_append_left hi]
    intro e
    exact h (List.mem_of_getElem? e))
theorem kat_nodup {l : List Ky} {k : Ky} {i : Nat} (hn : l.Nodup) (h : l[i]? = some k) : kat l k = i := by
  have hm : k ∈ l := List.mem_of_getElem? h
  have h1 := kat_get hm
  obtain ⟨hi, e1⟩ := List.getElem?_eq_some_iff.1 h
  obtain ⟨hj, e2⟩ := List.getElem?_eq_some_iff.1 h1
  have hp := List.pairwise_iff_getElem.1 hn
  rcases Nat.lt_trichotomy (kat l k) i with h2 | h2 | h2
  · exact absurd (e2.trans e1.symm) (hp _ _ hj hi h2)
  · exact h2
  · exact absurd (e1.trans e2.symm) (hp _ _ hi hj h2)

/-- Looking for a key: the table behind it, what is told. -/
def lookK (room : Int) (l : List Ky) (k : Ky) : List Ky × Int :=
  if kat l k < l.length then (l, (kat l k : Int)) else if (l.length : Int) < room then (l ++ [k], (l.length : Int)) else (l, -1)

/-- A worker: what it has not done, its step of the first of these, what it was told. -/
structure Tw where
  left : List Ky
  st : Nat
  got : List Int
def tw0 : Tw := ⟨[], 0, []⟩
structure Tg where
  ws : List Tw
  keys : List Ky
  tm : Nat
  last : Int
def Tw.hold (σ : Ky → Int) (k : Tw) : Option Int := if k.st = 0 then none else k.left.head?.map σ
def Tg.locked (σ : Ky → Int) (g : Tg) (s : Int) : Bool := g.ws.any fun k => decide (k.hold σ = some s)
def Tg.enW (σ : Ky → Int) (g : Tg) (k : Tw) : Bool := match k.left with
  | [] => false
  | h :: _ => decide (k.st ≠ 0) || !g.locked σ (σ h)
def Tg.en (σ : Ky → Int) (g : Tg) : List Bool := g.ws.map (g.enW σ)
def Tg.tw (g : Tg) (w : Nat) : Tw := g.ws.getD w tw0
def Tw.adv (room : Int) (keys : List Ky) (k : Tw) : Tw := match k.left with
  | [] => k
  | h :: r => if k.st = 0 then ⟨h :: r, 1, k.got⟩ else if k.st = 1 then ⟨h :: r, 2, k.got ++ [(lookK room keys h).2]⟩ else ⟨r, 0, k.got⟩
def Tw.keys (room : Int) (keys : List Ky) (k : Tw) : List Ky := match k.left with
  | [] => keys
  | h :: _ => if k.st = 1 then (lookK room keys h).1 else keys
/-- Worker w goes on. -/
def tadv (room : Int) (g : Tg) (w : Nat) : Tg := ⟨g.ws.set w ((g.tw w).adv room g.keys), (g.tw w).keys room g.keys, g.tm + 1, w⟩
def Tg.who (σ : Ky → Int) (picks : List Int) (g : Tg) : Nat := whoN picks g.tm g.last (g.en σ)
def trun (σ : Ky → Int) (room : Int) (picks : List Int) (g : Tg) : Nat → Tg
  | 0 => g
  | f + 1 => if on 0 ((trun σ room picks g f).en σ) = [] then trun σ room picks g f else tadv room (trun σ room picks g f) ((trun σ room picks g f).who σ picks)
def tg0 (ss : List (List Ky)) : Tg := ⟨ss.map fun s => ⟨s, 0, []⟩, [], 0, -1⟩
/-- The state ahead of time t + 1. -/
def ttAt (σ : Ky → Int) (room : Int) (picks : List Int) (ss : List (List Ky)) (t : Nat) : Tg := trun σ room picks (tg0 ss) t

theorem tsum_set {α : Type} (f : α → Nat) {l : List α} {i : Nat} {a b : α} (h : l[i]? = some b) : ((l.set i a).map f).sum + f b = (l.map f).sum + f a := by
  induction l generalizing i with
  | nil => simp at h
  | cons x l ih =>
    cases i with
    | zero => simp at h; subst h; simp; omega
    | succ i =>
      have := ih (i := i) (by simpa using h)
      simp only [List.set_cons_succ, List.map_cons, List.sum_cons]
      omega

theorem set_casesT {α : Type} {l : List α} {i j : Nat} {a b : α} (h : (l.set i a)[j]? = some b) : (i = j ∧ b = a) ∨ (i ≠ j ∧ l[j]? = some b) := by
  rw [List.getElem?_set] at h
  by_cases e : i = j
  · rw [if_pos e] at h
    split at h
    · cases h; exact .inl ⟨e, rfl⟩
    · cases h
  · rw [if_neg e] at h; exact .inr ⟨e, h⟩

/-- What is to be done yet. -/
def Tw.todo (k : Tw) : Nat := 3 * k.left.length - k.st
def Tg.todo (g : Tg) : Nat := (g.ws.map Tw.todo).sum

/-- What a worker has been told is right. -/
structure TwOk (room : Int) (keys : List Ky) (s : List Ky) (k : Tw) : Prop where
  st : k.st ≤ 2
  ne : k.st ≠ 0 → k.left ≠ []
  spl : ∃ d, s = d ++ k.left ∧ k.got.length = d.length + (if k.st = 2 then 1 else 0)
  got : ∀ (j : Nat) (x : Ky) (n : Int), s[j]? = some x → k.got[j]? = some n → (∃ m : Nat, n = m ∧ keys[m]? = some x) ∨ (n = -1 ∧ ¬ (keys.length : Int) < room)

structure TOk (σ : Ky → Int) (room : Int) (ss : List (List Ky)) (g : Tg) : Prop where
  len : g.ws.length = ss.length
  ok : ∀ (i : Nat) (k : Tw) (s : List Ky), g.ws[i]? = some k → ss[i]? = some s → TwOk room g.keys s k
  dist : ∀ (i j : Nat) (ki kj : Tw), i ≠ j → g.ws[i]? = some ki → g.ws[j]? = some kj → ∀ s, ki.hold σ = some s → kj.hold σ ≠ some s
  nodup : g.keys.Nodup
  room : g.keys = [] ∨ (g.keys.length : Int) ≤ room
  src : ∀ x ∈ g.keys, ∃ (i : Nat) (s : List Ky), ss[i]? = some s ∧ x ∈ s
  cnt : g.keys.length ≤ (g.ws.map fun k => k.got.length).sum

theorem lookK_mem {room : Int} {l : List Ky} {k : Ky} {x : Ky} (h : x ∈ l) : x ∈ (lookK room l k).1 := by
  unfold lookK
  split
  · exact h
  · split
    · simp [h]
    · exact h
theorem lookK_get {room : Int} {l : List Ky} {k : Ky} {m : Nat} {x : Ky} (h : l[m]? = some x) : (lookK room l k).1[m]? = some x := by
  unfold lookK
  split
  · exact h
  · split
    · rw [List.getElem?_append_left (List.getElem?_eq_some_iff.1 h).1]; exact h
    · exact h
theorem lookK_len {room : Int} {l : List Ky} {k : Ky} : l.length ≤ (lookK room l k).1.length ∧ (lookK room l k).1.length ≤ l.length + 1 := by
  unfold lookK
  split
  · simp
  · split <;> simp
theorem lookK_nodup {room : Int} {l : List Ky} {k : Ky} (h : l.Nodup) : (lookK room l k).1.Nodup := by
  unfold lookK
  split
  · exact h
  · next e =>
    split
    · rw [List.nodup_append]
      refine ⟨h, by simp, ?_⟩
      intro a ha b hb
      simp at hb
      subst hb
      rintro rfl
      exact e (kat_lt.2 ha)
    · exact h
theorem lookK_room {room : Int} {l : List Ky} {k : Ky} (h : l = [] ∨ (l.length : Int) ≤ room) : (lookK room l k).1 = [] ∨ ((lookK room l k).1.length : Int) ≤ room := by
  unfold lookK
  split
  · exact h
  · split
    · right; simp; omega
    · exact h
theorem lookK_src {room : Int} {l : List Ky} {k x : Ky} (h : x ∈ (lookK room l k).1) : x ∈ l ∨ x = k := by
  unfold lookK at h
  split at h
  · exact .inl h
  · split at h
    · simpa using h
    · exact .inl h
theorem lookK_told {room : Int} {l : List Ky} {k : Ky} : (∃ m : Nat, (lookK room l k).2 = m ∧ (lookK room l k).1[m]? = some k) ∨ ((lookK room l k).2 = -1 ∧ ¬ ((lookK room l k).1.length : Int) < room) := by
  unfold lookK
  split
  · next h => exact .inl ⟨_, rfl, kat_get (kat_lt.1 h)⟩
  · split
    · exact .inl ⟨_, rfl, by simp⟩
    · next h => exact .inr ⟨rfl, h⟩
theorem lookK_full {room : Int} {l : List Ky} {k : Ky} (h : ¬ (l.length : Int) < room) : ¬ ((lookK room l k).1.length : Int) < room := by
  have := (lookK_len (room := room) (l := l) (k := k)).1
  omega

theorem TwOk.look {room : Int} {keys s : List Ky} {k : Tw} (h : TwOk room keys s k) (q : Ky) : TwOk room (lookK room keys q).1 s k := by
  refine ⟨h.st, h.ne, h.spl, fun j x n h1 h2 => ?_⟩
  rcases h.got j x n h1 h2 with ⟨m, h3, h4⟩ | ⟨h3, h4⟩
  · exact .inl ⟨m, h3, lookK_get h4⟩
  · exact .inr ⟨h3, lookK_full h4⟩
theorem TwOk.keys {room : Int} {keys s : List Ky} {k : Tw} (h : TwOk room keys s k) (q : Tw) : TwOk room (q.keys room keys) s k := by
  unfold Tw.keys
  split
  · exact h
  · split
    · exact h.look _
    · exact h
theorem TwOk.adv {room : Int} {keys s : List Ky} {k : Tw} (h : TwOk room keys s k) : TwOk room (k.keys room keys) s (k.adv room keys) := by
  unfold Tw.keys Tw.adv
  cases hl : k.left with
  | nil => exact h
  | cons q r =>
    obtain ⟨d, hd, hg⟩ := h.spl
    simp only
    by_cases h0 : k.st = 0
    · rw [if_pos h0, if_neg (by omega)]
      refine ⟨Nat.le_succ _, fun _ => by simp, ⟨d, by rw [← hl]; exact hd, ?_⟩, h.got⟩
      rw [if_neg (by omega)] at hg
      simpa using hg
    · rw [if_neg h0]
      by_cases h1 : k.st = 1
      · rw [if_pos h1, if_pos h1]
        rw [if_neg (by omega)] at hg
        refine ⟨Nat.le_refl _, fun _ => by simp, ⟨d, by rw [← hl]; exact hd, by simp; omega⟩, fun j x n h2 h3 => ?_⟩
        simp only at h3
        rw [List.getElem?_append] at h3
        split at h3
        · exact (h.look q).got j x n h2 h3
        · next hj =>
          have e : j - k.got.length = 0 := by
            rcases Nat.eq_zero_or_pos (j - k.got.length) with e | e
            · exact e
            · rw [List.getElem?_eq_none (by simp; omega)] at h3; cases h3
          rw [e] at h3
          simp at h3
          subst h3
          have ej : j = d.length := by omega
          rw [hd, hl, ej, List.getElem?_append_right (Nat.le_refl _), Nat.sub_self] at h2
          simp at h2
          subst h2
          exact lookK_told
      · rw [if_neg h1, if_neg h1]
        have h2 : k.st = 2 := by have := h.st; omega
        rw [if_pos h2] at hg
        refine ⟨Nat.zero_le _, fun q => absurd rfl q, ⟨d ++ [q], by rw [hd, hl]; simp, by simpa using hg⟩, h.got⟩

theorem Tg.tw_get {g : Tg} {w : Nat} (h : w < g.ws.length) : g.ws[w]? = some (g.tw w) := by
  unfold Tg.tw
  rw [List.getD_eq_getElem?_getD, List.getElem?_eq_getElem h]; rfl
theorem Tg.en_length (σ : Ky → Int) (g : Tg) : (g.en σ).length = g.ws.length := by unfold Tg.en; simp
theorem Tg.who_lt {σ : Ky → Int} {picks : List Int} {g : Tg} (h : on 0 (g.en σ) ≠ []) : g.who σ picks < g.ws.length := by
  have := (whoN_en (picks := picks) (tm := g.tm) (last := g.last) h).1
  unfold Tg.who
  rwa [Tg.en_length] at this
theorem Tg.who_en {σ : Ky → Int} {picks : List Int} {g : Tg} (h : on 0 (g.en σ) ≠ []) : g.enW σ (g.tw (g.who σ picks)) = true := by
  have h1 := Tg.who_lt (picks := picks) h
  have h2 := (whoN_en (picks := picks) (tm := g.tm) (last := g.last) h).2
  change (g.en σ).getD (g.who σ picks) false = true at h2
  unfold Tg.en at h2
  rw [List.getD_eq_getElem?_getD, List.getElem?_map, Tg.tw_get h1] at h2
  simpa using h2

theorem Tg.locked_iff {σ : Ky → Int} {g : Tg} {s : Int} : g.locked σ s = true ↔ ∃ (i : Nat) (k : Tw), g.ws[i]? = some k ∧ k.hold σ = some s := by
  unfold Tg.locked
  rw [List.any_eq_true]
  constructor
  · rintro ⟨k, hk, h⟩
    obtain ⟨i, hi, e⟩ := List.getElem_of_mem hk
    exact ⟨i, k, by rw [List.getElem?_eq_getElem hi, e], by simpa using h⟩
  · rintro ⟨i, k, hk, h⟩
    exact ⟨k, List.mem_of_getElem? hk, by simpa using h⟩
theorem enW_cases {σ : Ky → Int} {g : Tg} {k : Tw} (h : g.enW σ k = true) : ∃ q r, k.left = q :: r ∧ (k.st = 0 → g.locked σ (σ q) = false) := by
  unfold Tg.enW at h
  cases hl : k.left with
  | nil => rw [hl] at h; cases h
  | cons q r =>
    rw [hl] at h
    refine ⟨q, r, rfl, fun h0 => ?_⟩
    simpa [h0] using h

/-- What a worker holds behind its step. -/
theorem Tw.hold_adv {σ : Ky → Int} {room : Int} {keys : List Ky} {k : Tw} {q : Ky} {r : List Ky} (hl : k.left = q :: r) (hs : k.st ≤ 2) : (k.adv room keys).hold σ = if k.st = 2 then none else some (σ q) := by
  unfold Tw.adv
  rw [hl]
  simp only
  by_cases h0 : k.st = 0
  · rw [if_pos h0, if_neg (by omega)]; rfl
  · rw [if_neg h0]
    by_cases h1 : k.st = 1
    · rw [if_pos h1, if_neg (by omega)]; rfl
    · rw [if_neg h1, if_pos (by omega)]; rfl

theorem tadv_ok {σ : Ky → Int} {room : Int} {ss : List (List Ky)} {g : Tg} (h : TOk σ room ss g) {w : Nat} (hw : w < g.ws.length) (he : g.enW σ (g.tw w) = true) : TOk σ room ss (tadv room g w) := by
  have hk := Tg.tw_get hw
  obtain ⟨q, r, hl, hlock⟩ := enW_cases he
  obtain ⟨s, hs⟩ : ∃ s, ss[w]? = some s := ⟨_, List.getElem?_eq_getElem (by rw [← h.len]; exact hw)⟩
  have hok := h.ok w _ s hk hs
  have hh := Tw.hold_adv (σ := σ) (room := room) (keys := g.keys) hl hok.st
  have hothers : ∀ (j : Nat) (kj : Tw), w ≠ j → g.ws[j]? = some kj → ∀ x, ((g.tw w).adv room g.keys).hold σ = some x → kj.hold σ ≠ some x := by
    intro j kj hne hj x hx
    rw [hh] at hx
    split at hx
    · cases hx
    · cases hx
      by_cases h0 : (g.tw w).st = 0
      · intro e
        have := hlock h0
        rw [Tg.locked_iff.2 ⟨j, kj, hj, e⟩] at this
        cases this
      · refine h.dist w j _ _ hne hk hj _ ?_
        unfold Tw.hold
        rw [if_neg h0, hl]; rfl
  refine ⟨by show (g.ws.set _ _).length = _; rw [List.length_set]; exact h.len, ?_, ?_, ?_, ?_, ?_, ?_⟩
  · intro i k s' hi hs'
    rcases set_casesT hi with ⟨rfl, rfl⟩ | ⟨hne, hi⟩
    · rw [hs] at hs'; cases hs'
      exact hok.adv
    · exact (h.ok i k s' hi hs').keys _
  · intro i j ki kj hne hi hj x hx
    rcases set_casesT hi with ⟨rfl, rfl⟩ | ⟨hne1, hi⟩
    · rcases set_casesT hj with ⟨rfl, _⟩ | ⟨hne2, hj⟩
      · exact absurd rfl hne
      · exact hothers j kj hne2 hj x hx
    · rcases set_casesT hj with ⟨rfl, rfl⟩ | ⟨hne2, hj⟩
      · exact fun e => hothers i ki hne1 hi x e hx
      · exact h.dist i j ki kj hne hi hj x hx
  · show ((g.tw w).keys room g.keys).Nodup
    unfold Tw.keys
    rw [hl]
    simp only
    split
    · exact lookK_nodup h.nodup
    · exact h.nodup
  · show (g.tw w).keys room g.keys = [] ∨ _
    unfold Tw.keys
    show _ ∨ (((g.tw w).keys room g.keys).length : Int) ≤ room
    unfold Tw.keys
    rw [hl]
    simp only
    split
    · exact lookK_room h.room
    · exact h.room
  · intro x hx
    change x ∈ (g.tw w).keys room g.keys at hx
    unfold Tw.keys at hx
    rw [hl] at hx
    simp only at hx
    split at hx
    · rcases lookK_src hx with hx | rfl
      · exact h.src x hx
      · obtain ⟨d, hd, _⟩ := hok.spl
        exact ⟨w, s, hs, by rw [hd, hl]; simp⟩
    · exact h.src x hx
  · have e := tsum_set (fun k : Tw => k.got.length) (a := (g.tw w).adv room g.keys) hk
    have hc := h.cnt
    show ((g.tw w).keys room g.keys).length ≤ ((g.ws.set w _).map _).sum
    unfold Tw.keys
    rw [hl]
    simp only
    have hgl : ((g.tw w).adv room g.keys).got.length = (g.tw w).got.length + (if (g.tw w).st = 1 then 1 else 0) := by
      unfold Tw.adv
      rw [hl]
      simp only
      split
      · rw [if_neg (by omega)]; rfl
      · split
        · simp
        · rfl
    split
    · next h1 =>
      rw [if_pos h1] at hgl
      have := (lookK_len (room := room) (l := g.keys) (k := q)).2
      omega
    · next h1 =>
      rw [if_neg h1] at hgl
      omega
theorem tadv_todo {σ : Ky → Int} {room : Int} {ss : List (List Ky)} {g : Tg} (h : TOk σ room ss g) {w : Nat} (hw : w < g.ws.length) (he : g.enW σ (g.tw w) = true) : (tadv room g w).todo + 1 = g.todo := by
  have hk := Tg.tw_get hw
  obtain ⟨q, r, hl, _⟩ := enW_cases he
  obtain ⟨s, hs⟩ : ∃ s, ss[w]? = some s := ⟨_, List.getElem?_eq_getElem (by rw [← h.len]; exact hw)⟩
  have hok := h.ok w _ s hk hs
  have e := tsum_set Tw.todo (a := (g.tw w).adv room g.keys) hk
  have ht : ((g.tw w).adv room g.keys).todo + 1 = (g.tw w).todo := by
    have := hok.st
    unfold Tw.adv Tw.todo
    rw [hl]
    simp only [List.length_cons]
    by_cases h0 : (g.tw w).st = 0
    · rw [if_pos h0, h0]; simp; omega
    · rw [if_neg h0]
      by_cases h1 : (g.tw w).st = 1
      · rw [if_pos h1, h1]; simp; omega
      · rw [if_neg h1]
        have : (g.tw w).st = 2 := by omega
        rw [this]; simp; omega
  show ((g.ws.set w _).map Tw.todo).sum + 1 = (g.ws.map Tw.todo).sum
  omega
theorem tsum_zero {l : List Nat} (h : ∀ x ∈ l, x = 0) : l.sum = 0 := by
  induction l with
  | nil => rfl
  | cons a l ih =>
    rw [List.sum_cons, h a (by simp), ih (fun x hx => h x (by simp [hx]))]
theorem tle_sum {l : List Nat} {x : Nat} (h : x ∈ l) : x ≤ l.sum := by
  induction l with
  | nil => cases h
  | cons a l ih =>
    rw [List.sum_cons]
    rcases List.mem_cons.1 h with rfl | h
    · omega
    · have := ih h; omega
/-- Nobody can go on just where nothing is to be done. -/
theorem todo_en {σ : Ky → Int} {room : Int} {ss : List (List Ky)} {g : Tg} (h : TOk σ room ss g) : on 0 (g.en σ) = [] ↔ g.todo = 0 := by
  constructor
  · intro ho
    have hno : ∀ (i : Nat) (k : Tw), g.ws[i]? = some k → g.enW σ k = false := by
      intro i k hi
      by_cases e : g.enW σ k = true
      · have := mem_on (g.en σ) 0 i (by unfold Tg.en; rw [List.getD_eq_getElem?_getD, List.getElem?_map, hi]; simpa using e)
        rw [ho] at this; cases this
      · simpa using e
    refine tsum_zero fun x hx => ?_
    obtain ⟨k, hk, rfl⟩ := List.mem_map.1 hx
    obtain ⟨i, hi, rfl⟩ := List.getElem_of_mem hk
    have hgi := List.getElem?_eq_getElem hi
    have h1 := hno i _ hgi
    cases hl : (g.ws[i]).left with
    | nil => unfold Tw.todo; rw [hl]; simp
    | cons q r =>
      exfalso
      unfold Tg.enW at h1
      rw [hl] at h1
      simp at h1
      obtain ⟨h0, hlk⟩ := h1
      obtain ⟨j, kj, hj, hh⟩ := Tg.locked_iff.1 hlk
      have h2 := hno j kj hj
      unfold Tw.hold at hh
      split at hh
      · cases hh
      · next hst =>
        cases hl2 : kj.left with
        | nil => rw [hl2] at hh; simp at hh
        | cons q2 r2 =>
          unfold Tg.enW at h2
          rw [hl2] at h2
          simp [hst] at h2
  · intro h0
    cases ho : on 0 (g.en σ) with
    | nil => rfl
    | cons x l =>
      exfalso
      have hx := on_range (g.en σ) 0 x (by rw [ho]; simp)
      obtain ⟨_, h2, h3⟩ := hx
      rw [Nat.zero_add, Tg.en_length] at h2
      rw [Nat.sub_zero] at h3
      have hg := Tg.tw_get h2
      unfold Tg.en at h3
      rw [List.getD_eq_getElem?_getD, List.getElem?_map, hg] at h3
      have := tadv_todo h h2 (by simpa using h3)
      omega

theorem tg0_ok (σ : Ky → Int) (room : Int) (ss : List (List Ky)) : TOk σ room ss (tg0 ss) := by
  have hget : ∀ (i : Nat) (k : Tw), (tg0 ss).ws[i]? = some k → ∃ s, ss[i]? = some s ∧ k = ⟨s, 0, []⟩ := by
    intro i k hi
    unfold tg0 at hi
    rw [List.getElem?_map] at hi
    cases hs : ss[i]? with
    | none => rw [hs] at hi; cases hi
    | some s => rw [hs] at hi; simp at hi; exact ⟨s, rfl, hi.symm⟩
  refine ⟨by simp [tg0], ?_, ?_, by simp [tg0], .inl rfl, fun x hx => by simp [tg0] at hx, by simp [tg0]⟩
  · intro i k s hi hs
    obtain ⟨s', hs', rfl⟩ := hget i k hi
    rw [hs] at hs'; cases hs'
    exact ⟨Nat.zero_le _, fun q => absurd rfl q, ⟨[], rfl, rfl⟩, fun j x n _ h2 => by simp at h2⟩
  · intro i j ki kj _ hi _ s hs
    obtain ⟨s', _, rfl⟩ := hget i ki hi
    simp [Tw.hold] at hs
theorem tg0_todo (ss : List (List Ky)) : (tg0 ss).todo = 3 * (ss.map List.length).sum := by
  unfold tg0 Tg.todo
  rw [List.map_map]
  induction ss with
  | nil => rfl
  | cons a l ih =>
    rw [List.map_cons, List.sum_cons, ih, List.map_cons, List.sum_cons]
    simp [Tw.todo]
    omega

theorem tt_ok (σ : Ky → Int) (room : Int) (picks : List Int) (ss : List (List Ky)) (t : Nat) : TOk σ room ss (ttAt σ room picks ss t) := by
  induction t with
  | zero => exact tg0_ok σ room ss
  | succ t ih =>
    unfold ttAt trun
    change TOk σ room ss (if on 0 ((ttAt σ room picks ss t).en σ) = [] then ttAt σ room picks ss t else tadv room (ttAt σ room picks ss t) ((ttAt σ room picks ss t).who σ picks))
    split
    · exact ih
    · next h => exact tadv_ok ih (Tg.who_lt h) (Tg.who_en h)
theorem tt_next {σ : Ky → Int} {room : Int} {picks : List Int} {ss : List (List Ky)} {t : Nat} (h : on 0 ((ttAt σ room picks ss t).en σ) ≠ []) : ttAt σ room picks ss (t + 1) = tadv room (ttAt σ room picks ss t) ((ttAt σ room picks ss t).who σ picks) := by
  show (if on 0 ((ttAt σ room picks ss t).en σ) = [] then _ else _) = _
  exact if_neg h
/-- So many steps, and all have ended. -/
theorem tt_todo (σ : Ky → Int) (room : Int) (picks : List Int) (ss : List (List Ky)) (t : Nat) (h : t ≤ 3 * (ss.map List.length).sum) : (ttAt σ room picks ss t).todo = 3 * (ss.map List.length).sum - t ∧ (ttAt σ room picks ss t).tm = t := by
  induction t with
  | zero => exact ⟨tg0_todo ss, rfl⟩
  | succ t ih =>
    obtain ⟨h1, h2⟩ := ih (by omega)
    have hok := tt_ok σ room picks ss t
    have hon : on 0 ((ttAt σ room picks ss t).en σ) ≠ [] := fun e => by have := (todo_en hok).1 e; omega
    rw [tt_next hon]
    have := tadv_todo hok (Tg.who_lt (picks := picks) hon) (Tg.who_en hon)
    exact ⟨by omega, by show (ttAt σ room picks ss t).tm + 1 = _; omega⟩
theorem tt_on (σ : Ky → Int) (room : Int) (picks : List Int) (ss : List (List Ky)) (t : Nat) (h : t ≤ 3 * (ss.map List.length).sum) : on 0 ((ttAt σ room picks ss t).en σ) = [] ↔ t = 3 * (ss.map List.length).sum := by
  rw [todo_en (tt_ok σ room picks ss t), (tt_todo σ room picks ss t h).1]
  omega
/-- What is there when all have ended. -/
structure TEnd (room : Int) (ss : List (List Ky)) (g : Tg) : Prop where
  len : g.ws.length = ss.length
  got : ∀ (i : Nat) (s : List Ky), ss[i]? = some s → (g.tw i).got.length = s.length ∧ ∀ (j : Nat) (x : Ky), s[j]? = some x → (∃ m : Nat, (g.tw i).got[j]? = some (m : Int) ∧ g.keys[m]? = some x) ∨ ((g.tw i).got[j]? = some (-1) ∧ ¬ (g.keys.length : Int) < room)
  nodup : g.keys.Nodup
  room : g.keys = [] ∨ (g.keys.length : Int) ≤ room
  src : ∀ x ∈ g.keys, ∃ (i : Nat) (s : List Ky), ss[i]? = some s ∧ x ∈ s
  cnt : g.keys.length ≤ (ss.map List.length).sum
def ttEnd (σ : Ky → Int) (room : Int) (picks : List Int) (ss : List (List Ky)) : Tg := ttAt σ room picks ss (3 * (ss.map List.length).sum)
theorem tt_left (σ : Ky → Int) (room : Int) (picks : List Int) (ss : List (List Ky)) (i : Nat) (k : Tw) (h : (ttEnd σ room picks ss).ws[i]? = some k) : k.left = [] ∧ k.st = 0 := by
  have h0 := (tt_todo σ room picks ss _ (Nat.le_refl _)).1
  rw [Nat.sub_self] at h0
  have hok := tt_ok σ room picks ss (3 * (ss.map List.length).sum)
  have hm : k.todo ≤ (ttEnd σ room picks ss).todo := tle_sum (List.mem_map.2 ⟨k, List.mem_of_getElem? h, rfl⟩)
  have hz : k.todo = 0 := by unfold ttEnd at hm; omega
  have hi := (List.getElem?_eq_some_iff.1 h).1
  obtain ⟨s, hs⟩ : ∃ s, ss[i]? = some s := ⟨_, List.getElem?_eq_getElem (by rw [← hok.len]; exact hi)⟩
  have hk := hok.ok i k s h hs
  have hst := hk.st
  unfold Tw.todo at hz
  have hl : k.left = [] := by
    cases hl : k.left with
    | nil => rfl
    | cons q r => rw [hl] at hz; simp at hz; omega
  exact ⟨hl, Classical.byContradiction fun q => hk.ne q hl⟩
theorem tt_locked (σ : Ky → Int) (room : Int) (picks : List Int) (ss : List (List Ky)) (s : Int) : (ttEnd σ room picks ss).locked σ s = false := by
  cases h : (ttEnd σ room picks ss).locked σ s with
  | false => rfl
  | true =>
    obtain ⟨i, k, hi, hh⟩ := Tg.locked_iff.1 h
    have := (tt_left σ room picks ss i k hi).2
    unfold Tw.hold at hh
    rw [if_pos this] at hh
    cases hh
theorem tt_end (σ : Ky → Int) (room : Int) (picks : List Int) (ss : List (List Ky)) : TEnd room ss (ttEnd σ room picks ss) := by
  have hok := tt_ok σ room picks ss (3 * (ss.map List.length).sum)
  have hgot : ∀ (i : Nat) (s : List Ky), ss[i]? = some s → ((ttEnd σ room picks ss).tw i).got.length = s.length ∧ ∀ (j : Nat) (x : Ky), s[j]? = some x → (∃ m : Nat, ((ttEnd σ room picks ss).tw i).got[j]? = some (m : Int) ∧ (ttEnd σ room picks ss).keys[m]? = some x) ∨ (((ttEnd σ room picks ss).tw i).got[j]? = some (-1) ∧ ¬ ((ttEnd σ room picks ss).keys.length : Int) < room) := by
    intro i s hs
    have hi : i < (ttEnd σ room picks ss).ws.length := by
      have := (List.getElem?_eq_some_iff.1 hs).1
      show i < (ttAt σ room picks ss _).ws.length
      rw [hok.len]; exact this
    have hg := Tg.tw_get hi
    obtain ⟨hl, h0⟩ := tt_left σ room picks ss i _ hg
    have hk := hok.ok i _ s hg hs
    obtain ⟨d, hd, hgl⟩ := hk.spl
    rw [hl, List.append_nil] at hd
    subst hd
    rw [if_neg (by omega), Nat.add_zero] at hgl
    refine ⟨hgl, fun j x hx => ?_⟩
    have hj : j < ((ttEnd σ room picks ss).tw i).got.length := by rw [hgl]; exact (List.getElem?_eq_some_iff.1 hx).1
    have he := List.getElem?_eq_getElem hj
    rcases hk.got j x _ hx he with ⟨m, h1, h2⟩ | ⟨h1, h2⟩
    · exact .inl ⟨m, by rw [he, h1], h2⟩
    · exact .inr ⟨by rw [he, h1], h2⟩
  refine ⟨hok.len, hgot, hok.nodup, hok.room, hok.src, ?_⟩
  refine Nat.le_trans hok.cnt (Nat.le_of_eq ?_)
  congr 1
  refine List.ext_getElem? fun i => ?_
  rw [List.getElem?_map, List.getElem?_map]
  cases hs : ss[i]? with
  | none =>
    have : ss.length ≤ i := by simpa using hs
    rw [List.getElem?_eq_none (by rw [hok.len]; exact this)]; rfl
  | some s =>
    have hi : i < (ttEnd σ room picks ss).ws.length := by
      have := (List.getElem?_eq_some_iff.1 hs).1
      show i < (ttAt σ room picks ss _).ws.length
      rw [hok.len]; exact this
    have hg := Tg.tw_get hi
    change Option.map _ ((ttEnd σ room picks ss).ws[i]?) = _
    rw [hg]
    simp [(hgot i s hs).1]

/-! ### One worker alone -/
/-- The table behind so many keys, one worker alone. -/
def firsts (room : Int) (s : List Ky) : List Ky := s.foldl (fun l k => (lookK room l k).1) []
theorem firsts_snoc (room : Int) (s : List Ky) (k : Ky) : firsts room (s ++ [k]) = (lookK room (firsts room s) k).1 := by unfold firsts; rw [List.foldl_append]; rfl
structure TOne (room : Int) (s : List Ky) (g : Tg) : Prop where
  ws : ∃ k, g.ws = [k] ∧ g.keys = firsts room (s.take k.got.length) ∧ ∀ (j : Nat) (n : Int) (x : Ky), k.got[j]? = some n → s[j]? = some x → n = (lookK room (firsts room (s.take j)) x).2
theorem tone (σ : Ky → Int) (room : Int) (picks : List Int) (s : List Ky) (t : Nat) : TOne room s (ttAt σ room picks [s] t) := by
  induction t with
  | zero => exact ⟨⟨s, 0, []⟩, rfl, rfl, fun j n x h => by simp at h⟩
  | succ t ih =>
    by_cases hon : on 0 ((ttAt σ room picks [s] t).en σ) = []
    · have : ttAt σ room picks [s] (t + 1) = ttAt σ room picks [s] t := by
        show (if on 0 ((ttAt σ room picks [s] t).en σ) = [] then _ else _) = _
        exact if_pos hon
      rw [this]; exact ih
    · rw [tt_next hon]
      have hw := Tg.who_lt (picks := picks) hon
      have he := Tg.who_en (picks := picks) hon
      have hok := tt_ok σ room picks [s] t
      generalize (ttAt σ room picks [s] t) = g at *
      obtain ⟨k, h1, h2, h3⟩ := ih.ws
      have hw0 : g.who σ picks = 0 := by rw [h1] at hw; simpa using hw
      rw [hw0] at he ⊢
      have hk : g.tw 0 = k := by unfold Tg.tw; rw [h1]; rfl
      obtain ⟨q, r, hl, _⟩ := enW_cases he
      rw [hk] at hl
      have hok1 := hok.ok 0 k s (by rw [h1]; rfl) rfl
      obtain ⟨d, hd, hgl⟩ := hok1.spl
      refine ⟨(k.adv room g.keys), ?_, ?_, ?_⟩
      · show g.ws.set 0 ((g.tw 0).adv room g.keys) = _
        rw [hk, h1]; rfl
      · show (g.tw 0).keys room g.keys = _
        rw [hk]
        unfold Tw.keys Tw.adv
        rw [hl]
        simp only
        by_cases h0 : k.st = 0
        · rw [if_neg (by omega), if_pos h0]; exact h2
        · rw [if_neg h0]
          by_cases h1 : k.st = 1
          · rw [if_pos h1, if_pos h1]
            rw [if_neg (by omega)] at hgl
            have e : s.take (k.got.length + 1) = s.take k.got.length ++ [q] := by
              rw [List.take_add_one]
              congr 1
              rw [hgl, hd, hl, Nat.add_zero, List.getElem?_append_right (Nat.le_refl _)]
              simp
            simp only [List.length_append, List.length_singleton]
            rw [e, firsts_snoc, ← h2]
          · rw [if_neg h1, if_neg h1]; exact h2
      · intro j n x hj hx
        unfold Tw.adv at hj
        rw [hl] at hj
        simp only at hj
        by_cases h0 : k.st = 0
        · rw [if_pos h0] at hj; exact h3 j n x hj hx
        · rw [if_neg h0] at hj
          by_cases h1 : k.st = 1
          · rw [if_pos h1] at hj
            simp only at hj
            rw [if_neg (by omega)] at hgl
            rw [List.getElem?_append] at hj
            split at hj
            · exact h3 j n x hj hx
            · next hjl =>
              have e : j - k.got.length = 0 := by
                rcases Nat.eq_zero_or_pos (j - k.got.length) with e | e
                · exact e
                · rw [List.getElem?_eq_none (by simp; omega)] at hj; cases hj
              rw [e] at hj
              simp at hj
              subst hj
              have ej : j = k.got.length := by omega
              subst ej
              rw [hd, hl, hgl, Nat.add_zero, List.getElem?_append_right (Nat.le_refl _), Nat.sub_self] at hx
              simp at hx
              subst hx
              rw [h2]
          · rw [if_neg h1] at hj; exact h3 j n x hj hx

end Go.Proofs.YthhcchdjeeigpaaDoor
