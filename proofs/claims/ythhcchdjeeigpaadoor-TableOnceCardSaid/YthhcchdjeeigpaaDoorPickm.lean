/- The plain mathematics of package pick: words of bits, the numbers of those that are enabled. No program. -/
import Derived.Lib.TrailingZeros
import Derived.Laws.Bits64b
namespace Go.Proofs.YthhcchdjeeigpaaDoor

/-- A list of bools as a number, the first the lowest bit. -/
def wd : List Bool → Nat
  | [] => 0
  | b :: r => b.toNat + 2 * wd r

theorem wd_lt : ∀ l, wd l < 2 ^ l.length
  | [] => by simp [wd]
  | b :: r => by have := wd_lt r; cases b <;> simp [wd, Nat.pow_succ] <;> omega

theorem wd_lt64 (l : List Bool) (h : l.length ≤ 64) : wd l < 18446744073709551616 := by
  have h1 := wd_lt l
  have h2 : 2 ^ l.length ≤ 2 ^ 64 := Nat.pow_le_pow_right (by decide) h
  have : (2 : Nat) ^ 64 = 18446744073709551616 := by decide
  omega

theorem wd_append : ∀ (l r : List Bool), wd (l ++ r) = wd l + 2 ^ l.length * wd r
  | [], r => by simp [wd]
  | b :: l, r => by
    have := wd_append l r
    simp only [List.cons_append, wd, this, List.length_cons, Nat.pow_succ]
    rw [Nat.mul_add, Nat.mul_comm (2 ^ l.length) 2, Nat.mul_assoc]; omega

theorem wd_snoc_true (l : List Bool) : wd (l ++ [true]) = wd l ||| 2 ^ l.length := by
  rw [wd_append, Nat.or_comm]
  have := Nat.two_pow_add_eq_or_of_lt (wd_lt l) 1
  simp [wd] at this ⊢
  omega

theorem wd_snoc_false (l : List Bool) : wd (l ++ [false]) = wd l := by
  rw [wd_append]; simp [wd]

theorem wd_replicate_false : ∀ n, wd (List.replicate n false) = 0
  | 0 => rfl
  | n + 1 => by simp [List.replicate_succ, wd, wd_replicate_false n]

/-- The numbers of those that are true, in order, the first place being o. -/
def on (o : Nat) : List Bool → List Nat
  | [] => []
  | b :: r => if b then o :: on (o + 1) r else on (o + 1) r

theorem on_append (l r : List Bool) : ∀ o, on o (l ++ r) = on o l ++ on (o + l.length) r := by
  induction l with
  | nil => intro o; rfl
  | cons b l ih =>
    intro o
    have e : o + 1 + l.length = o + (l.length + 1) := by omega
    cases b <;> simp [on, ih, e]

theorem on_shift (l : List Bool) : ∀ o, on o l = (on 0 l).map (o + ·) := by
  induction l with
  | nil => intro o; rfl
  | cons b l ih =>
    intro o
    have h1 := ih (o + 1)
    have h2 := ih (0 + 1)
    cases b
    · simp only [on, h1, h2]
      simp; intro a _; omega
    · simp only [on, h1, h2]
      simp; intro a _; omega

theorem on_range (l : List Bool) : ∀ o x, x ∈ on o l → o ≤ x ∧ x < o + l.length ∧ l.getD (x - o) false = true := by
  induction l with
  | nil => intro o x h; simp [on] at h
  | cons b l ih =>
    intro o x h
    have h' : (b = true ∧ x = o) ∨ x ∈ on (o + 1) l := by
      cases b <;> simp [on] at h ⊢ <;> exact h
    rcases h' with ⟨rfl, rfl⟩ | h'
    · simp
    · obtain ⟨h1, h2, h3⟩ := ih (o + 1) x h'
      have e : x - o = (x - (o + 1)) + 1 := by omega
      refine ⟨by omega, by simp; omega, ?_⟩
      rw [e]; simpa using h3

theorem mem_on (l : List Bool) : ∀ o i, l.getD i false = true → o + i ∈ on o l := by
  induction l with
  | nil => intro o i h; simp at h
  | cons b l ih =>
    intro o i h
    cases i with
    | zero => simp at h; subst h; simp [on]
    | succ i =>
      have := ih (o + 1) i (by simpa using h)
      have e : o + 1 + i = o + (i + 1) := by omega
      rw [e] at this
      cases b <;> simp [on, this]

theorem on_pairwise (l : List Bool) : ∀ o, (on o l).Pairwise (· < ·) := by
  induction l with
  | nil => intro o; simp [on]
  | cons b l ih =>
    intro o
    cases b
    · simpa [on] using ih (o + 1)
    · simp only [on, if_true, List.pairwise_cons]
      exact ⟨fun x hx => by have := on_range l (o + 1) x hx; omega, ih (o + 1)⟩

theorem on_length_le (l : List Bool) : ∀ o, (on o l).length ≤ l.length := by
  induction l with
  | nil => intro o; simp [on]
  | cons b l ih => intro o; have := ih (o + 1); cases b <;> simp [on] <;> omega

/-! ### x & (x − 1) takes the lowest bit away; ctz is its place -/
def clr : List Bool → List Bool
  | [] => []
  | b :: r => if b then false :: r else false :: clr r

theorem clr_length : ∀ l, (clr l).length = l.length
  | [] => rfl
  | b :: r => by cases b <;> simp [clr, clr_length r]

theorem wd_zero_iff : ∀ (l : List Bool) (o : Nat), wd l = 0 ↔ on o l = []
  | [], o => by simp [wd, on]
  | b :: r, o => by
    have := wd_zero_iff r (o + 1)
    cases b
    · rw [show on o (false :: r) = on (o + 1) r from rfl, ← this]; simp [wd]; omega
    · simp [wd, on]

theorem and_double (a b : Nat) (x y : Bool) : (x.toNat + 2 * a) &&& (y.toNat + 2 * b) = (x && y).toNat + 2 * (a &&& b) := by
  apply Nat.eq_of_testBit_eq
  intro i
  cases i with
  | zero => cases x <;> cases y <;> simp [Nat.testBit_zero]
  | succ i =>
    have e : ∀ (x : Bool) a, (x.toNat + 2 * a) / 2 = a := fun x a => by cases x <;> simp <;> omega
    rw [Nat.testBit_and, Nat.testBit_succ, Nat.testBit_succ, Nat.testBit_succ, e, e, e, Nat.testBit_and]

theorem wd_clr : ∀ l, wd l &&& (wd l - 1) = wd (clr l)
  | [] => rfl
  | true :: r => by
    have := and_double (wd r) (wd r) true false
    simp [wd, clr] at this ⊢
    exact this
  | false :: r => by
    have ih := wd_clr r
    by_cases h : wd r = 0
    · simp [wd, clr, h]
      rw [h] at ih; simp at ih; omega
    · have := and_double (wd r) (wd r - 1) false true
      simp [wd, clr] at this ⊢
      rw [show 2 * wd r - 1 = 1 + 2 * (wd r - 1) from by omega, this, ih]

theorem on_clr : ∀ l o, on o (clr l) = (on o l).tail
  | [], o => rfl
  | true :: r, o => by simp [clr, on]
  | false :: r, o => by simp [clr, on, on_clr r]

def clrs : Nat → List Bool → List Bool
  | 0, l => l
  | k + 1, l => clr (clrs k l)

theorem clrs_length (k : Nat) (l : List Bool) : (clrs k l).length = l.length := by
  induction k with
  | zero => rfl
  | succ k ih => simp [clrs, clr_length, ih]

theorem on_clrs (k : Nat) (l : List Bool) (o : Nat) : on o (clrs k l) = (on o l).drop k := by
  induction k with
  | zero => rfl
  | succ k ih => simp [clrs, on_clr, ih]

theorem ctz_wd : ∀ (l : List Bool) (f : Nat) (x : Nat) (r : List Nat), l.length ≤ f → on 0 l = x :: r → Lib.ctzFrom f (wd l) = x
  | [], f, x, r, _, h => by simp [on] at h
  | b :: l, 0, x, r, hf, h => by simp at hf
  | true :: l, f + 1, x, r, hf, h => by
    simp [on] at h
    unfold Lib.ctzFrom
    simp [wd]; omega
  | false :: l, f + 1, x, r, hf, h => by
    simp [on] at h
    rw [on_shift] at h
    cases hr : on 0 l with
    | nil => rw [hr] at h; simp at h
    | cons y s =>
      rw [hr] at h; simp at h
      have := ctz_wd l f y s (by simpa using hf) hr
      unfold Lib.ctzFrom
      rw [if_neg (by simp [wd])]
      rw [show wd (false :: l) / 2 = wd l from by simp [wd], this]
      omega

theorem ctz64_wd (l : List Bool) (x : Nat) (r : List Nat) (hl : l.length ≤ 64) (h : on 0 l = x :: r) : Lib.ctz 64 (wd l) = x := by
  unfold Lib.ctz
  rw [if_neg (by rw [wd_zero_iff l 0, h]; simp)]
  exact ctz_wd l 64 x r hl h

/-! ### Words: the 64 from place 64 j on -/
def chunk (en : List Bool) (j : Nat) : List Bool := (en.drop (64 * j)).take 64
def word (en : List Bool) (j : Nat) : Nat := wd (chunk en j)

theorem chunk_length (en : List Bool) (j : Nat) : (chunk en j).length ≤ 64 := by unfold chunk; simp; omega
theorem word_lt (en : List Bool) (j : Nat) : word en j < 18446744073709551616 := wd_lt64 _ (chunk_length en j)

theorem take_chunk (en : List Bool) (j : Nat) : en.take (64 * (j + 1)) = en.take (64 * j) ++ chunk en j := by
  unfold chunk
  rw [show 64 * (j + 1) = 64 * j + 64 from by omega, List.take_add]

theorem on_take_chunk (en : List Bool) (j : Nat) (h : 64 * j ≤ en.length) : on 0 (en.take (64 * (j + 1))) = on 0 (en.take (64 * j)) ++ on (64 * j) (chunk en j) := by
  rw [take_chunk, on_append]
  congr 2
  simp; omega

/-- What setOf's round does to word j. -/
theorem word_take_succ (en : List Bool) (k j : Nat) (h : k < en.length) :
    word (en.take (k + 1)) j = if en.getD k false = true ∧ j = k / 64 then word (en.take k) j ||| 2 ^ (k % 64) else word (en.take k) j := by
  have hg : en.take (k + 1) = en.take k ++ [en.getD k false] := by
    rw [List.take_add_one, List.getElem?_eq_getElem h]; simp [List.getD, h]
  have hl : (en.take k).length = k := by simp; omega
  rw [hg]
  generalize hp : en.take k = p at *
  generalize en.getD k false = b at *
  clear hg hp h
  subst hl
  unfold word chunk
  by_cases h1 : p.length < 64 * j
  · -- word j is still nothing
    have e1 : p.drop (64 * j) = [] := List.drop_eq_nil_of_le (by omega)
    have e2 : (p ++ [b]).drop (64 * j) = [] := List.drop_eq_nil_of_le (by simp; omega)
    rw [e1, e2, if_neg (by omega)]
  · have e2 : (p ++ [b]).drop (64 * j) = p.drop (64 * j) ++ [b] := List.drop_append_of_le_length (by omega)
    rw [e2]
    by_cases h2 : p.length < 64 * j + 64
    · have hj : j = p.length / 64 := by omega
      have ht : (p.drop (64 * j) ++ [b]).take 64 = p.drop (64 * j) ++ [b] := List.take_of_length_le (by simp; omega)
      have ht2 : (p.drop (64 * j)).take 64 = p.drop (64 * j) := List.take_of_length_le (by simp; omega)
      rw [ht, ht2]
      cases b with
      | true =>
        rw [wd_snoc_true, if_pos ⟨rfl, hj⟩]
        congr 2
        simp; omega
      | false => rw [wd_snoc_false, if_neg (by simp)]
    · rw [List.take_append_of_le_length (by simp; omega), if_neg (by omega)]

/-- The words of a set of so many. -/
def words (en : List Bool) : List Nat := (List.range ((en.length + 63) / 64)).map (word en)
def wordsTo (nw : Nat) (en : List Bool) (k : Nat) : List Nat := (List.range nw).map (word (en.take k))

theorem wordsTo_length (nw : Nat) (en : List Bool) (k : Nat) : (wordsTo nw en k).length = nw := by simp [wordsTo]
theorem wordsTo_get (nw : Nat) (en : List Bool) (k j : Nat) (h : j < nw) : (wordsTo nw en k).getD j 0 = word (en.take k) j := by simp [wordsTo, List.getD, h]
theorem words_length (en : List Bool) : (words en).length = (en.length + 63) / 64 := by simp [words]
theorem words_get (en : List Bool) (j : Nat) (h : j < (en.length + 63) / 64) : (words en).getD j 0 = word en j := by simp [words, List.getD, h]

theorem wordsTo_zero (nw : Nat) (en : List Bool) : wordsTo nw en 0 = List.replicate nw 0 := by
  apply List.ext_getElem
  · simp [wordsTo]
  · intro i h1 h2; simp [wordsTo, word, chunk, wd]

theorem wordsTo_all (en : List Bool) : wordsTo ((en.length + 63) / 64) en en.length = words en := by simp [wordsTo, words]

theorem wordsTo_true (nw : Nat) (en : List Bool) (k : Nat) (h : k < en.length) (hb : en.getD k false = true) :
    (wordsTo nw en k).set (k / 64) (word (en.take k) (k / 64) ||| 2 ^ (k % 64)) = wordsTo nw en (k + 1) := by
  apply List.ext_getElem
  · simp [wordsTo]
  · intro i h1 h2
    have hi : i < nw := by simpa [wordsTo] using h2
    rw [List.getElem_set]
    simp only [wordsTo, List.getElem_map, List.getElem_range]
    rw [word_take_succ en k i h, hb]
    by_cases hi2 : k / 64 = i
    · subst hi2; simp
    · rw [if_neg hi2, if_neg (by intro hh; exact hi2 hh.2.symm)]

theorem wordsTo_false (nw : Nat) (en : List Bool) (k : Nat) (h : k < en.length) (hb : en.getD k false = false) : wordsTo nw en (k + 1) = wordsTo nw en k := by
  apply List.ext_getElem
  · simp [wordsTo]
  · intro i h1 h2
    simp only [wordsTo, List.getElem_map, List.getElem_range]
    rw [word_take_succ en k i h, hb]
    simp

/-! ### The k-th, the first from a place on, the first behind one -/
theorem on_nth (en : List Bool) (k : Nat) (j : Nat) (hj : 64 * j ≤ en.length) (h1 : (on 0 (en.take (64 * j))).length ≤ k) (h2 : k < (on 0 (en.take (64 * (j + 1)))).length) :
    ∃ x r, on 0 (clrs (k - (on 0 (en.take (64 * j))).length) (chunk en j)) = x :: r ∧ 64 * j + x = (on 0 en).getD k 0 := by
  have hsplit : on 0 en = on 0 (en.take (64 * j)) ++ on (64 * j) (chunk en j) ++ on (64 * (j + 1)) (en.drop (64 * (j + 1))) := by
    by_cases hle : 64 * (j + 1) ≤ en.length
    · conv => lhs; rw [← List.take_append_drop (64 * (j + 1)) en]
      rw [on_append, on_take_chunk en j hj]
      congr 2
      simp; omega
    · have e : en.take (64 * (j + 1)) = en := List.take_of_length_le (by omega)
      have e2 : en.drop (64 * (j + 1)) = [] := List.drop_eq_nil_of_le (by omega)
      rw [e2, ← on_take_chunk en j hj, e]; simp [on]
  rw [on_take_chunk en j hj, List.length_append] at h2
  generalize hA : on 0 (en.take (64 * j)) = A at *
  rw [on_clrs]
  have hl : (on (64 * j) (chunk en j)).length = (on 0 (chunk en j)).length := by rw [on_shift]; simp
  rw [hl] at h2
  have hlt : k - A.length < (on 0 (chunk en j)).length := by omega
  refine ⟨_, _, List.drop_eq_getElem_cons hlt, ?_⟩
  rw [hsplit, List.append_assoc]
  simp only [List.getD_eq_getElem?_getD]
  rw [List.getElem?_append_right h1, List.getElem?_append_left (by rw [hl]; exact hlt), on_shift (chunk en j) (64 * j)]
  simp [hlt]

/-- The first that is s or above. -/
def from' (en : List Bool) (s : Nat) : Int := match (on 0 en).find? (fun x => decide (s ≤ x)) with
  | some x => x
  | none => -1

theorem find_append_none {α : Type} (p : α → Bool) (a b : List α) (h : a.find? p = none) : (a ++ b).find? p = b.find? p := by
  rw [List.find?_append, h]; rfl

/-- A word whose lowest r bits are struck. -/
def cut (r : Nat) (l : List Bool) : List Bool := List.replicate (min r l.length) false ++ l.drop r

theorem wd_drop : ∀ (r : Nat) (l : List Bool), wd (l.drop r) = wd l / 2 ^ r
  | 0, l => by simp
  | r + 1, [] => by simp [wd]
  | r + 1, b :: l => by
    rw [List.drop_succ_cons, wd_drop r l, Nat.pow_succ, Nat.mul_comm, ← Nat.div_div_eq_div_mul]
    congr 1
    cases b <;> simp [wd] <;> omega

theorem wd_cut (r : Nat) (l : List Bool) : wd (cut r l) = wd l / 2 ^ r * 2 ^ r := by
  unfold cut
  by_cases h : r ≤ l.length
  · rw [wd_append, wd_replicate_false, wd_drop, Nat.min_eq_left h]; simp; rw [Nat.mul_comm]
  · have e : l.drop r = [] := List.drop_eq_nil_of_le (by omega)
    have h1 := wd_lt l
    have h2 : 2 ^ l.length ≤ 2 ^ r := Nat.pow_le_pow_right (by decide) (by omega)
    rw [e, List.append_nil, wd_replicate_false, Nat.div_eq_of_lt (by omega)]; simp

theorem cut_length (r : Nat) (l : List Bool) : (cut r l).length = l.length := by unfold cut; simp; omega

theorem on_replicate_false (n o : Nat) : on o (List.replicate n false) = [] := by
  induction n generalizing o with
  | zero => rfl
  | succ n ih => simp [List.replicate_succ, on, ih]

theorem on_cut (r : Nat) (l : List Bool) : ∀ o, on o (cut r l) = (on o l).filter (fun x => decide (o + r ≤ x)) := by
  intro o
  have hs : on o l = on o (l.take r) ++ on (o + min r l.length) (l.drop r) := by
    conv => lhs; rw [← List.take_append_drop r l]
    rw [on_append]; simp
  have h1 : (on o (l.take r)).filter (fun x => decide (o + r ≤ x)) = [] := by
    rw [List.filter_eq_nil_iff]
    intro x hx
    have := on_range _ _ _ hx
    simp at this ⊢; omega
  rw [hs, List.filter_append, h1, List.nil_append]
  unfold cut
  rw [on_append, on_replicate_false, List.nil_append, List.length_replicate]
  by_cases h : r ≤ l.length
  · rw [Nat.min_eq_left h]
    symm
    rw [List.filter_eq_self]
    intro x hx
    have := on_range _ _ _ hx
    simp; omega
  · rw [List.drop_eq_nil_of_le (by omega)]; simp [on]

theorem find_filter_head (p : Nat → Bool) : ∀ l : List Nat, l.find? p = (l.filter p).head?
  | [] => rfl
  | a :: l => by
    by_cases h : p a = true
    · simp [h]
    · have h' : p a = false := by simpa using h
      rw [List.find?_cons, h', List.filter_cons, h', find_filter_head p l]; simp

/-- Ahead of word j there is none that is s or above. -/
def Past (en : List Bool) (s j : Nat) : Prop := ∀ x ∈ on 0 (en.take (64 * j)), x < s

theorem past_start (en : List Bool) (s : Nat) : Past en s (s / 64) := by
  intro x hx
  have := on_range _ _ _ hx
  simp at this; omega

theorem past_find (en : List Bool) (s j : Nat) (h : Past en s j) : (on 0 (en.take (64 * j))).find? (fun x => decide (s ≤ x)) = none := by
  rw [List.find?_eq_none]
  intro x hx
  have := h x hx
  simp; omega

theorem on_split (en : List Bool) (j : Nat) (hj : 64 * j ≤ en.length) : ∃ q, on 0 en = on 0 (en.take (64 * j)) ++ on (64 * j) (chunk en j) ++ q := by
  rw [← on_take_chunk en j hj]
  refine ⟨on (0 + (en.take (64 * (j + 1))).length) (en.drop (64 * (j + 1))), ?_⟩
  rw [← on_append, List.take_append_drop]

/-- The word at which the search begins. -/
def seen (en : List Bool) (s j : Nat) : List Bool := if j = s / 64 then cut (s % 64) (chunk en j) else chunk en j

theorem seen_length (en : List Bool) (s j : Nat) : (seen en s j).length ≤ 64 := by
  have := chunk_length en j
  unfold seen; split
  · rw [cut_length]; exact this
  · exact this

theorem seen_on (en : List Bool) (s j : Nat) (hs : s / 64 ≤ j) : on (64 * j) (seen en s j) = (on (64 * j) (chunk en j)).filter (fun x => decide (s ≤ x)) := by
  unfold seen
  split
  · rename_i h
    rw [on_cut]
    congr 1
    funext x
    have : 64 * j + s % 64 = s := by omega
    rw [this]
  · rename_i h
    symm
    rw [List.filter_eq_self]
    intro x hx
    have := on_range _ _ _ hx
    simp; omega

theorem from_hit (en : List Bool) (s j x : Nat) (r : List Nat) (hj : 64 * j ≤ en.length) (hs : s / 64 ≤ j) (hp : Past en s j) (h : on 0 (seen en s j) = x :: r) : from' en s = ((64 * j + x : Nat) : Int) := by
  obtain ⟨q, hq⟩ := on_split en j hj
  have e : (on 0 en).find? (fun x => decide (s ≤ x)) = some (64 * j + x) := by
    rw [hq, List.append_assoc, find_append_none _ _ _ (past_find en s j hp), List.find?_append, find_filter_head, ← seen_on en s j hs, on_shift, h]
    simp
  unfold from'
  rw [e]

theorem past_next (en : List Bool) (s j : Nat) (hj : 64 * j ≤ en.length) (hs : s / 64 ≤ j) (hp : Past en s j) (h : on 0 (seen en s j) = []) : Past en s (j + 1) := by
  intro x hx
  rw [on_take_chunk en j hj] at hx
  rcases List.mem_append.1 hx with hx | hx
  · exact hp x hx
  · have e : on (64 * j) (seen en s j) = [] := by rw [on_shift, h]; rfl
    rw [seen_on en s j hs, List.filter_eq_nil_iff] at e
    have := e x hx
    simp at this; omega

theorem from_miss (en : List Bool) (s : Nat) (j : Nat) (hj : en.length ≤ 64 * j) (hp : Past en s j) : from' en s = -1 := by
  have e : en.take (64 * j) = en := List.take_of_length_le hj
  have := past_find en s j hp
  rw [e] at this
  unfold from'
  rw [this]

/-- Who is next behind 'last': the first that is greater, or else the first. -/
def behindI (en : List Bool) (last : Int) : Int := match (on 0 en).find? (fun x : Nat => decide (last < (x : Int))) with
  | some x => x
  | none => ((on 0 en).getD 0 0 : Nat)

theorem find_congr {α : Type} (p q : α → Bool) (l : List α) (h : ∀ x ∈ l, p x = q x) : l.find? p = l.find? q := by
  induction l with
  | nil => rfl
  | cons a l ih =>
    rw [List.find?_cons, List.find?_cons, h a (by simp), ih (fun x hx => h x (by simp [hx]))]

theorem from_zero (en : List Bool) (h : on 0 en ≠ []) : from' en 0 = ((on 0 en).getD 0 0 : Nat) := by
  unfold from'
  cases hq : on 0 en with
  | nil => exact absurd hq h
  | cons a l => simp

theorem behind_low (en : List Bool) (last : Int) (h : on 0 en ≠ []) (hl : last < 0) : behindI en last = from' en 0 := by
  rw [from_zero en h]
  unfold behindI
  cases hq : on 0 en with
  | nil => exact absurd hq h
  | cons a l =>
    have : last < (a : Int) := by omega
    simp [this]

theorem behind_high (en : List Bool) (last : Nat) (h : on 0 en ≠ []) (hl : en.length ≤ last) : behindI en last = from' en 0 := by
  rw [from_zero en h]
  unfold behindI
  have : (on 0 en).find? (fun x : Nat => decide ((last : Int) < (x : Int))) = none := by
    rw [List.find?_eq_none]
    intro x hx
    have := on_range _ _ _ hx
    simp; omega
  rw [this]

theorem behind_mid (en : List Bool) (last : Nat) (h : on 0 en ≠ []) : behindI en last = if 0 ≤ from' en (last + 1) then from' en (last + 1) else from' en 0 := by
  rw [from_zero en h]
  unfold behindI from'
  rw [find_congr (fun x : Nat => decide ((last : Int) < (x : Int))) (fun x => decide (last + 1 ≤ x)) _ (fun x _ => by simp; omega)]
  cases (on 0 en).find? (fun x => decide (last + 1 ≤ x)) with
  | none => simp
  | some x => simp

end Go.Proofs.YthhcchdjeeigpaaDoor
