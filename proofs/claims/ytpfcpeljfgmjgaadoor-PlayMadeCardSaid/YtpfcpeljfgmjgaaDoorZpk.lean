/- The plain mathematics of package pick: words of bits, the numbers of those that are enabled. No program. Who is next, by picks. No program. Mathematics of workers that do operations on cells, one step at a time, who is next by picks: the states, that all ends, how soon. No program. -/
import Derived.Lib.TrailingZeros
import Derived.Laws.Bits64b
import Derived.Test.YtpfcpeljfgmjgaaDoorZph
namespace Go.Proofs.YtpfcpeljfgmjgaaDoor

/-- A list of bools as a number, the first the lowest bit. -/
def wd : List Bool → Nat
  | [] => 0
  | b :: r => b.toNat + 2 * wd r

theorem wd_lt : ∀ l, wd l < 2 ^ l.length
  | [] => by simp [wd]
  | b :: r => by have := wd_lt r; cases b <;> simp [wd, Nat.pow_succ] <;> omega

theorem wd_lt64 (l : List Bool) (h : l.length ≤ 64) : wd l < 18446744073709551616 := by
  have h1 := wd_lt l
  have h2 : 2 ^ l.length ≤ 2 ^ 64 := Nat.pow_le_pow_right (by decide) h
  have : (2 : Nat) ^ 64 = 18446744073709551616 := by decide
  omega

theorem wd_append : ∀ (l r : List Bool), wd (l ++ r) = wd l + 2 ^ l.length * wd r
  | [], r => by simp [wd]
  | b :: l, r => by
    have := wd_append l r
    simp only [List.cons_append, wd, this, List.length_cons, Nat.pow_succ]
    rw [Nat.mul_add, Nat.mul_comm (2 ^ l.length) 2, Nat.mul_assoc]; omega

theorem wd_snoc_true (l : List Bool) : wd (l ++ [true]) = wd l ||| 2 ^ l.length := by
  rw [wd_append, Nat.or_comm]
  have := Nat.two_pow_add_eq_or_of_lt (wd_lt l) 1
  simp [wd] at this ⊢
  omega

theorem wd_snoc_false (l : List Bool) : wd (l ++ [false]) = wd l := by
  rw [wd_append]; simp [wd]

theorem wd_replicate_false : ∀ n, wd (List.replicate n false) = 0
  | 0 => rfl
  | n + 1 => by simp [List.replicate_succ, wd, wd_replicate_false n]

/-- The numbers of those that are true, in order, the first place being o. -/
def on (o : Nat) : List Bool → List Nat
  | [] => []
  | b :: r => if b then o :: on (o + 1) r else on (o + 1) r

theorem on_append (l r : List Bool) : ∀ o, on o (l ++ r) = on o l ++ on (o + l.length) r := by
  induction l with
  | nil => intro o; rfl
  | cons b l ih =>
    intro o
    have e : o + 1 + l.length = o + (l.length + 1) := by omega
    cases b <;> simp [on, ih, e]

theorem on_shift (l : List Bool) : ∀ o, on o l = (on 0 l).map (o + ·) := by
  induction l with
  | nil => intro o; rfl
  | cons b l ih =>
    intro o
    have h1 := ih (o + 1)
    have h2 := ih (0 + 1)
    cases b
    · simp only [on, h1, h2]
      simp; intro a _; omega
    · simp only [on, h1, h2]
      simp; intro a _; omega

theorem on_range (l : List Bool) : ∀ o x, x ∈ on o l → o ≤ x ∧ x < o + l.length ∧ l.getD (x - o) false = true := by
  induction l with
  | nil => intro o x h; simp [on] at h
  | cons b l ih =>
    intro o x h
    have h' : (b = true ∧ x = o) ∨ x ∈ on (o + 1) l := by
      cases b <;> simp [on] at h ⊢ <;> exact h
    rcases h' with ⟨rfl, rfl⟩ | h'
    · simp
    · obtain ⟨h1, h2, h3⟩ := ih (o + 1) x h'
      have e : x - o = (x - (o + 1)) + 1 := by omega
      refine ⟨by omega, by simp; omega, ?_⟩
      rw [e]; simpa using h3

theorem mem_on (l : List Bool) : ∀ o i, l.getD i false = true → o + i ∈ on o l := by
  induction l with
  | nil => intro o i h; simp at h
  | cons b l ih =>
    intro o i h
    cases i with
    | zero => simp at h; subst h; simp [on]
    | succ i =>
      have := ih (o + 1) i (by simpa using h)
      have e : o + 1 + i = o + (i + 1) := by omega
      rw [e] at this
      cases b <;> simp [on, this]

theorem on_pairwise (l : List Bool) : ∀ o, (on o l).Pairwise (· < ·) := by
  induction l with
  | nil => intro o; simp [on]
  | cons b l ih =>
    intro o
    cases b
    · simpa [on] using ih (o + 1)
    · simp only [on, if_true, List.pairwise_cons]
      exact ⟨fun x hx => by have := on_range l (o + 1) x hx; omega, ih (o + 1)⟩

theorem on_length_le (l : List Bool) : ∀ o, (on o l).length ≤ l.length := by
  induction l with
  | nil => intro o; simp [on]
  | cons b l ih => intro o; have := ih (o + 1); cases b <;> simp [on] <;> omega

/-! ### x & (x − 1) takes the lowest bit away; ctz is its place -/
def clr : List Bool → List Bool
  | [] => []
  | b :: r => if b then false :: r else false :: clr r

theorem clr_length : ∀ l, (clr l).length = l.length
  | [] => rfl
  | b :: r => by cases b <;> simp [clr, clr_length r]

theorem wd_zero_iff : ∀ (l : List Bool) (o : Nat), wd l = 0 ↔ on o l = []
  | [], o => by simp [wd, on]
  | b :: r, o => by
    have := wd_zero_iff r (o + 1)
    cases b
    · rw [show on o (false :: r) = on (o + 1) r from rfl, ← this]; simp [wd]; omega
    · simp [wd, on]

theorem and_double (a b : Nat) (x y : Bool) : (x.toNat + 2 * a) &&& (y.toNat + 2 * b) = (x && y).toNat + 2 * (a &&& b) := by
  apply Nat.eq_of_testBit_eq
  intro i
  cases i with
  | zero => cases x <;> cases y <;> simp [Nat.testBit_zero]
  | succ i =>
    have e : ∀ (x : Bool) a, (x.toNat + 2 * a) / 2 = a := fun x a => by cases x <;> simp <;> omega
    rw [Nat.testBit_and, Nat.testBit_succ, Nat.testBit_succ, Nat.testBit_succ, e, e, e, Nat.testBit_and]

theorem wd_clr : ∀ l, wd l &&& (wd l - 1) = wd (clr l)
  | [] => rfl
  | true :: r => by
    have := and_double (wd r) (wd r) true false
    simp [wd, clr] at this ⊢
    exact this
  | false :: r => by
    have ih := wd_clr r
    by_cases h : wd r = 0
    · simp [wd, clr, h]
      rw [h] at ih; simp at ih; omega
    · have := and_double (wd r) (wd r - 1) false true
      simp [wd, clr] at this ⊢
      rw [show 2 * wd r - 1 = 1 + 2 * (wd r - 1) from by omega, this, ih]

theorem on_clr : ∀ l o, on o (clr l) = (on o l).tail
  | [], o => rfl
  | true :: r, o => by simp [clr, on]
  | false :: r, o => by simp [clr, on, on_clr r]

def clrs : Nat → List Bool → List Bool
  | 0, l => l
  | k + 1, l => clr (clrs k l)

theorem clrs_length (k : Nat) (l : List Bool) : (clrs k l).length = l.length := by
  induction k with
  | zero => rfl
  | succ k ih => simp [clrs, clr_length, ih]

theorem on_clrs (k : Nat) (l : List Bool) (o : Nat) : on o (clrs k l) = (on o l).drop k := by
  induction k with
  | zero => rfl
  | succ k ih => simp [clrs, on_clr, ih]

theorem ctz_wd : ∀ (l : List Bool) (f : Nat) (x : Nat) (r : List Nat), l.length ≤ f → on 0 l = x :: r → Lib.ctzFrom f (wd l) = x
  | [], f, x, r, _, h => by simp [on] at h
  | b :: l, 0, x, r, hf, h => by simp at hf
  | true :: l, f + 1, x, r, hf, h => by
    simp [on] at h
    unfold Lib.ctzFrom
    simp [wd]; omega
  | false :: l, f + 1, x, r, hf, h => by
    simp [on] at h
    rw [on_shift] at h
    cases hr : on 0 l with
    | nil => rw [hr] at h; simp at h
    | cons y s =>
      rw [hr] at h; simp at h
      have := ctz_wd l f y s (by simpa using hf) hr
      unfold Lib.ctzFrom
      rw [if_neg (by simp [wd])]
      rw [show wd (false :: l) / 2 = wd l from by simp [wd], this]
      omega

theorem ctz64_wd (l : List Bool) (x : Nat) (r : List Nat) (hl : l.length ≤ 64) (h : on 0 l = x :: r) : Lib.ctz 64 (wd l) = x := by
  unfold Lib.ctz
  rw [if_neg (by rw [wd_zero_iff l 0, h]; simp)]
  exact ctz_wd l 64 x r hl h

/-! ### Words: the 64 from place 64 j on -/
def chunk (en : List Bool) (j : Nat) : List Bool := (en.drop (64 * j)).take 64
def word (en : List Bool) (j : Nat) : Nat := wd (chunk en j)

theorem chunk_length (en : List Bool) (j : Nat) : (chunk en j).length ≤ 64 := by unfold chunk; simp; omega
theorem word_lt (en : List Bool) (j : Nat) : word en j < 18446744073709551616 := wd_lt64 _ (chunk_length en j)

theorem take_chunk (en : List Bool) (j : Nat) : en.take (64 * (j + 1)) = en.take (64 * j) ++ chunk en j := by
  unfold chunk
  rw [show 64 * (j + 1) = 64 * j + 64 from by omega, List.take_add]

theorem on_take_chunk (en : List Bool) (j : Nat) (h : 64 * j ≤ en.length) : on 0 (en.take (64 * (j + 1))) = on 0 (en.take (64 * j)) ++ on (64 * j) (chunk en j) := by
  rw [take_chunk, on_append]
  congr 2
  simp; omega

/-- What setOf's round does to word j. -/
theorem word_take_succ (en : List Bool) (k j : Nat) (h : k < en.length) :
    word (en.take (k + 1)) j = if en.getD k false = true ∧ j = k / 64 then word (en.take k) j ||| 2 ^ (k % 64) else word (en.take k) j := by
  have hg : en.take (k + 1) = en.take k ++ [en.getD k false] := by
    rw [List.take_add_one, List.getElem?_eq_getElem h]; simp [List.getD, h]
  have hl : (en.take k).length = k := by simp; omega
  rw [hg]
  generalize hp : en.take k = p at *
  generalize en.getD k false = b at *
  clear hg hp h
  subst hl
  unfold word chunk
  by_cases h1 : p.length < 64 * j
  · -- word j is still nothing
    have e1 : p.drop (64 * j) = [] := List.drop_eq_nil_of_le (by omega)
    have e2 : (p ++ [b]).drop (64 * j) = [] := List.drop_eq_nil_of_le (by simp; omega)
    rw [e1, e2, if_neg (by omega)]
  · have e2 : (p ++ [b]).drop (64 * j) = p.drop (64 * j) ++ [b] := List.drop_append_of_le_length (by omega)
    rw [e2]
    by_cases h2 : p.length < 64 * j + 64
    · have hj : j = p.length / 64 := by omega
      have ht : (p.drop (64 * j) ++ [b]).take 64 = p.drop (64 * j) ++ [b] := List.take_of_length_le (by simp; omega)
      have ht2 : (p.drop (64 * j)).take 64 = p.drop (64 * j) := List.take_of_length_le (by simp; omega)
      rw [ht, ht2]
      cases b with
      | true =>
        rw [wd_snoc_true, if_pos ⟨rfl, hj⟩]
        congr 2
        simp; omega
      | false => rw [wd_snoc_false, if_neg (by simp)]
    · rw [List.take_append_of_le_length (by simp; omega), if_neg (by omega)]

/-- The words of a set of so many. -/
def words (en : List Bool) : List Nat := (List.range ((en.length + 63) / 64)).map (word en)
def wordsTo (nw : Nat) (en : List Bool) (k : Nat) : List Nat := (List.range nw).map (word (en.take k))

theorem wordsTo_length (nw : Nat) (en : List Bool) (k : Nat) : (wordsTo nw en k).length = nw := by simp [wordsTo]
theorem wordsTo_get (nw : Nat) (en : List Bool) (k j : Nat) (h : j < nw) : (wordsTo nw en k).getD j 0 = word (en.take k) j := by simp [wordsTo, List.getD, h]
theorem words_length (en : List Bool) : (words en).length = (en.length + 63) / 64 := by simp [words]
theorem words_get (en : List Bool) (j : Nat) (h : j < (en.length + 63) / 64) : (words en).getD j 0 = word en j := by simp [words, List.getD, h]

theorem wordsTo_zero (nw : Nat) (en : List Bool) : wordsTo nw en 0 = List.replicate nw 0 := by
  apply List.ext_getElem
  · simp [wordsTo]
  · intro i h1 h2; simp [wordsTo, word, chunk, wd]

theorem wordsTo_all (en : List Bool) : wordsTo ((en.length + 63) / 64) en en.length = words en := by simp [wordsTo, words]

theorem wordsTo_true (nw : Nat) (en : List Bool) (k : Nat) (h : k < en.length) (hb : en.getD k false = true) :
    (wordsTo nw en k).set (k / 64) (word (en.take k) (k / 64) ||| 2 ^ (k % 64)) = wordsTo nw en (k + 1) := by
  apply List.ext_getElem
  · simp [wordsTo]
  · intro i h1 h2
    have hi : i < nw := by simpa [wordsTo] using h2
    rw [List.getElem_set]
    simp only [wordsTo, List.getElem_map, List.getElem_range]
    rw [word_take_succ en k i h, hb]
    by_cases hi2 : k / 64 = i
    · subst hi2; simp
    · rw [if_neg hi2, if_neg (by intro hh; exact hi2 hh.2.symm)]

theorem wordsTo_false (nw : Nat) (en : List Bool) (k : Nat) (h : k < en.length) (hb : en.getD k false = false) : wordsTo nw en (k + 1) = wordsTo nw en k := by
  apply List.ext_getElem
  · simp [wordsTo]
  · intro i h1 h2
    simp only [wordsTo, List.getElem_map, List.getElem_range]
    rw [word_take_succ en k i h, hb]
    simp

/-! ### The k-th, the first from a place on, the first behind one -/
theorem on_nth (en : List Bool) (k : Nat) (j : Nat) (hj : 64 * j ≤ en.length) (h1 : (on 0 (en.take (64 * j))).length ≤ k) (h2 : k < (on 0 (en.take (64 * (j + 1)))).length) :
    ∃ x r, on 0 (clrs (k - (on 0 (en.take (64 * j))).length) (chunk en j)) = x :: r ∧ 64 * j + x = (on 0 en).getD k 0 := by
  have hsplit : on 0 en = on 0 (en.take (64 * j)) ++ on (64 * j) (chunk en j) ++ on (64 * (j + 1)) (en.drop (64 * (j + 1))) := by
    by_cases hle : 64 * (j + 1) ≤ en.length
    · conv => lhs; rw [← List.take_append_drop (64 * (j + 1)) en]
      rw [on_append, on_take_chunk en j hj]
      congr 2
      simp; omega
    · have e : en.take (64 * (j + 1)) = en := List.take_of_length_le (by omega)
      have e2 : en.drop (64 * (j + 1)) = [] := List.drop_eq_nil_of_le (by omega)
      rw [e2, ← on_take_chunk en j hj, e]; simp [on]
  rw [on_take_chunk en j hj, List.length_append] at h2
  generalize hA : on 0 (en.take (64 * j)) = A at *
  rw [on_clrs]
  have hl : (on (64 * j) (chunk en j)).length = (on 0 (chunk en j)).length := by rw [on_shift]; simp
  rw [hl] at h2
  have hlt : k - A.length < (on 0 (chunk en j)).length := by omega
  refine ⟨_, _, List.drop_eq_getElem_cons hlt, ?_⟩
  rw [hsplit, List.append_assoc]
  simp only [List.getD_eq_getElem?_getD]
  rw [List.getElem?_append_right h1, List.getElem?_append_left (by rw [hl]; exact hlt), on_shift (chunk en j) (64 * j)]
  simp [hlt]

/-- The first that is s or above. -/
def from' (en : List Bool) (s : Nat) : Int := match (on 0 en).find? (fun x => decide (s ≤ x)) with
  | some x => x
  | none => -1

theorem find_append_none {α : Type} (p : α → Bool) (a b : List α) (h : a.find? p = none) : (a ++ b).find? p = b.find? p := by
  rw [List.find?_append, h]; rfl

/-- A word whose lowest r bits are struck. -/
def cut (r : Nat) (l : List Bool) : List Bool := List.replicate (min r l.length) false ++ l.drop r

theorem wd_drop : ∀ (r : Nat) (l : List Bool), wd (l.drop r) = wd l / 2 ^ r
  | 0, l => by simp
  | r + 1, [] => by simp [wd]
  | r + 1, b :: l => by
    rw [List.drop_succ_cons, wd_drop r l, Nat.pow_succ, Nat.mul_comm, ← Nat.div_div_eq_div_mul]
    congr 1
    cases b <;> simp [wd] <;> omega

theorem wd_cut (r : Nat) (l : List Bool) : wd (cut r l) = wd l / 2 ^ r * 2 ^ r := by
  unfold cut
  by_cases h : r ≤ l.length
  · rw [wd_append, wd_replicate_false, wd_drop, Nat.min_eq_left h]; simp; rw [Nat.mul_comm]
  · have e : l.drop r = [] := List.drop_eq_nil_of_le (by omega)
    have h1 := wd_lt l
    have h2 : 2 ^ l.length ≤ 2 ^ r := Nat.pow_le_pow_right (by decide) (by omega)
    rw [e, List.append_nil, wd_replicate_false, Nat.div_eq_of_lt (by omega)]; simp

theorem cut_length (r : Nat) (l : List Bool) : (cut r l).length = l.length := by unfold cut; simp; omega

theorem on_replicate_false (n o : Nat) : on o (List.replicate n false) = [] := by
  induction n generalizing o with
  | zero => rfl
  | succ n ih => simp [List.replicate_succ, on, ih]

theorem on_cut (r : Nat) (l : List Bool) : ∀ o, on o (cut r l) = (on o l).filter (fun x => decide (o + r ≤ x)) := by
  intro o
  have hs : on o l = on o (l.take r) ++ on (o + min r l.length) (l.drop r) := by
    conv => lhs; rw [← List.take_append_drop r l]
    rw [on_append]; simp
  have h1 : (on o (l.take r)).filter (fun x => decide (o + r ≤ x)) = [] := by
    rw [List.filter_eq_nil_iff]
    intro x hx
    have := on_range _ _ _ hx
    simp at this ⊢; omega
  rw [hs, List.filter_append, h1, List.nil_append]
  unfold cut
  rw [on_append, on_replicate_false, List.nil_append, List.length_replicate]
  by_cases h : r ≤ l.length
  · rw [Nat.min_eq_left h]
    symm
    rw [List.filter_eq_self]
    intro x hx
    have := on_range _ _ _ hx
    simp; omega
  · rw [List.drop_eq_nil_of_le (by omega)]; simp [on]

theorem find_filter_head (p : Nat → Bool) : ∀ l : List Nat, l.find? p = (l.filter p).head?
  | [] => rfl
  | a :: l => by
    by_cases h : p a = true
    · simp [h]
    · have h' : p a = false := by simpa using h
      rw [List.find?_cons, h', List.filter_cons, h', find_filter_head p l]; simp

/-- Ahead of word j there is none that is s or above. -/
def Past (en : List Bool) (s j : Nat) : Prop := ∀ x ∈ on 0 (en.take (64 * j)), x < s

theorem past_start (en : List Bool) (s : Nat) : Past en s (s / 64) := by
  intro x hx
  have := on_range _ _ _ hx
  simp at this; omega

theorem past_find (en : List Bool) (s j : Nat) (h : Past en s j) : (on 0 (en.take (64 * j))).find? (fun x => decide (s ≤ x)) = none := by
  rw [List.find?_eq_none]
  intro x hx
  have := h x hx
  simp; omega

theorem on_split (en : List Bool) (j : Nat) (hj : 64 * j ≤ en.length) : ∃ q, on 0 en = on 0 (en.take (64 * j)) ++ on (64 * j) (chunk en j) ++ q := by
  rw [← on_take_chunk en j hj]
  refine ⟨on (0 + (en.take (64 * (j + 1))).length) (en.drop (64 * (j + 1))), ?_⟩
  rw [← on_append, List.take_append_drop]

/-- The word at which the search begins. -/
def seen (en : List Bool) (s j : Nat) : List Bool := if j = s / 64 then cut (s % 64) (chunk en j) else chunk en j

theorem seen_length (en : List Bool) (s j : Nat) : (seen en s j).length ≤ 64 := by
  have := chunk_length en j
  unfold seen; split
  · rw [cut_length]; exact this
  · exact this

theorem seen_on (en : List Bool) (s j : Nat) (hs : s / 64 ≤ j) : on (64 * j) (seen en s j) = (on (64 * j) (chunk en j)).filter (fun x => decide (s ≤ x)) := by
  unfold seen
  split
  · rename_i h
    rw [on_cut]
    congr 1
    funext x
    have : 64 * j + s % 64 = s := by omega
    rw [this]
  · rename_i h
    symm
    rw [List.filter_eq_self]
    intro x hx
    have := on_range _ _ _ hx
    simp; omega

theorem from_hit (en : List Bool) (s j x : Nat) (r : List Nat) (hj : 64 * j ≤ en.length) (hs : s / 64 ≤ j) (hp : Past en s j) (h : on 0 (seen en s j) = x :: r) : from' en s = ((64 * j + x : Nat) : Int) := by
  obtain ⟨q, hq⟩ := on_split en j hj
  have e : (on 0 en).find? (fun x => decide (s ≤ x)) = some (64 * j + x) := by
    rw [hq, List.append_assoc, find_append_none _ _ _ (past_find en s j hp), List.find?_append, find_filter_head, ← seen_on en s j hs, on_shift, h]
    simp
  unfold from'
  rw [e]

theorem past_next (en : List Bool) (s j : Nat) (hj : 64 * j ≤ en.length) (hs : s / 64 ≤ j) (hp : Past en s j) (h : on 0 (seen en s j) = []) : Past en s (j + 1) := by
  intro x hx
  rw [on_take_chunk en j hj] at hx
  rcases List.mem_append.1 hx with hx | hx
  · exact hp x hx
  · have e : on (64 * j) (seen en s j) = [] := by rw [on_shift, h]; rfl
    rw [seen_on en s j hs, List.filter_eq_nil_iff] at e
    have := e x hx
    simp at this; omega

theorem from_miss (en : List Bool) (s : Nat) (j : Nat) (hj : en.length ≤ 64 * j) (hp : Past en s j) : from' en s = -1 := by
  have e : en.take (64 * j) = en := List.take_of_length_le hj
  have := past_find en s j hp
  rw [e] at this
  unfold from'
  rw [this]

/-- Who is next behind 'last': the first that is greater, or else the first. -/
def behindI (en : List Bool) (last : Int) : Int := match (on 0 en).find? (fun x : Nat => decide (last < (x : Int))) with
  | some x => x
  | none => ((on 0 en).getD 0 0 : Nat)

theorem find_congr {α : Type} (p q : α → Bool) (l : List α) (h : ∀ x ∈ l, p x = q x) : l.find? p = l.find? q := by
  induction l with
  | nil => rfl
  | cons a l ih =>
    rw [List.find?_cons, List.find?_cons, h a (by simp), ih (fun x hx => h x (by simp [hx]))]

theorem from_zero (en : List Bool) (h : on 0 en ≠ []) : from' en 0 = ((on 0 en).getD 0 0 : Nat) := by
  unfold from'
  cases hq : on 0 en with
  | nil => exact absurd hq h
  | cons a l => simp

theorem behind_low (en : List Bool) (last : Int) (h : on 0 en ≠ []) (hl : last < 0) : behindI en last = from' en 0 := by
  rw [from_zero en h]
  unfold behindI
  cases hq : on 0 en with
  | nil => exact absurd hq h
  | cons a l =>
    have : last < (a : Int) := by omega
    simp [this]

theorem behind_high (en : List Bool) (last : Nat) (h : on 0 en ≠ []) (hl : en.length ≤ last) : behindI en last = from' en 0 := by
  rw [from_zero en h]
  unfold behindI
  have : (on 0 en).find? (fun x : Nat => decide ((last : Int) < (x : Int))) = none := by
    rw [List.find?_eq_none]
    intro x hx
    have := on_range _ _ _ hx
    simp; omega
  rw [this]

theorem behind_mid (en : List Bool) (last : Nat) (h : on 0 en ≠ []) : behindI en last = if 0 ≤ from' en (last + 1) then from' en (last + 1) else from' en 0 := by
  rw [from_zero en h]
  unfold behindI from'
  rw [find_congr (fun x : Nat => decide ((last : Int) < (x : Int))) (fun x => decide (last + 1 ≤ x)) _ (fun x _ => by simp; omega)]
  cases (on 0 en).find? (fun x => decide (last + 1 ≤ x)) with
  | none => simp
  | some x => simp

end Go.Proofs.YtpfcpeljfgmjgaaDoor

namespace Go.Proofs.YtpfcpeljfgmjgaaDoor
set_option linter.unusedVariables false
set_option linter.unusedSimpArgs false

/-- Who is next. -/
def whoN (picks : List Int) (tm : Nat) (last : Int) (en : List Bool) : Nat :=
  if tm < picks.length then (on 0 en).getD (picks.getD tm 0 % ((on 0 en).length : Int)).toNat 0 else (behindI en last).toNat

theorem behindI_mem (en : List Bool) (last : Int) (h : on 0 en ≠ []) : ∃ x : Nat, x ∈ on 0 en ∧ behindI en last = x := by
  unfold behindI
  cases hf : (on 0 en).find? (fun x : Nat => decide (last < (x : Int))) with
  | some x => exact ⟨x, List.mem_of_find?_eq_some hf, rfl⟩
  | none =>
    cases hq : on 0 en with
    | nil => exact absurd hq h
    | cons a l => exact ⟨a, by simp, by simp⟩
theorem whoN_mem (picks : List Int) (tm : Nat) (last : Int) (en : List Bool) (h : on 0 en ≠ []) : whoN picks tm last en ∈ on 0 en := by
  unfold whoN
  split
  · have hl : 0 < (on 0 en).length := List.length_pos_iff.2 h
    generalize picks.getD tm 0 = x
    have h1 := Int.emod_nonneg x (show ((on 0 en).length : Int) ≠ 0 by omega)
    have h2 := Int.emod_lt_of_pos x (show (0 : Int) < ((on 0 en).length : Int) by omega)
    generalize x % ((on 0 en).length : Int) = y at *
    rw [List.getD_eq_getElem?_getD, List.getElem?_eq_getElem (show y.toNat < (on 0 en).length by omega)]
    simp
  · obtain ⟨x, hx, e⟩ := behindI_mem en last h
    rw [e]; simpa using hx
theorem whoN_en {picks : List Int} {tm : Nat} {last : Int} {en : List Bool} (h : on 0 en ≠ []) : whoN picks tm last en < en.length ∧ en.getD (whoN picks tm last en) false = true := by
  have := on_range _ _ _ (whoN_mem picks tm last en h)
  simp at this ⊢; exact ⟨this.1, this.2⟩


end Go.Proofs.YtpfcpeljfgmjgaaDoor

namespace Go.Proofs.YtpfcpeljfgmjgaaDoor
set_option linter.unusedVariables false
set_option linter.unusedSimpArgs false

/-- An operation: its kind, X, Y (of a find: any number). -/
structure Opn where
  k : Nat
  x : Nat
  y : Int
def Opn.tk (o : Opn) : Tk := ⟨o.k, o.x, if o.k = 1 then 0 else o.y.toNat, 1, o.x, if o.k = 1 then 0 else o.y.toNat, 0, 0, false, 0⟩
def Opn.ok (n : Nat) (o : Opn) : Prop := 1 ≤ o.k ∧ o.k ≤ 3 ∧ o.x < n ∧ (o.k ≠ 1 → 0 ≤ o.y ∧ o.y < n)

/-- An event: who, the operation, its result, its begin, place, end. -/
structure Ev where
  wk : Int
  k : Int
  x : Int
  y : Int
  res : Int
  bg : Int
  pl : Int
  en : Int
def ev0 : Ev := ⟨0, 0, 0, 0, 0, 0, 0, 0⟩
theorem Ev.eq_iff {a b : Ev} : a = b ↔ a.wk = b.wk ∧ a.k = b.k ∧ a.x = b.x ∧ a.y = b.y ∧ a.res = b.res ∧ a.bg = b.bg ∧ a.pl = b.pl ∧ a.en = b.en := by
  constructor
  · rintro rfl; exact ⟨rfl, rfl, rfl, rfl, rfl, rfl, rfl, rfl⟩
  · rintro ⟨h1, h2, h3, h4, h5, h6, h7, h8⟩
    cases a; cases b; simp_all
instance : DecidableEq Ev := fun _ _ => decidable_of_iff _ Ev.eq_iff.symm

/-- A worker: what has not begun; whether one is under way, which (y: its Y); when it began; when its second find ended with two roots. -/
structure Wk where
  left : List Opn
  on : Bool
  t : Tk
  y : Int
  bg : Nat
  mt : Nat
def tk0 : Tk := ⟨0, 0, 0, 0, 0, 0, 0, 0, false, 0⟩
def Wk.new (l : List Opn) : Wk := ⟨l, false, tk0, 0, 0, 0⟩
def Wk.en (k : Wk) : Bool := k.on || !k.left.isEmpty
def Wk.beg (k : Wk) (tm : Nat) : Wk := if k.on then k else match k.left with
  | [] => k
  | o :: r => ⟨r, true, o.tk, o.y, tm, k.mt⟩
def Wk.step (k : Wk) (up : List Nat) (pr : List Int) (tm : Nat) : Wk :=
  ⟨k.left, !(tks up pr k.t).dn, tks up pr k.t, k.y, k.bg, if (tks up pr k.t).st = 7 ∧ k.t.st ≠ 7 then tm else k.mt⟩
def evOf (w : Nat) (s : Wk) (tm : Nat) : Ev := ⟨w, s.t.k, s.t.x, s.y, s.t.res, s.bg, if s.t.k = 2 ∧ s.t.res = 0 then s.mt else tm, tm⟩

structure Gm where
  up : List Nat
  ws : List Wk
  l : List Ev
  tm : Nat
  last : Int
def Gm.wk (g : Gm) (w : Nat) : Wk := g.ws.getD w (Wk.new [])
def Gm.en (g : Gm) : List Bool := g.ws.map Wk.en
def Gm.bg (g : Gm) (w : Nat) : Wk := (g.wk w).beg (g.tm + 1)
def Gm.sp (pr : List Int) (g : Gm) (w : Nat) : Wk := (g.bg w).step g.up pr (g.tm + 1)
/-- Worker w goes on. -/
def adv (pr : List Int) (g : Gm) (w : Nat) : Gm :=
  ⟨ups g.up pr (g.bg w).t, g.ws.set w (g.sp pr w), if (g.sp pr w).t.dn then g.l ++ [evOf w (g.sp pr w) (g.tm + 1)] else g.l, g.tm + 1, w⟩
def Gm.who (picks : List Int) (g : Gm) : Nat := whoN picks g.tm g.last g.en
def run (pr picks : List Int) (g : Gm) : Nat → Gm
  | 0 => g
  | f + 1 => if on 0 (run pr picks g f).en = [] then run pr picks g f else adv pr (run pr picks g f) ((run pr picks g f).who picks)
def gm0 (n : Nat) (ss : List (List Opn)) : Gm := ⟨List.range n, ss.map Wk.new, [], 0, -1⟩

theorem Gm.who_lt {picks : List Int} {g : Gm} (h : on 0 g.en ≠ []) : g.who picks < g.ws.length := by
  have := (whoN_en (picks := picks) (tm := g.tm) (last := g.last) h).1
  unfold Gm.who
  simpa [Gm.en] using this
theorem Gm.who_en {picks : List Int} {g : Gm} (h : on 0 g.en ≠ []) : (g.wk (g.who picks)).en = true := by
  have h1 := Gm.who_lt (picks := picks) h
  have := (whoN_en (picks := picks) (tm := g.tm) (last := g.last) h).2
  unfold Gm.wk
  rw [List.getD_eq_getElem?_getD, List.getElem?_eq_getElem h1]
  change g.en.getD (g.who picks) false = true at this
  rw [List.getD_eq_getElem?_getD, List.getElem?_eq_getElem (by simpa [Gm.en] using h1)] at this
  simpa [Gm.en] using this
theorem Gm.wk_mem {g : Gm} {w : Nat} (h : w < g.ws.length) : g.wk w ∈ g.ws := by
  unfold Gm.wk
  rw [List.getD_eq_getElem?_getD, List.getElem?_eq_getElem h]; simp

/-! ### What holds all along -/
structure WOk (n : Nat) (pr : List Int) (up : List Nat) (k : Wk) : Prop where
  l : ∀ o ∈ k.left, o.ok n
  i : k.on = true → Inv n pr up k.t ∧ k.t.dn = false
  y : k.on = true → k.t.k ≠ 1 → k.y = (k.t.y : Int)
  z : k.on = true → k.t.k = 1 → k.t.y = 0 ∧ k.t.v = 0
structure GInv (n : Nat) (pr : List Int) (g : Gm) : Prop where
  F : For n pr g.up
  ok : ∀ k ∈ g.ws, WOk n pr g.up k

theorem Opn.inv {n : Nat} {pr : List Int} {up : List Nat} {o : Opn} (h : o.ok n) : Inv n pr up o.tk := by
  obtain ⟨h1, h2, h3, h4⟩ := h
  have hy : (if o.k = 1 then 0 else o.y.toNat) < n := by
    split
    · omega
    · next e => have := h4 e; omega
  exact inv_new h1 h2 h3 hy

theorem fst_keeps (t : Tk) : t.fst.k = t.k ∧ t.fst.x = t.x ∧ t.fst.y = t.y := by unfold Tk.fst; split <;> exact ⟨rfl, rfl, rfl⟩
theorem snd_keeps (t : Tk) : t.snd.k = t.k ∧ t.snd.x = t.x ∧ t.snd.y = t.y := by
  unfold Tk.snd
  split
  · split <;> exact ⟨rfl, rfl, rfl⟩
  · exact ⟨rfl, rfl, rfl⟩
theorem fst_v (t : Tk) : t.fst.v = t.v := by unfold Tk.fst; split <;> rfl
theorem tks_keeps (up : List Nat) (pr : List Int) (t : Tk) : (tks up pr t).k = t.k ∧ (tks up pr t).x = t.x ∧ (tks up pr t).y = t.y := by
  have hf := fst_keeps
  have hs := snd_keeps
  unfold tks
  by_cases h : t.dn = true
  · rw [if_pos h]; exact ⟨rfl, rfl, rfl⟩
  rw [if_neg h]
  by_cases h1 : t.st = 1
  · rw [if_pos h1]
    by_cases e : el up t.u = t.u
    · rw [if_pos e]; exact hf _
    · rw [if_neg e]; exact ⟨rfl, rfl, rfl⟩
  rw [if_neg h1]
  by_cases h2 : t.st = 2
  · rw [if_pos h2]
    by_cases e : el up t.w = t.w
    · rw [if_pos e]; exact hf _
    · rw [if_neg e]; exact ⟨rfl, rfl, rfl⟩
  rw [if_neg h2]
  by_cases h3 : t.st = 3
  · rw [if_pos h3]
    exact ⟨rfl, rfl, rfl⟩
  rw [if_neg h3]
  by_cases h4 : t.st = 4
  · rw [if_pos h4]
    by_cases e : el up t.v = t.v
    · rw [if_pos e]; exact hs _
    · rw [if_neg e]; exact ⟨rfl, rfl, rfl⟩
  rw [if_neg h4]
  by_cases h5 : t.st = 5
  · rw [if_pos h5]
    by_cases e : el up t.w = t.w
    · rw [if_pos e]; exact hs _
    · rw [if_neg e]; exact ⟨rfl, rfl, rfl⟩
  rw [if_neg h5]
  by_cases h6 : t.st = 6
  · rw [if_pos h6]
    exact ⟨rfl, rfl, rfl⟩
  rw [if_neg h6]
  by_cases h7 : t.st = 7
  · rw [if_pos h7]
    by_cases e : el up t.u = t.u
    · rw [if_pos e]; exact ⟨rfl, rfl, rfl⟩
    · rw [if_neg e]; exact ⟨rfl, rfl, rfl⟩
  rw [if_neg h7]
  by_cases h8 : t.st = 8
  · rw [if_pos h8]
    by_cases b : bel pr t.u t.v
    · rw [if_pos b]
      by_cases e : el up t.u = t.u
      · rw [if_pos e]; exact ⟨rfl, rfl, rfl⟩
      · rw [if_neg e]; exact ⟨rfl, rfl, rfl⟩
    · rw [if_neg b]
      by_cases e : el up t.v = t.v
      · rw [if_pos e]; exact ⟨rfl, rfl, rfl⟩
      · rw [if_neg e]; exact ⟨rfl, rfl, rfl⟩
  rw [if_neg h8]
  exact ⟨rfl, rfl, rfl⟩
theorem tks_v {n : Nat} {pr : List Int} {up : List Nat} {t : Tk} (I : Inv n pr up t) (hk : t.k = 1) : (tks up pr t).v = t.v := by
  have h4 : ¬ 4 ≤ t.st := fun h => I.kk h hk
  unfold tks
  by_cases h : t.dn = true
  · rw [if_pos h] <;> rfl
  rw [if_neg h]
  by_cases h1 : t.st = 1
  · rw [if_pos h1]
    by_cases e : el up t.u = t.u
    · rw [if_pos e]; exact fst_v _
    · rw [if_neg e] <;> rfl
  rw [if_neg h1]
  by_cases h2 : t.st = 2
  · rw [if_pos h2]
    by_cases e : el up t.w = t.w
    · rw [if_pos e]; exact fst_v _
    · rw [if_neg e] <;> rfl
  rw [if_neg h2]
  by_cases h3 : t.st = 3
  · rw [if_pos h3]
  rw [if_neg h3]
  rw [if_neg (by omega), if_neg (by omega), if_neg (by omega), if_neg (by omega), if_neg (by omega)]

/-- The worker that goes on has one under way then. -/
theorem beg_ok {n : Nat} {pr : List Int} {up : List Nat} {k : Wk} (h : WOk n pr up k) (he : k.en = true) (tm : Nat) : (k.beg tm).on = true ∧ WOk n pr up (k.beg tm) := by
  unfold Wk.beg
  split
  · next e => exact ⟨e, h⟩
  · next e =>
    cases hl : k.left with
    | nil => simp [Wk.en, hl] at he; exact absurd he e
    | cons o r =>
      have h1 := h.l
      rw [hl] at h1
      have ho := h1 o (by simp)
      refine ⟨rfl, ⟨fun q hq => h1 q (by simp [hq]), fun _ => ⟨Opn.inv ho, rfl⟩, fun _ hk => ?_, fun _ hk => ?_⟩⟩
      · change o.k ≠ 1 at hk
        have := ho.2.2.2 hk
        show o.y = ((if o.k = 1 then 0 else o.y.toNat : Nat) : Int)
        rw [if_neg hk]; omega
      · change o.k = 1 at hk
        show (if o.k = 1 then 0 else o.y.toNat) = 0 ∧ (if o.k = 1 then 0 else o.y.toNat) = 0
        simp [hk]

theorem WOk.mono {n : Nat} {pr : List Int} {up up' : List Nat} {k : Wk} (h : WOk n pr up k) (hm : ∀ x y, x < n → y < n → rtu up x = rtu up y → rtu up' x = rtu up' y) : WOk n pr up' k :=
  ⟨h.l, fun e => ⟨(h.i e).1.mono hm, (h.i e).2⟩, h.y, h.z⟩

/-- What a step does, as one. -/
structure Went (n : Nat) (pr : List Int) (g : Gm) (w : Nat) : Prop where
  lt : w < g.ws.length
  on : (g.bg w).on = true
  b : WOk n pr g.up (g.bg w)
  I : Inv n pr g.up (g.bg w).t
  nd : (g.bg w).t.dn = false
  F' : For n pr (adv pr g w).up
  I' : Inv n pr (adv pr g w).up (g.sp pr w).t
  D : Did n g.up (adv pr g w).up (g.bg w).t (g.sp pr w).t
  ok : GInv n pr (adv pr g w)

theorem set_mem {α : Type} {l : List α} {i : Nat} {a b : α} (h : b ∈ l.set i a) : b = a ∨ b ∈ l := by
  rcases List.mem_or_eq_of_mem_set h with h | h
  · exact .inr h
  · exact .inl h

theorem went {n : Nat} {pr : List Int} {g : Gm} {w : Nat} (G : GInv n pr g) (hw : w < g.ws.length) (he : (g.wk w).en = true) : Went n pr g w := by
  obtain ⟨h1, h2⟩ := beg_ok (G.ok _ (Gm.wk_mem hw)) he (g.tm + 1)
  obtain ⟨I, nd⟩ := h2.i h1
  obtain ⟨F', I', D⟩ := step_ok G.F I
  refine ⟨hw, h1, h2, I, nd, F', I', D, F', fun k hk => ?_⟩
  rcases set_mem hk with rfl | hk
  · obtain ⟨e1, e2, e3⟩ := tks_keeps g.up pr (g.bg w).t
    refine ⟨h2.l, fun e => ⟨I', ?_⟩, fun _ hk => ?_, fun _ hk => ?_⟩
    · change (!(tks g.up pr (g.bg w).t).dn) = true at e
      show (tks g.up pr (g.bg w).t).dn = false
      simpa using e
    · change (tks g.up pr (g.bg w).t).k ≠ 1 at hk
      show (g.bg w).y = ((tks g.up pr (g.bg w).t).y : Int)
      rw [e3]; exact h2.y h1 (by rwa [e1] at hk)
    · change (tks g.up pr (g.bg w).t).k = 1 at hk
      rw [e1] at hk
      obtain ⟨z1, z2⟩ := h2.z h1 hk
      have e4 : (tks g.up pr (g.bg w).t).v = (g.bg w).t.v := tks_v I hk
      show (tks g.up pr (g.bg w).t).y = 0 ∧ (tks g.up pr (g.bg w).t).v = 0
      rw [e3, e4]
      exact ⟨z1, z2⟩
  · exact (G.ok k hk).mono D.merge

theorem ginv0 {n : Nat} {pr : List Int} {ss : List (List Opn)} (h : ∀ s ∈ ss, ∀ o ∈ s, o.ok n) : GInv n pr (gm0 n ss) := by
  refine ⟨⟨by simp [gm0], fun x hx => ?_, fun x hx => .inl ?_⟩, fun k hk => ?_⟩
  · show el (List.range n) x < n
    rw [el_range hx]; exact hx
  · show el (List.range n) x = x
    exact el_range hx
  · simp [gm0] at hk
    obtain ⟨s, hs, rfl⟩ := hk
    exact ⟨h s hs, fun e => absurd e (by simp [Wk.new]), fun e => absurd e (by simp [Wk.new]), fun e => absurd e (by simp [Wk.new])⟩

theorem run_inv {n : Nat} {pr picks : List Int} {g : Gm} (G : GInv n pr g) : ∀ f, GInv n pr (run pr picks g f)
  | 0 => G
  | f + 1 => by
    unfold run
    split
    · exact run_inv G f
    · next h => exact (went (run_inv G f) (Gm.who_lt h) (Gm.who_en h)).ok

theorem run_next {pr picks : List Int} {g : Gm} {f : Nat} (h : on 0 (run pr picks g f).en ≠ []) : run pr picks g (f + 1) = adv pr (run pr picks g f) ((run pr picks g f).who picks) := by
  rw [run, if_neg h]
theorem run_stuck {pr picks : List Int} {g : Gm} {f : Nat} (h : on 0 (run pr picks g f).en = []) : ∀ k, run pr picks g (f + k) = run pr picks g f
  | 0 => rfl
  | k + 1 => by
    have e := run_stuck h k
    rw [show f + (k + 1) = f + k + 1 from rfl, run, e, if_pos h]
/-- Both ends are one. -/
theorem run_uniq {pr picks : List Int} {g : Gm} {a b : Nat} (ha : on 0 (run pr picks g a).en = []) (hb : on 0 (run pr picks g b).en = []) (ta : (run pr picks g a).tm = a) (tb : (run pr picks g b).tm = b) : a = b := by
  rcases Nat.le_total a b with h | h
  · obtain ⟨k, rfl⟩ := Nat.le.dest h
    rw [run_stuck ha k, ta] at tb; exact tb
  · obtain ⟨k, rfl⟩ := Nat.le.dest h
    rw [run_stuck hb k, tb] at ta; exact ta.symm

/-! ### How many steps there are at most -/
/-- How many steps of its own a task has at most, with one more, whatever the others do. -/
def pot (pr : List Int) (n : Nat) (up : List Nat) (t : Tk) : Nat :=
  if t.dn then 0 else 8 * (hgt pr n t.u + hgt pr n t.v) + 1 +
    (if t.st = 1 then (if el up t.u = t.u ∧ el up t.v = t.v then 6 else 3)
    else if t.st = 2 then 1
    else if t.st = 3 then 0
    else if t.st = 4 then (if el up t.v = t.v then 5 else 2)
    else if t.st = 5 then 1
    else if t.st = 6 then 0
    else 4)

theorem pot_pos {pr : List Int} {n : Nat} {up : List Nat} {t : Tk} (h : t.dn = false) : 0 < pot pr n up t := by
  unfold pot; rw [h]; simp; omega
theorem pot_new {pr : List Int} {n : Nat} {up : List Nat} {o : Opn} (h : o.ok n) : pot pr n up o.tk ≤ 16 * n := by
  have I := Opn.inv (pr := pr) (up := up) h
  have h1 := hgt_lt_n (pr := pr) I.un
  have h2 := hgt_lt_n (pr := pr) I.vn
  have e1 : o.tk.dn = false := rfl
  have e2 : o.tk.st = 1 := rfl
  unfold pot
  rw [e1, e2]
  simp only [Bool.false_eq_true, if_false, if_true]
  split <;> omega
/-- What others do makes it no greater: a root may be none, none gets one. -/
theorem pot_other {pr : List Int} {n : Nat} {up up' : List Nat} {t : Tk} (hu : t.u < n) (hv : t.v < n) (h : ∀ j, j < n → el up' j = j → el up j = j) : pot pr n up' t ≤ pot pr n up t := by
  unfold pot
  split
  · exact Nat.le_refl _
  · apply Nat.add_le_add_left
    split
    · split
      · next e => rw [if_pos ⟨h _ hu e.1, h _ hv e.2⟩]; exact Nat.le_refl _
      · split <;> omega
    · split
      · exact Nat.le_refl _
      · split
        · exact Nat.le_refl _
        · split
          · split
            · next e => rw [if_pos (h _ hv e)]; exact Nat.le_refl _
            · split <;> omega
          · exact Nat.le_refl _
theorem Did.roots {n : Nat} {up up' : List Nat} {t t' : Tk} (h : Did n up up' t t') : ∀ j, j < n → el up' j = j → el up j = j := by
  rcases h with ⟨_, h⟩ | ⟨_, a, b, h⟩
  · exact fun j hj => (h j hj).1.1
  · intro j hj e
    by_cases ea : j = a
    · subst ea; exact h.was
    · rwa [h.oth j ea] at e

theorem pot_step {n : Nat} {pr : List Int} {up : List Nat} {t : Tk} (F : For n pr up) (I : Inv n pr up t) (hd : t.dn = false) : pot pr n (ups up pr t) (tks up pr t) < pot pr n up t := by
  have hdn : ∀ q : Tk, ∀ r, pot pr n (ups up pr t) (q.fin r) = 0 := fun q r => by simp [pot, Tk.fin]
  have hpos := pot_pos (pr := pr) (n := n) (up := up) hd
  obtain ⟨k, x, y, st, u, v, w, r, dn, res⟩ := t
  dsimp only at hd
  subst hd
  have un := I.un
  have vn := I.vn
  have wn := I.wn
  dsimp only at un vn wn
  have hst : st = 1 ∨ st = 2 ∨ st = 3 ∨ st = 4 ∨ st = 5 ∨ st = 6 ∨ st = 7 ∨ st = 8 := by have := I.s1; have := I.s8; dsimp only at *; omega
  rcases hst with rfl | rfl | rfl | rfl | rfl | rfl | rfl | rfl
  · by_cases e : el up u = u
    · by_cases hk : k = 1
      · simp [tks, ups, e, Tk.fst, hk, Tk.fin, pot]; omega
      · by_cases ev : el up v = v <;> simp [tks, ups, e, Tk.fst, hk, pot, ev]
    · simp [tks, ups, e, pot]
  · obtain ⟨a1, a2⟩ := I.a rfl (.inl rfl)
    dsimp only at a1 a2
    have hh := hgt_lt (n := n) a1 wn
    by_cases e : el up w = w
    · by_cases hk : k = 1
      · simp [tks, ups, e, Tk.fst, hk, Tk.fin, pot]
      · by_cases ev : el up v = v <;> simp [tks, ups, e, Tk.fst, hk, pot, ev] <;> omega
    · simp [tks, ups, e, pot]
  · obtain ⟨a1, a2⟩ := I.a rfl (.inr rfl)
    dsimp only at a1 a2
    have hh := hgt_lt (n := n) a1 wn
    simp only [tks, pot, Bool.false_eq_true, if_false, if_true, show ¬ (3 = 1) by omega, show ¬ (3 = 2) by omega]
    split <;> omega
  · by_cases e : el up v = v
    · by_cases e4 : u = v
      · by_cases hk : k = 2 <;> simp [tks, ups, e, e4, Tk.snd, hk, Tk.fin, pot]
      · by_cases hk : k = 2 <;> simp [tks, ups, e, e4, Tk.snd, hk, Tk.fin, pot]
    · simp [tks, ups, e, pot]
  · obtain ⟨a1, a2⟩ := I.c rfl (.inl rfl)
    dsimp only at a1 a2
    have hh := hgt_lt (n := n) a1 wn
    by_cases e : el up w = w
    · by_cases e4 : u = w
      · by_cases hk : k = 2 <;> simp [tks, ups, e, e4, Tk.snd, hk, Tk.fin, pot]
      · by_cases hk : k = 2 <;> simp [tks, ups, e, e4, Tk.snd, hk, Tk.fin, pot] <;> omega
    · simp [tks, ups, e, pot]
  · obtain ⟨a1, a2⟩ := I.c rfl (.inr rfl)
    dsimp only at a1 a2
    have hh := hgt_lt (n := n) a1 wn
    simp only [tks, pot, Bool.false_eq_true, if_false, if_true, show ¬ (6 = 1) by omega, show ¬ (6 = 2) by omega, show ¬ (6 = 3) by omega, show ¬ (6 = 4) by omega, show ¬ (6 = 5) by omega, show ¬ (4 = 1) by omega, show ¬ (4 = 2) by omega, show ¬ (4 = 3) by omega]
    split <;> omega
  · by_cases e : el up u = u
    · simp [tks, ups, e, Tk.fin, pot]
    · simp [tks, ups, e, pot]
  · by_cases hb : bel pr u v
    · by_cases e : el up u = u
      · simp [tks, hb, e, Tk.fin, pot]
      · simp [tks, ups, hb, e, pot]
    · by_cases e : el up v = v
      · simp [tks, hb, e, Tk.fin, pot]
      · simp [tks, ups, hb, e, pot]

/-- How many steps a worker has at most. -/
def Wk.wt (n : Nat) (pr : List Int) (up : List Nat) (k : Wk) : Nat := k.left.length * (16 * n + 1) + if k.on then pot pr n up k.t else 0
def Gm.wt (n : Nat) (pr : List Int) (g : Gm) : Nat := (g.ws.map (Wk.wt n pr g.up)).sum

theorem sum_le_map {α : Type} {f h : α → Nat} : ∀ {l : List α}, (∀ a ∈ l, f a ≤ h a) → (l.map f).sum ≤ (l.map h).sum
  | [], _ => Nat.le_refl _
  | a :: l, hl => by
    have h1 := hl a (by simp)
    have h2 := sum_le_map (l := l) fun b hb => hl b (by simp [hb])
    simp only [List.map_cons, List.sum_cons]; omega
theorem sum_set_map {α : Type} {f h : α → Nat} {d a : α} : ∀ {l : List α} {i : Nat}, i < l.length → (∀ b ∈ l, f b ≤ h b) → ((l.set i a).map f).sum + h (l.getD i d) ≤ (l.map h).sum + f a
  | b :: l, 0, _, hl => by
    have h2 := sum_le_map (l := l) (f := f) (h := h) fun c hc => hl c (by simp [hc])
    simp; omega
  | b :: l, i + 1, hi, hl => by
    have h1 := hl b (by simp)
    have ih := sum_set_map (f := f) (h := h) (d := d) (a := a) (l := l) (i := i) (by simpa using hi) fun c hc => hl c (by simp [hc])
    simp at ih ⊢; omega

theorem wt_beg {n : Nat} {pr : List Int} {up : List Nat} {k : Wk} (h : WOk n pr up k) (tm : Nat) : (k.beg tm).wt n pr up ≤ k.wt n pr up := by
  unfold Wk.beg
  split
  · exact Nat.le_refl _
  · next e =>
    cases hl : k.left with
    | nil => exact Nat.le_refl _
    | cons o r =>
      have ho := h.l o (by simp [hl])
      have := pot_new (pr := pr) (up := up) ho
      simp only [Wk.wt, hl, List.length_cons, if_true]
      rw [Nat.add_mul]
      omega

theorem wt_adv {n : Nat} {pr : List Int} {g : Gm} {w : Nat} (G : GInv n pr g) (W : Went n pr g w) : (adv pr g w).wt n pr < g.wt n pr := by
  have h1 := pot_step G.F W.I W.nd
  have h2 := wt_beg (G.ok _ (Gm.wk_mem W.lt)) (g.tm + 1)
  have h3 : (g.sp pr w).wt n pr (adv pr g w).up < (g.bg w).wt n pr g.up := by
    unfold Wk.wt
    show (g.bg w).left.length * (16 * n + 1) + (if (!(tks g.up pr (g.bg w).t).dn) = true then pot pr n (ups g.up pr (g.bg w).t) (tks g.up pr (g.bg w).t) else 0) < _
    rw [W.on]
    simp only [if_true]
    split <;> omega
  have h4 := sum_set_map (f := Wk.wt n pr (adv pr g w).up) (h := Wk.wt n pr g.up) (d := Wk.new []) (a := g.sp pr w) W.lt (fun k hk => by
    unfold Wk.wt
    apply Nat.add_le_add_left
    split
    · next e => exact pot_other ((G.ok k hk).i e).1.un ((G.ok k hk).i e).1.vn W.D.roots
    · exact Nat.le_refl _)
  have h5 : ((g.wk w).beg (g.tm + 1)).wt n pr g.up ≤ (g.ws.getD w (Wk.new [])).wt n pr g.up := h2
  have h6 : (g.bg w).wt n pr g.up ≤ (g.ws.getD w (Wk.new [])).wt n pr g.up := h5
  show ((g.ws.set w (g.sp pr w)).map (Wk.wt n pr (adv pr g w).up)).sum < (g.ws.map (Wk.wt n pr g.up)).sum
  omega

def opsIn (ss : List (List Opn)) : Nat := (ss.map List.length).sum
theorem wt0 {n : Nat} {pr : List Int} {ss : List (List Opn)} : (gm0 n ss).wt n pr = opsIn ss * (16 * n + 1) := by
  unfold Gm.wt gm0 opsIn
  simp only [List.map_map]
  induction ss with
  | nil => simp
  | cons s ss ih =>
    simp only [List.map_cons, List.sum_cons, ih, Nat.add_mul]
    simp [Wk.wt, Wk.new]

/-- Time runs on, and what is left gets less. -/
theorem run_wt {n : Nat} {pr picks : List Int} {ss : List (List Opn)} (h : ∀ s ∈ ss, ∀ o ∈ s, o.ok n) : ∀ f, (run pr picks (gm0 n ss) f).tm + (run pr picks (gm0 n ss) f).wt n pr ≤ opsIn ss * (16 * n + 1)
  | 0 => by rw [← wt0 (pr := pr)]; simp [run, gm0]
  | f + 1 => by
    have ih := run_wt (pr := pr) (picks := picks) h f
    by_cases e : on 0 (run pr picks (gm0 n ss) f).en = []
    · rw [run, if_pos e]; exact ih
    · have G := run_inv (picks := picks) (ginv0 (pr := pr) h) f
      have := wt_adv G (went G (Gm.who_lt (picks := picks) e) (Gm.who_en e))
      rw [run_next e]
      show (run pr picks (gm0 n ss) f).tm + 1 + _ ≤ _
      omega

theorem run_len {pr picks : List Int} {n : Nat} {ss : List (List Opn)} : ∀ f, (run pr picks (gm0 n ss) f).ws.length = ss.length
  | 0 => by simp [run, gm0]
  | f + 1 => by
    have ih := run_len (pr := pr) (picks := picks) (n := n) (ss := ss) f
    unfold run
    split
    · exact ih
    · simp [adv, ih]

end Go.Proofs.YtpfcpeljfgmjgaaDoor
