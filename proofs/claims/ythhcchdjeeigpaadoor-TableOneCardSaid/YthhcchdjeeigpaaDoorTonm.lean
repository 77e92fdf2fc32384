/- One worker alone: what the law TableOne asks of the table, as mathematics. -/
import Derived.Test.YthhcchdjeeigpaaDoorTfact
namespace Go.Proofs.YthhcchdjeeigpaaDoor
open Go.RowKit Go.Maps
set_option linter.unusedVariables false
set_option linter.unusedSimpArgs false

def kOf (n : Nat) : Ky := ⟨⟨#[107]⟩, ((n % 11 : Nat) : Int), 0⟩
theorem kOf_fit (n : Nat) : kfit (kOf n) := ⟨by unfold tfit kOf; show _ ≤ ((n % 11 : Nat) : Int) ∧ ((n % 11 : Nat) : Int) ≤ _; omega, by unfold tfit kOf; show _ ≤ (0 : Int) ∧ (0 : Int) ≤ _; omega, by unfold maxLen; show (⟨#[107]⟩ : ByteArray).size ≤ _; decide⟩
theorem firsts_sub (room : Int) : ∀ (n : Nat) (s : List Ky), s.length = n → (firsts room s).length ≤ n ∧ ∀ y ∈ firsts room s, y ∈ s
  | 0, s, h => by
    obtain rfl := List.length_eq_zero_iff.1 h
    exact ⟨Nat.le_refl _, fun y hy => by cases hy⟩
  | n + 1, s, h => by
    obtain ⟨l, x, rfl⟩ : ∃ l x, s = l ++ [x] := ⟨s.dropLast, s.getLast (by rintro rfl; simp at h), (List.dropLast_concat_getLast _).symm⟩
    have hl : l.length = n := by simpa using h
    obtain ⟨h1, h2⟩ := firsts_sub room n l hl
    rw [firsts_snoc]
    refine ⟨by have := (lookK_len (room := room) (l := firsts room l) (k := x)).2; omega, fun y hy => ?_⟩
    rcases lookK_src hy with h3 | h3
    · exact List.mem_append_left _ (h2 y h3)
    · subst h3; simp
theorem firsts_form (room : Int) (xs : List Nat) (r : Nat) : ∀ y ∈ firsts room ((xs.map kOf).take r), y.s = ⟨#[107]⟩ ∧ y.b = 0 := by
  intro y hy
  have h1 := (firsts_sub room _ _ rfl).2 y hy
  obtain ⟨n, _, rfl⟩ := List.mem_map.1 (List.mem_of_mem_take h1)
  exact ⟨rfl, rfl⟩
theorem firsts_short (room : Int) (xs : List Nat) (r : Nat) : (firsts room ((xs.map kOf).take r)).length ≤ r := by
  have h1 := (firsts_sub room _ ((xs.map kOf).take r) rfl).1
  rw [List.length_take] at h1
  omega
/-- The search of the law finds the first place. -/
theorem one_kat {fs : List Ky} {x : Ky} (hf : ∀ y ∈ fs, y.s = x.s ∧ y.b = x.b) {j : Nat} (h1 : ∀ i, i < j → (fs.map Ky.a).getD i 0 ≠ x.a) (h2 : j = fs.length ∨ j < fs.length ∧ (fs.map Ky.a).getD j 0 = x.a) : kat fs x = j := by
  have hg : ∀ i, i < fs.length → ∀ y, fs[i]? = some y → (fs.map Ky.a).getD i 0 = y.a := fun i hi y hy => by
    rw [List.getD_eq_getElem?_getD, List.getElem?_map, hy]; rfl
  have hb : ∀ i, i < j → fs[i]? ≠ some x := fun i hi q => h1 i hi (hg i (List.getElem?_eq_some_iff.1 q).1 x q)
  rcases h2 with h2 | ⟨h2, h3⟩
  · subst h2
    refine kat_none fun hm => ?_
    obtain ⟨i, hi⟩ := List.mem_iff_getElem?.1 hm
    exact hb i (List.getElem?_eq_some_iff.1 hi).1 hi
  · obtain ⟨y, hy⟩ : ∃ y, fs[j]? = some y := ⟨_, List.getElem?_eq_getElem h2⟩
    have e := (hg j h2 y hy).symm.trans h3
    obtain ⟨e1, e2⟩ := hf y (List.mem_of_getElem? hy)
    have : y = x := by
      obtain ⟨a, b, c⟩ := y
      obtain ⟨a', b', c'⟩ := x
      simp only at e e1 e2
      subst e e1 e2
      rfl
    subst this
    exact kat_is hy hb
/-- One round: the place found is what was told; what was seen is the table. -/
theorem one_round {room : Int} {xs : List Nat} {r : Nat} {n : Nat} (hn : xs[r]? = some n) (hr : (r : Int) < room) {j : Nat} (h1 : ∀ i, i < j → ((firsts room ((xs.map kOf).take r)).map Ky.a).getD i 0 ≠ ((n % 11 : Nat) : Int))
    (h2 : j = (firsts room ((xs.map kOf).take r)).length ∨ j < (firsts room ((xs.map kOf).take r)).length ∧ ((firsts room ((xs.map kOf).take r)).map Ky.a).getD j 0 = ((n % 11 : Nat) : Int)) :
    (lookK room (firsts room ((xs.map kOf).take r)) (kOf n)).2 = (j : Int) ∧ (firsts room ((xs.map kOf).take (r + 1))).map Ky.a = (firsts room ((xs.map kOf).take r)).map Ky.a ++ (if j = (firsts room ((xs.map kOf).take r)).length then [((n % 11 : Nat) : Int)] else []) := by
  have hk := one_kat (fs := firsts room ((xs.map kOf).take r)) (x := kOf n) (fun y hy => firsts_form room xs r y hy) h1 h2
  have hs := firsts_short room xs r
  have e : (xs.map kOf).take (r + 1) = (xs.map kOf).take r ++ [kOf n] := by rw [List.take_add_one, List.getElem?_map, hn]; rfl
  rw [e, firsts_snoc]
  unfold lookK
  rw [hk]
  rcases h2 with h2 | ⟨h2, _⟩
  · rw [if_neg (by omega), if_pos (by omega), if_pos h2]
    exact ⟨by show ((firsts room _).length : Int) = _; rw [← h2], by rw [List.map_append]; rfl⟩
  · rw [if_pos h2, if_neg (by omega)]
    exact ⟨rfl, by rw [List.append_nil]⟩
/-- What the law has seen of the first r keys. -/
def FA (xs : List Nat) (r : Nat) : List Int := (firsts 100 ((xs.map kOf).take r)).map Ky.a
theorem FA_len (xs : List Nat) (r : Nat) : (FA xs r).length = (firsts 100 ((xs.map kOf).take r)).length := List.length_map ..
theorem FA_zero (xs : List Nat) : FA xs 0 = [] := by unfold FA; rw [List.take_zero]; rfl
theorem FA_short (xs : List Nat) (r : Nat) : (FA xs r).length ≤ r := by rw [FA_len]; exact firsts_short 100 xs r
theorem FA_round {xs : List Nat} {r : Nat} {n : Nat} (hn : xs[r]? = some n) (hr : r < 100) {j : Nat} (h1 : ∀ i, i < j → (FA xs r).getD i 0 ≠ ((n % 11 : Nat) : Int))
    (h2 : j = (FA xs r).length ∨ j < (FA xs r).length ∧ (FA xs r).getD j 0 = ((n % 11 : Nat) : Int)) :
    (lookK 100 (firsts 100 ((xs.map kOf).take r)) (kOf n)).2 = (j : Int) ∧ FA xs (r + 1) = FA xs r ++ (if j = (FA xs r).length then [((n % 11 : Nat) : Int)] else []) := by
  rw [FA_len] at h2 ⊢
  exact one_round hn (by omega) h1 h2
/-- What one worker alone was told, and the table, at the end. -/
theorem one_end {σ : Ky → Int} {room : Int} {picks : List Int} {xs : List Nat} {N : Nat} (hN : 3 * ([xs.map kOf].map List.length).sum = N) :
    ((ttAt σ room picks [xs.map kOf] N).tw 0).got.length = xs.length ∧ (ttAt σ room picks [xs.map kOf] N).keys = firsts room ((xs.map kOf).take xs.length) ∧
    ∀ (r n : Nat), xs[r]? = some n → ((ttAt σ room picks [xs.map kOf] N).tw 0).got.getD r 0 = (lookK room (firsts room ((xs.map kOf).take r)) (kOf n)).2 := by
  obtain ⟨k, hk, hks, hg⟩ := (tone σ room picks (xs.map kOf) N).ws
  have h2 := tt_end σ room picks [xs.map kOf]
  unfold ttEnd at h2
  rw [hN] at h2
  have h3 := (h2.got 0 (xs.map kOf) rfl).1
  have ht : (ttAt σ room picks [xs.map kOf] N).tw 0 = k := by unfold Tg.tw; rw [hk]; rfl
  rw [ht] at h3 ⊢
  rw [List.length_map] at h3
  refine ⟨h3, by rw [hks, h3], fun r n hr => ?_⟩
  have hrl := (List.getElem?_eq_some_iff.1 hr).1
  obtain ⟨v, hv⟩ : ∃ v, k.got[r]? = some v := ⟨_, List.getElem?_eq_getElem (by omega)⟩
  rw [List.getD_eq_getElem?_getD, hv]
  exact hg r v (kOf n) hv (by rw [List.getElem?_map, hr]; rfl)

end Go.Proofs.YthhcchdjeeigpaaDoor
