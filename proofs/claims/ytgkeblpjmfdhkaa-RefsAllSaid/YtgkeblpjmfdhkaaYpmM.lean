/- Mathematics of the document's Parse: what tokens lack; the first place of what is too deep; places are no less than 0. -/
import Derived.Test.YtgkeblpjmfdhkaaYtdM
import Derived.Test.YtgkeblpjmfdhkaaYAM
namespace Go.Proofs.Ytgkeblpjmfdhkaa
open Go.RowKit Go.Maps
set_option linter.unusedVariables false
set_option linter.unusedSimpArgs false

theorem kindL_ne3 (l : By) : kindL l ≠ 3 := by
  unfold kindL
  split
  · decide
  · split
    · decide
    · split
      · decide
      · split <;> decide
theorem tokL_okk {l : By} {t : Tw} (h : tokL l = some t) : (t.k = 1 ∨ t.k = 2 → t.n = 0) ∧ (t.k = 3 → t.s = []) := by
  cases l with
  | nil => cases h
  | cons b r =>
    rw [tokL_cons] at h
    split at h
    · split at h
      · cases h
      · cases h
        refine ⟨fun _ => rfl, fun h3 => ?_⟩
        have h3' : kindL (rowL resN (b :: r)) = 3 := h3
        exact absurd h3' (kindL_ne3 _)
    · split at h
      · split at h
        · cases h
        · cases h; exact ⟨fun h1 => absurd h1 (show ¬ (3 = 1 ∨ 3 = 2) by decide), fun _ => rfl⟩
      · split at h
        · cases h; exact ⟨fun h1 => absurd h1 (show ¬ (5 = 1 ∨ 5 = 2) by decide), fun h1 => absurd h1 (show ¬ (5 = 3) by decide)⟩
        · split at h
          · cases h; exact ⟨fun h1 => absurd h1 (show ¬ (5 = 1 ∨ 5 = 2) by decide), fun h1 => absurd h1 (show ¬ (5 = 3) by decide)⟩
          · cases h
theorem lexF_okk : ∀ (n : Nat) (l : By) (i : Nat) (ts : List Tk), lexF n l i = .ok ts → ∀ t ∈ ts, t.okk
  | 0, l, i, ts, h => by obtain rfl := Lx.ok_inj h; simp
  | n + 1, [], i, ts, h => by obtain rfl := Lx.ok_inj h; simp
  | n + 1, b :: r, i, ts, h => by
    unfold lexF at h
    split at h
    · exact lexF_okk n r (i + 1) ts h
    · split at h
      · exact lexF_okk n _ _ ts h
      · cases ht : tokL (b :: r) with
        | none => rw [ht] at h; exact (Lx.bad_ok h).elim
        | some t =>
          rw [ht] at h
          obtain ⟨l', h1, rfl⟩ := pre_ok h
          intro x hx
          simp at hx
          rcases hx with rfl | hx
          · exact tokL_okk ht
          · exact lexF_okk n _ _ l' h1 x hx
theorem lexL_okk {l : By} {ts : List Tk} (h : lexL l 0 = .ok ts) : ∀ t ∈ ts, t.okk := lexF_okk _ l 0 ts h

def Least (r : Int) (P : Int → Prop) : Prop := ((∀ x, ¬ P x) ∧ r = -1) ∨ (P r ∧ ∀ x, P x → r ≤ x)
theorem Least.step {a q : Int} {P : Int → Prop} (h : Least a P) (hP : ∀ x, P x → 0 ≤ x) (hq : 0 ≤ q) : Least (mnI a q) (fun x => P x ∨ x = q) := by
  unfold mnI
  rcases h with ⟨h1, rfl⟩ | ⟨h1, h2⟩
  · rw [if_pos (.inl (by omega))]
    exact .inr ⟨.inr rfl, fun x hx => by rcases hx with hx | hx; exact absurd hx (h1 x); omega⟩
  · have h0 := hP a h1
    by_cases hl : q < a
    · rw [if_pos (.inr hl)]
      exact .inr ⟨.inr rfl, fun x hx => by rcases hx with hx | hx; have := h2 x hx; omega; omega⟩
    · rw [if_neg (by omega)]
      exact .inr ⟨.inl h1, fun x hx => by rcases hx with hx | hx; exact h2 x hx; omega⟩
theorem Least.same {r : Int} {P Q : Int → Prop} (h : Least r P) (e : ∀ x, P x ↔ Q x) : Least r Q := by
  rcases h with ⟨h1, h2⟩ | ⟨h1, h2⟩
  · exact .inl ⟨fun x hx => h1 x ((e x).2 hx), h2⟩
  · exact .inr ⟨(e r).1 h1, fun x hx => h2 x ((e x).2 hx)⟩
theorem Least.one {r s : Int} {P : Int → Prop} (h : Least r P) (k : Least s P) : r = s := by
  rcases h with ⟨h1, h2⟩ | ⟨h1, h2⟩ <;> rcases k with ⟨k1, k2⟩ | ⟨k1, k2⟩
  · rw [h2, k2]
  · exact absurd k1 (h1 s)
  · exact absurd h1 (k1 r)
  · have := h2 s k1; have := k2 r h1; omega
theorem least_B : ∀ (l : List Bd) (a : Int) (P : Int → Prop), Least a P → (∀ x, P x → 0 ≤ x) → (∀ b ∈ l, 0 ≤ b.p) → Least (l.foldl stepB a) (fun x => P x ∨ ∃ b ∈ l, 60 < b.body.deep ∧ x = b.p)
  | [], a, P, h, _, _ => h.same fun x => by simp
  | b :: r, a, P, h, hP, hb => by
    have h0 : 0 ≤ b.p := hb b (List.mem_cons_self ..)
    by_cases hd : 60 < b.body.deep
    · have h1 : stepB a b = mnI a b.p := by unfold stepB; rw [if_pos hd]
      have h2 := least_B r (mnI a b.p) _ (h.step hP h0) (fun x hx => by rcases hx with hx | hx; exact hP x hx; omega) (fun b' hb' => hb b' (List.mem_cons_of_mem _ hb'))
      show Least (r.foldl stepB (stepB a b)) _
      rw [h1]
      refine h2.same fun x => ?_
      simp only [List.mem_cons, exists_eq_or_imp, hd, true_and]
      exact or_assoc
    · have h1 : stepB a b = a := by unfold stepB; rw [if_neg hd]
      have h2 := least_B r a P h hP (fun b' hb' => hb b' (List.mem_cons_of_mem _ hb'))
      show Least (r.foldl stepB (stepB a b)) _
      rw [h1]
      refine h2.same fun x => ?_
      simp only [List.mem_cons, exists_eq_or_imp, hd, false_and, false_or]
theorem least_T (q : Int) (hq : 0 ≤ q) : ∀ (l : List Ty) (a : Int) (P : Int → Prop), Least a P → (∀ x, P x → 0 ≤ x) → Least (l.foldl (stepT q) a) (fun x => P x ∨ ((∃ t ∈ l, 60 < t.deep) ∧ x = q))
  | [], a, P, h, _ => h.same fun x => by simp
  | t :: r, a, P, h, hP => by
    by_cases hd : 60 < t.deep
    · have h1 : stepT q a t = mnI a q := by unfold stepT; rw [if_pos hd]
      have h2 := least_T q hq r (mnI a q) _ (h.step hP hq) (fun x hx => by rcases hx with hx | hx; exact hP x hx; omega)
      show Least (r.foldl (stepT q) (stepT q a t)) _
      rw [h1]
      refine h2.same fun x => ?_
      simp only [List.mem_cons, exists_eq_or_imp, hd, true_or, true_and]
      constructor
      · rintro ((h | h) | h)
        · exact .inl h
        · exact .inr h
        · exact .inr h.2
      · rintro (h | h)
        · exact .inl (.inl h)
        · exact .inl (.inr h)
    · have h1 : stepT q a t = a := by unfold stepT; rw [if_neg hd]
      have h2 := least_T q hq r a P h hP
      show Least (r.foldl (stepT q) (stepT q a t)) _
      rw [h1]
      refine h2.same fun x => ?_
      simp only [List.mem_cons, exists_eq_or_imp, hd, false_or]
theorem tooDeep_iff (c : Cn) : c.tooDeep = true ↔ ∃ t ∈ c.args, 60 < t.deep := by
  unfold Cn.tooDeep; simp
theorem least_C : ∀ (l : List Cn) (a : Int) (P : Int → Prop), Least a P → (∀ x, P x → 0 ≤ x) → (∀ c ∈ l, 0 ≤ c.p) → Least (l.foldl stepC a) (fun x => P x ∨ ∃ c ∈ l, c.tooDeep = true ∧ x = c.p)
  | [], a, P, h, _, _ => h.same fun x => by simp
  | c :: r, a, P, h, hP, hc => by
    have h0 : 0 ≤ c.p := hc c (List.mem_cons_self ..)
    have h1 := least_T c.p h0 c.args a P h hP
    have h2 := least_C r (stepC a c) _ h1 (fun x hx => by rcases hx with hx | hx; exact hP x hx; omega) (fun c' hc' => hc c' (List.mem_cons_of_mem _ hc'))
    show Least (r.foldl stepC (stepC a c)) _
    refine h2.same fun x => ?_
    simp only [List.mem_cons, exists_eq_or_imp, ← tooDeep_iff]
    exact or_assoc
theorem least_D : ∀ (l : List Dt) (a : Int) (P : Int → Prop), Least a P → (∀ x, P x → 0 ≤ x) → (∀ d ∈ l, ∀ c ∈ d.cons, 0 ≤ c.p) → Least (l.foldl stepD a) (fun x => P x ∨ ∃ d ∈ l, ∃ c ∈ d.cons, c.tooDeep = true ∧ x = c.p)
  | [], a, P, h, _, _ => h.same fun x => by simp
  | d :: r, a, P, h, hP, hc => by
    have h1 := least_C d.cons a P h hP (hc d (List.mem_cons_self ..))
    have h2 := least_D r (stepD a d) _ h1 (fun x hx => by rcases hx with hx | ⟨c, hc1, _, rfl⟩; exact hP x hx; exact hc d (List.mem_cons_self ..) c hc1) (fun d' hd' => hc d' (List.mem_cons_of_mem _ hd'))
    show Least (r.foldl stepD (stepD a d)) _
    refine h2.same fun x => ?_
    simp only [List.mem_cons, exists_eq_or_imp]
    exact or_assoc
theorem foldl_min : ∀ (l : List Int) (a : Int), (l.foldl min a = a ∨ l.foldl min a ∈ l) ∧ l.foldl min a ≤ a ∧ ∀ x ∈ l, l.foldl min a ≤ x
  | [], a => by simp
  | y :: r, a => by
    obtain ⟨h1, h2, h3⟩ := foldl_min r (min a y)
    refine ⟨?_, by show r.foldl min (min a y) ≤ a; omega, ?_⟩
    · show r.foldl min (min a y) = a ∨ r.foldl min (min a y) ∈ y :: r
      rcases h1 with h1 | h1
      · by_cases hl : a ≤ y
        · exact .inl (by rw [h1]; omega)
        · exact .inr (by rw [h1]; exact List.mem_cons.2 (.inl (by omega)))
      · exact .inr (List.mem_cons_of_mem _ h1)
    · intro x hx
      show r.foldl min (min a y) ≤ x
      rcases List.mem_cons.1 hx with rfl | hx
      · omega
      · exact h3 x hx
theorem minL_least {l : List Int} (h : l ≠ []) : Least (minL l) (fun x => x ∈ l) := by
  cases l with
  | nil => exact absurd rfl h
  | cons a r =>
    obtain ⟨h1, h2, h3⟩ := foldl_min r a
    refine .inr ⟨?_, fun x hx => ?_⟩
    · show r.foldl min a ∈ a :: r
      rcases h1 with h1 | h1
      · rw [h1]; exact List.mem_cons_self ..
      · exact List.mem_cons_of_mem _ h1
    · rcases List.mem_cons.1 hx with rfl | hx
      · exact h2
      · exact h3 x hx
theorem tooDeepL_mem (p : Pg) (x : Int) : x ∈ tooDeepL p ↔ (∃ b ∈ p.binds, 60 < b.body.deep ∧ x = b.p) ∨ ∃ d ∈ p.datas, ∃ c ∈ d.cons, c.tooDeep = true ∧ x = c.p := by
  unfold tooDeepL
  simp only [List.mem_append, List.mem_flatMap, List.mem_map, List.mem_filter, decide_eq_true_eq]
  constructor
  · rintro (⟨d, hd, c, ⟨hc, ht⟩, rfl⟩ | ⟨b, ⟨hb, ht⟩, rfl⟩)
    · exact .inr ⟨d, hd, c, hc, ht, rfl⟩
    · exact .inl ⟨b, hb, ht, rfl⟩
  · rintro (⟨b, hb, ht, rfl⟩ | ⟨d, hd, c, hc, ht, rfl⟩)
    · exact .inr ⟨b, ⟨hb, ht⟩, rfl⟩
    · exact .inl ⟨d, hd, c, ⟨hc, ht⟩, rfl⟩
theorem tooDoc_eq (p : Pg) (hb : ∀ b ∈ p.binds, 0 ≤ b.p) (hc : ∀ d ∈ p.datas, ∀ c ∈ d.cons, 0 ≤ c.p) : tooDoc p = if tooDeepL p = [] then -1 else minL (tooDeepL p) := by
  have h0 : Least (-1) (fun _ => False) := .inl ⟨fun _ h => h, rfl⟩
  have h1 := least_B p.binds (-1) _ h0 (fun _ h => h.elim) hb
  have h2 := least_D p.datas _ _ h1 (fun x hx => by rcases hx with hx | ⟨b, hb1, _, rfl⟩; exact hx.elim; exact hb b hb1) hc
  have h3 : Least (tooDoc p) (fun x => x ∈ tooDeepL p) := h2.same fun x => by rw [tooDeepL_mem]; simp
  by_cases he : tooDeepL p = []
  · rw [if_pos he]
    rw [he] at h3
    exact h3.one (.inl ⟨fun x hx => by simp at hx, rfl⟩)
  · rw [if_neg he]
    exact h3.one (minL_least he)

end Go.Proofs.Ytgkeblpjmfdhkaa
