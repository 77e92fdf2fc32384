/- Mathematics of lexing: two texts, one behind the other, whose tokens do not grow together. No program. Mathematics of the grammar: what an expression's text is read as in any place, but for places. No program. Mathematics of the grammar: the statements' texts by numbers are read as expressions, atoms, wherever they stand. No program. -/
import Derived.Test.YtgkeblpjmfdhkaaZJR
import Derived.Test.YtgkeblpjmfdhkaaZIR
namespace Go.Proofs.Ytgkeblpjmfdhkaa
set_option linter.unusedVariables false
set_option linter.unusedSimpArgs false

/-- Each '-' is part of "->": there is no remark, and none at the end. -/
def noRem (s : List UInt8) : Prop := ∀ j : Nat, s[j]? = some (45 : UInt8) → s[j + 1]? = some (62 : UInt8)
/-- Nothing grows across the place between s and r. -/
def parted (s r : List UInt8) : Prop := (∀ c, s.getLast? = some c → resN c.toNat = false) ∨ ∀ b t, r = b :: t → resN b.toNat = false
theorem noRem.app {a b : List UInt8} (ha : noRem a) (hb : noRem b) : noRem (a ++ b) := fun j hj => by
  by_cases h : j < a.length
  · rw [List.getElem?_append_left h] at hj
    have h1 := ha j hj
    have h2 := (List.getElem?_eq_some_iff.1 h1).1
    rw [List.getElem?_append_left h2]; exact h1
  · rw [List.getElem?_append_right (by omega)] at hj
    have := hb _ hj
    rw [List.getElem?_append_right (by omega), show j + 1 - a.length = j - a.length + 1 by omega]; exact this
theorem noRem.drop {a : List UInt8} (ha : noRem a) (k : Nat) : noRem (a.drop k) := fun j hj => by
  rw [List.getElem?_drop] at hj ⊢
  exact ha (k + j) hj
theorem parted.drop {s r : List UInt8} (h : parted s r) (k : Nat) : parted (s.drop k) r := by
  rcases h with h | h
  · refine .inl fun c hc => h c ?_
    rw [List.getLast?_drop] at hc
    split at hc
    · cases hc
    · exact hc
  · exact .inr h
theorem rowL_join {p : Nat → Bool} (hp : ∀ n, p n = true → resN n = true) (r : By) : ∀ t : By, parted t r → (t = [] → ∀ b u, r = b :: u → p b.toNat = false) → rowL p (t ++ r) = rowL p t
  | [], _, h2 => by
    rw [List.nil_append]
    cases r with
    | nil => rfl
    | cons b u => rw [rowL_no (by rw [h2 rfl b u rfl]; simp)]; rfl
  | c :: t, h, _ => by
    rw [List.cons_append]
    by_cases hc : p c.toNat = true
    · rw [rowL_yes hc, rowL_yes hc]
      rw [rowL_join hp r t ?_ ?_]
      · have := h.drop 1; simpa using this
      · intro ht b u hr
        subst ht
        rcases h with h | h
        · have := h c (by simp)
          rw [hp _ hc] at this; cases this
        · have := h b u hr
          cases q : p b.toNat with
          | false => rfl
          | true => rw [hp _ q] at this; cases this
    · rw [rowL_no hc, rowL_no hc]
theorem dig_res (n : Nat) (h : digN n = true) : resN n = true := by unfold resN; rw [h]; simp
theorem tokL_join (b : UInt8) (t r : By) (h : parted (b :: t) r) (hn : noRem (b :: t)) : tokL (b :: (t ++ r)) = tokL (b :: t) := by
  rw [tokL_cons, tokL_cons, ← List.cons_append, rowL_join (p := resN) (fun _ h => h) r _ h (fun q => by cases q), rowL_join (p := digN) dig_res r _ h (fun q => by cases q)]
  have : (b.toNat = 45 ∧ (t ++ r).head? = some 62) ↔ (b.toNat = 45 ∧ t.head? = some 62) := by
    by_cases hb : b.toNat = 45
    · have h1 := hn 0 (by simp; exact UInt8.toNat_inj.1 hb)
      cases t with
      | nil => simp at h1
      | cons c u => simp
    · simp [hb]
  simp only [this]
/-- Tokens of two texts that do not grow together. -/
theorem lexL_join (r : By) : ∀ (n : Nat) (a : By) (i : Nat), a.length ≤ n → noRem a → parted a r → ∀ ts, lexL a i = .ok ts → lexL (a ++ r) i = (lexL r (i + a.length)).pre ts
  | n, [], i, _, _, _ => fun ts h => by obtain rfl := Lx.ok_inj h; rw [Lx.pre_nil]; rfl
  | 0, b :: t, i, h, _, _ => by simp at h
  | n + 1, b :: t, i, hn, hm, hp => fun ts h => by
    simp only [List.length_cons] at hn
    rw [List.cons_append]
    cases hb : blaN b.toNat
    · have hr : ¬ (b.toNat = 45 ∧ t.head? = some 45) := fun q => by
        have h1 := hm 0 (by simp; exact UInt8.toNat_inj.1 q.1)
        cases t with
        | nil => simp at h1
        | cons c u => simp at h1 q; have := q.2; rw [h1] at this; revert this; decide
      have hr2 : ¬ (b.toNat = 45 ∧ (t ++ r).head? = some 45) := fun q => by
        have h1 := hm 0 (by simp; exact UInt8.toNat_inj.1 q.1)
        cases t with
        | nil => simp at h1
        | cons c u => simp at h1 q; have := q.2; rw [h1] at this; revert this; decide
      have ht := tokL_join b t r hp hm
      cases hk : tokL (b :: t) with
      | none => rw [lexL_bad i hb hr hk] at h; exact (Lx.bad_ok h).elim
      | some x =>
        have hx := tokL_pos hk
        have ih := lexL_join r n ((b :: t).drop x.w) (i + x.w) (by simp only [List.length_drop, List.length_cons]; omega) (hm.drop _) (hp.drop _)
        rw [lexL_tok i hb hr hk] at h
        rw [lexL_tok i hb hr2 (by rw [ht]; exact hk), ← List.cons_append, drop_app _ _ _ hx.2]
        rcases Lx.cases (lexL ((b :: t).drop x.w) (i + x.w)) with ⟨q, hq⟩ | ⟨l, hq⟩
        · rw [hq] at h; exact (Lx.bad_ok h).elim
        · rw [hq, Lx.pre_ok] at h
          obtain rfl := Lx.ok_inj h
          rw [ih l hq, Lx.pre_pre, List.length_drop]
          congr 2
          have := hx.2
          simp only [List.length_cons] at this ⊢
          omega
    · have hm1 : noRem t := by have := hm.drop 1; simpa using this
      have hp1 : parted t r := by have := hp.drop 1; simpa using this
      have ih := lexL_join r n t (i + 1) (by omega) hm1 hp1
      rw [lexL_blank i hb] at h
      rw [lexL_blank i hb, ih ts h, List.length_cons]
      congr 2; omega

/-- A text that may stand anywhere: its tokens at place 0; how it begins and ends. -/
structure Lp (s : List UInt8) (ts : List Tk) : Prop where
  no : noRem s
  lex : lexL s 0 = .ok ts
theorem Lp.at_ {s : List UInt8} {ts : List Tk} (h : Lp s ts) (i : Nat) : lexL s i = .ok (ts.map (Tk.mv i)) := by
  rw [lexL_at, h.lex]; rfl
theorem Lp.app {a b : List UInt8} {ta tb : List Tk} (ha : Lp a ta) (hb : Lp b tb) (hp : parted a b) : Lp (a ++ b) (ta ++ tb.map (Tk.mv a.length)) :=
  ⟨ha.no.app hb.no, by rw [lexL_join b _ a 0 (Nat.le_refl _) ha.no hp ta ha.lex, hb.at_, Nat.zero_add, Lx.pre_ok]⟩
theorem Tk.mv_mv (a b : Nat) (t : Tk) : (t.mv a).mv b = t.mv (a + b) := by unfold Tk.mv; simp [Nat.add_assoc]
theorem Lp.of {s : List UInt8} {ts : List Tk} (h : lexL s 0 = .ok ts) (hn : (List.range s.length).all (fun j => decide (s[j]? = some (45 : UInt8) → s[j + 1]? = some (62 : UInt8))) = true) : Lp s ts := by
  refine ⟨fun j hj => ?_, h⟩
  have h1 := (List.getElem?_eq_some_iff.1 hj).1
  have := List.all_eq_true.1 hn j (List.mem_range.2 h1)
  exact of_decide_eq_true this hj

end Go.Proofs.Ytgkeblpjmfdhkaa

namespace Go.Proofs.Ytgkeblpjmfdhkaa
set_option linter.unusedVariables false
set_option linter.unusedSimpArgs false

mutual
def Ex.bare : Ex → Ex
  | .mk k p s n kids alts => .mk k 0 s n (Ex.bares kids) (Al.bares alts)
def Ex.bares : List Ex → List Ex
  | [] => []
  | x :: r => x.bare :: Ex.bares r
def Al.bare : Al → Al
  | .mk p s l b => .mk 0 s l b.bare
def Al.bares : List Al → List Al
  | [] => []
  | x :: r => x.bare :: Al.bares r
end
theorem lams_bare (p : Int) (x : Ex) : ∀ l : List By, (lams p l x).bare = lams 0 l x.bare
  | [] => rfl
  | s :: r => by
    have ih := lams_bare p x r
    simp only [lams, List.foldr_cons] at ih ⊢
    simp only [Ex.bare, Ex.bares, Al.bares]
    rw [ih]
theorem take_hd {En : Nat} {t : Tk} {s : Srt} {r : List Tk} {b : Bool} {a : Nat} (h : srt t = s) : (⟨t :: r, b, a⟩ : PS).take En s = (t, ⟨r, b, a⟩) := by
  unfold PS.take PS.sees PS.next
  simp only [h, decide_true, if_true]
  rfl
theorem names_run {w : Tk} {r : List Tk} (hw : srt w ≠ sName) : ∀ l : List Tk, (∀ t ∈ l, srt t = sName) → namesL (l ++ w :: r) = (l.map Tk.s, w :: r)
  | [], _ => by simp only [List.nil_append, namesL, if_neg hw]; rfl
  | t :: l, h => by
    have ih := names_run hw (r := r) l fun x hx => h x (List.mem_cons_of_mem _ hx)
    simp only [List.cons_append, namesL, if_pos (h t (by simp)), ih]
    rfl
/-- The next token begins no atom. -/
def fol (r : List Tk) : Prop := (⟨r, false, 0⟩ : PS).seesAtom = false
theorem fol_of {t : Tk} {r : List Tk} (h : (isLeaf (beg (srt t)) || decide (beg (srt t) = 8)) = false) : fol (t :: r) := h
theorem parted_l {s r : List UInt8} {c : UInt8} (h : s.getLast? = some c) (hc : resN c.toNat = false) : parted s r := .inl fun c' h' => by rw [h] at h'; cases h'; exact hc
theorem parted_r {s r : List UInt8} {c : UInt8} (hc : resN c.toNat = false) : parted s (c :: r) := .inr fun b t h => by cases h; exact hc

theorem mv_two (ts : List Tk) (a i : Nat) : (ts.map (Tk.mv a)).map (Tk.mv i) = ts.map (Tk.mv (a + i)) := by rw [List.map_map]; exact List.map_congr_left fun t _ => Tk.mv_mv _ _ t
theorem fol_sign {t : Tk} {r : List Tk} {w : By} (h : srt t = sS w) (hw : beg (sS w) = 0) : fol (t :: r) := fol_of (by rw [h, hw]; decide)

theorem rows_end {A : Type} {sep : Srt} {most : Nat} {one : PS → A × PS} {f : Nat} {l : List A} {t : Tk} {r : List Tk} {a : Nat} (h : srt t ≠ sep) : rowsL sep most one f l ⟨t :: r, false, a⟩ = (l, ⟨t :: r, false, a⟩) :=
  rowsL_end (fun q => h (of_decide_eq_true q.2))
end Go.Proofs.Ytgkeblpjmfdhkaa

namespace Go.Proofs.Ytgkeblpjmfdhkaa
set_option linter.unusedVariables false
set_option linter.unusedSimpArgs false

theorem parted_end (s Q r : List UInt8) {c : UInt8} (h : Q.getLast? = some c) (hc : resN c.toNat = false) : parted (s ++ Q) r := by
  refine parted_l (c := c) ?_ hc
  rw [List.getLast?_append, h]; rfl
end Go.Proofs.Ytgkeblpjmfdhkaa
