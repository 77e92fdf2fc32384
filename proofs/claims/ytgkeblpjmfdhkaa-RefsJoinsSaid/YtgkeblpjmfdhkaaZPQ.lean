/- Mathematics of lexing: two texts, one behind the other, whose tokens do not grow together. No program. Mathematics of the grammar: what an expression's text is read as in any place, but for places. No program. Mathematics of the grammar: the statements' texts by numbers are read as expressions, atoms, wherever they stand. No program. -/
import Derived.Test.YtgkeblpjmfdhkaaZJQ
import Derived.Test.YtgkeblpjmfdhkaaZIQ
namespace Go.Proofs.Ytgkeblpjmfdhkaa
set_option linter.unusedVariables false
set_option linter.unusedSimpArgs false

/-- Each '-' is part of "->": there is no remark, and none at the end. -/
def noRem (s : List UInt8) : Prop := ∀ j : Nat, s[j]? = some (45 : UInt8) → s[j + 1]? = some (62 : UInt8)
/-- Nothing grows across the place between s and r. -/
def parted (s r : List UInt8) : Prop := (∀ c, s.getLast? = some c → resN c.toNat = false) ∨ ∀ b t, r = b :: t → resN b.toNat = false
theorem noRem.app {a b : List UInt8} (ha : noRem a) (hb : noRem b) : noRem (a ++ b) := fun j hj => by
  by_cases h : j < a.length
  · rw [List.getElem?_append_left h] at hj
    have h1 := ha j hj
    have h2 := (List.getElem?_eq_some_iff.1 h1).1
    rw [List.getElem?_append_left h2]; exact h1
  · rw [List.getElem?_append_right (by omega)] at hj
    have := hb _ hj
    rw [List.getElem?_append_right (by omega), show j + 1 - a.length = j - a.length + 1 by omega]; exact this
theorem noRem.drop {a : List UInt8} (ha : noRem a) (k : Nat) : noRem (a.drop k) := fun j hj => by
  rw [List.getElem?_drop] at hj ⊢
  exact ha (k + j) hj
theorem parted.drop {s r : List UInt8} (h : parted s r) (k : Nat) : parted (s.drop k) r := by
  rcases h with h | h
  · refine .inl fun c hc => h c ?_
    rw [List.getLast?_drop] at hc
    split at hc
    · cases hc
    · exact hc
  · exact .inr h
theorem rowL_join {p : Nat → Bool} (hp : ∀ n, p n = true → resN n = true) (r : By) : ∀ t : By, parted t r → (t = [] → ∀ b u, r = b :: u → p b.toNat = false) → rowL p (t ++ r) = rowL p t
  | [], _, h2 => by
    rw [List.nil_append]
    cases r with
    | nil => rfl
    | cons b u => rw [rowL_no (by rw [h2 rfl b u rfl]; simp)]; rfl
  | c :: t, h, _ => by
    rw [List.cons_append]
    by_cases hc : p c.toNat = true
    · rw [rowL_yes hc, rowL_yes hc]
      rw [rowL_join hp r t ?_ ?_]
      · have := h.drop 1; simpa using this
      · intro ht b u hr
        subst ht
        rcases h with h | h
        · have := h c (by simp)
          rw [hp _ hc] at this; cases this
        · have := h b u hr
          cases q : p b.toNat with
          | false => rfl
          | true => rw [hp _ q] at this; cases this
    · rw [rowL_no hc, rowL_no hc]
theorem dig_res (n : Nat) (h : digN n = true) : resN n = true := by unfold resN; rw [h]; simp
theorem tokL_join (b : UInt8) (t r : By) (h : parted (b :: t) r) (hn : noRem (b :: t)) : tokL (b :: (t ++ r)) = tokL (b :: t) := by
  rw [tokL_cons, tokL_cons, ← List.cons_append, rowL_join (p := resN) (fun _ h => h) r _ h (fun q => by cases q), rowL_join (p := digN) dig_res r _ h (fun q => by cases q)]
  have : (b.toNat = 45 ∧ (t ++ r).head? = some 62) ↔ (b.toNat = 45 ∧ t.head? = some 62) := by
    by_cases hb : b.toNat = 45
    · have h1 := hn 0 (by simp; exact UInt8.toNat_inj.1 hb)
      cases t with
      | nil => simp at h1
      | cons c u => simp
    · simp [hb]
  simp only [this]
/-- Tokens of two texts that do not grow together. -/
theorem lexL_join (r : By) : ∀ (n : Nat) (a : By) (i : Nat), a.length ≤ n → noRem a → parted a r → ∀ ts, lexL a i = .ok ts → lexL (a ++ r) i = (lexL r (i + a.length)).pre ts
  | n, [], i, _, _, _ => fun ts h => by obtain rfl := Lx.ok_inj h; rw [Lx.pre_nil]; rfl
  | 0, b :: t, i, h, _, _ => by simp at h
  | n + 1, b :: t, i, hn, hm, hp => fun ts h => by
    simp only [List.length_cons] at hn
    rw [List.cons_append]
    cases hb : blaN b.toNat
    · have hr : ¬ (b.toNat = 45 ∧ t.head? = some 45) := fun q => by
        have h1 := hm 0 (by simp; exact UInt8.toNat_inj.1 q.1)
        cases t with
        | nil => simp at h1
        | cons c u => simp at h1 q; have := q.2; rw [h1] at this; revert this; decide
      have hr2 : ¬ (b.toNat = 45 ∧ (t ++ r).head? = some 45) := fun q => by
        have h1 := hm 0 (by simp; exact UInt8.toNat_inj.1 q.1)
        cases t with
        | nil => simp at h1
        | cons c u => simp at h1 q; have := q.2; rw [h1] at this; revert this; decide
      have ht := tokL_join b t r hp hm
      cases hk : tokL (b :: t) with
      | none => rw [lexL_bad i hb hr hk] at h; exact (Lx.bad_ok h).elim
      | some x =>
        have hx := tokL_pos hk
        have ih := lexL_join r n ((b :: t).drop x.w) (i + x.w) (by simp only [List.length_drop, List.length_cons]; omega) (hm.drop _) (hp.drop _)
        rw [lexL_tok i hb hr hk] at h
        rw [lexL_tok i hb hr2 (by rw [ht]; exact hk), ← List.cons_append, drop_app _ _ _ hx.2]
        rcases Lx.cases (lexL ((b :: t).drop x.w) (i + x.w)) with ⟨q, hq⟩ | ⟨l, hq⟩
        · rw [hq] at h; exact (Lx.bad_ok h).elim
        · rw [hq, Lx.pre_ok] at h
          obtain rfl := Lx.ok_inj h
          rw [ih l hq, Lx.pre_pre, List.length_drop]
          congr 2
          have := hx.2
          simp only [List.length_cons] at this ⊢
          omega
    · have hm1 : noRem t := by have := hm.drop 1; simpa using this
      have hp1 : parted t r := by have := hp.drop 1; simpa using this
      have ih := lexL_join r n t (i + 1) (by omega) hm1 hp1
      rw [lexL_blank i hb] at h
      rw [lexL_blank i hb, ih ts h, List.length_cons]
      congr 2; omega

/-- A text that may stand anywhere: its tokens at place 0; how it begins and ends. -/
structure Lp (s : List UInt8) (ts : List Tk) : Prop where
  no : noRem s
  lex : lexL s 0 = .ok ts
theorem Lp.at_ {s : List UInt8} {ts : List Tk} (h : Lp s ts) (i : Nat) : lexL s i = .ok (ts.map (Tk.mv i)) := by
  rw [lexL_at, h.lex]; rfl
theorem Lp.app {a b : List UInt8} {ta tb : List Tk} (ha : Lp a ta) (hb : Lp b tb) (hp : parted a b) : Lp (a ++ b) (ta ++ tb.map (Tk.mv a.length)) :=
  ⟨ha.no.app hb.no, by rw [lexL_join b _ a 0 (Nat.le_refl _) ha.no hp ta ha.lex, hb.at_, Nat.zero_add, Lx.pre_ok]⟩
theorem Tk.mv_mv (a b : Nat) (t : Tk) : (t.mv a).mv b = t.mv (a + b) := by unfold Tk.mv; simp [Nat.add_assoc]
theorem Lp.of {s : List UInt8} {ts : List Tk} (h : lexL s 0 = .ok ts) (hn : (List.range s.length).all (fun j => decide (s[j]? = some (45 : UInt8) → s[j + 1]? = some (62 : UInt8))) = true) : Lp s ts := by
  refine ⟨fun j hj => ?_, h⟩
  have h1 := (List.getElem?_eq_some_iff.1 hj).1
  have := List.all_eq_true.1 hn j (List.mem_range.2 h1)
  exact of_decide_eq_true this hj

end Go.Proofs.Ytgkeblpjmfdhkaa

namespace Go.Proofs.Ytgkeblpjmfdhkaa
set_option linter.unusedVariables false
set_option linter.unusedSimpArgs false

mutual
def Ex.bare : Ex → Ex
  | .mk k p s n kids alts => .mk k 0 s n (Ex.bares kids) (Al.bares alts)
def Ex.bares : List Ex → List Ex
  | [] => []
  | x :: r => x.bare :: Ex.bares r
def Al.bare : Al → Al
  | .mk p s l b => .mk 0 s l b.bare
def Al.bares : List Al → List Al
  | [] => []
  | x :: r => x.bare :: Al.bares r
end
theorem lams_bare (p : Int) (x : Ex) : ∀ l : List By, (lams p l x).bare = lams 0 l x.bare
  | [] => rfl
  | s :: r => by
    have ih := lams_bare p x r
    simp only [lams, List.foldr_cons] at ih ⊢
    simp only [Ex.bare, Ex.bares, Al.bares]
    rw [ih]
theorem take_hd {En : Nat} {t : Tk} {s : Srt} {r : List Tk} {b : Bool} {a : Nat} (h : srt t = s) : (⟨t :: r, b, a⟩ : PS).take En s = (t, ⟨r, b, a⟩) := by
  unfold PS.take PS.sees PS.next
  simp only [h, decide_true, if_true]
  rfl
theorem names_run {w : Tk} {r : List Tk} (hw : srt w ≠ sName) : ∀ l : List Tk, (∀ t ∈ l, srt t = sName) → namesL (l ++ w :: r) = (l.map Tk.s, w :: r)
  | [], _ => by simp only [List.nil_append, namesL, if_neg hw]; rfl
  | t :: l, h => by
    have ih := names_run hw (r := r) l fun x hx => h x (List.mem_cons_of_mem _ hx)
    simp only [List.cons_append, namesL, if_pos (h t (by simp)), ih]
    rfl
/-- The next token begins no atom. -/
def fol (r : List Tk) : Prop := (⟨r, false, 0⟩ : PS).seesAtom = false
theorem fol_of {t : Tk} {r : List Tk} (h : (isLeaf (beg (srt t)) || decide (beg (srt t) = 8)) = false) : fol (t :: r) := h
/-- A text that is read as an expression wherever it stands ahead of what begins no atom, with so much fuel. -/
def EP (N : Nat) (s : By) : Prop := ∃ ts x0, Lp s ts ∧ ∀ (En n a i : Nat) (r : List Tk), N ≤ n → fol r → ∃ x, exprF En n ⟨ts.map (Tk.mv i) ++ r, false, a⟩ = (x, ⟨r, false, a⟩) ∧ x.bare = x0
/-- A text that is read as an atom wherever it stands. -/
def AP (N : Nat) (s : By) : Prop := ∃ ts x0, Lp s ts ∧ (∃ t r, ts = t :: r ∧ (isLeaf (beg (srt t)) || decide (beg (srt t) = 8)) = true) ∧ ∀ (En n a i : Nat) (r : List Tk), N ≤ n → ∃ x, atomF En (exprF En n) ⟨ts.map (Tk.mv i) ++ r, false, a⟩ = (x, ⟨r, false, a⟩) ∧ x.bare = x0
theorem EP.mono {N M : Nat} {s : By} (h : EP N s) (hm : N ≤ M) : EP M s := by
  obtain ⟨ts, x0, h1, h2⟩ := h
  exact ⟨ts, x0, h1, fun En n a i r hn hr => h2 En n a i r (Nat.le_trans hm hn) hr⟩
theorem AP.mono {N M : Nat} {s : By} (h : AP N s) (hm : N ≤ M) : AP M s := by
  obtain ⟨ts, x0, h1, h2, h3⟩ := h
  exact ⟨ts, x0, h1, h2, fun En n a i r hn => h3 En n a i r (Nat.le_trans hm hn)⟩
theorem parted_l {s r : List UInt8} {c : UInt8} (h : s.getLast? = some c) (hc : resN c.toNat = false) : parted s r := .inl fun c' h' => by rw [h] at h'; cases h'; exact hc
theorem parted_r {s r : List UInt8} {c : UInt8} (hc : resN c.toNat = false) : parted s (c :: r) := .inr fun b t h => by cases h; exact hc

/-- Names ahead of an arrow. -/
theorem EP.lam {N : Nat} {P E : By} {b m w : Tk} {l : List Tk} (hP : Lp P (b :: m :: l ++ [w])) (hb : srt b = sS tBack) (hm : srt m = sName) (hl : ∀ t ∈ l, srt t = sName) (hw : srt w = sS tArrow) (hp : ∀ r, parted P r) (hE : EP N E) : EP (N + 1) (P ++ E) := by
  obtain ⟨ts, x0, h1, h2⟩ := hE
  refine ⟨_, lams 0 (m.s :: l.map Tk.s) x0, hP.app h1 (hp _), fun En n a i r hn hr => ?_⟩
  obtain ⟨n', rfl⟩ : ∃ n', n = n' + 1 := ⟨n - 1, by omega⟩
  obtain ⟨x, hx, hb0⟩ := h2 En n' a (P.length + i) r (by omega) hr
  have hmv : (ts.map (Tk.mv P.length)).map (Tk.mv i) = ts.map (Tk.mv (P.length + i)) := by rw [List.map_map]; exact List.map_congr_left fun t _ => Tk.mv_mv _ _ t
  refine ⟨lams (b.mv i).p (m.s :: l.map Tk.s) x, ?_, by rw [lams_bare, hb0]⟩
  have e1 : (⟨(b :: m :: l ++ [w] ++ ts.map (Tk.mv P.length)).map (Tk.mv i) ++ r, false, a⟩ : PS) = ⟨b.mv i :: m.mv i :: (l.map (Tk.mv i) ++ w.mv i :: (ts.map (Tk.mv (P.length + i)) ++ r)), false, a⟩ := by
    simp only [List.map_append, List.map_cons, List.map_nil, hmv, List.cons_append, List.append_assoc, List.nil_append]
  rw [e1]
  show exprStep En (exprF En n') _ = _
  unfold exprStep
  rw [if_pos (by show beg (srt b) = 6; rw [hb]; decide)]
  unfold lamF
  rw [take_hd (t := b.mv i) hb]
  dsimp only
  rw [take_hd (t := m.mv i) hm]
  dsimp only
  have hnl := names_run (w := w.mv i) (r := ts.map (Tk.mv (P.length + i)) ++ r) (by show srt w ≠ _; rw [hw]; decide) (l.map (Tk.mv i)) (fun t ht => by obtain ⟨q, hq, rfl⟩ := List.mem_map.1 ht; exact hl q hq)
  unfold PS.names
  dsimp only
  rw [hnl]
  dsimp only
  rw [take_hd (t := w.mv i) hw]
  dsimp only
  rw [hx]
  have : (l.map (Tk.mv i)).map Tk.s = l.map Tk.s := by rw [List.map_map]; rfl
  rw [this]
  rfl

theorem mv_two (ts : List Tk) (a i : Nat) : (ts.map (Tk.mv a)).map (Tk.mv i) = ts.map (Tk.mv (a + i)) := by rw [List.map_map]; exact List.map_congr_left fun t _ => Tk.mv_mv _ _ t
/-- An atom is an expression. -/
theorem AP.ep {N : Nat} {s : By} (h : AP N s) : EP (N + 1) s := by
  obtain ⟨ts, x0, h1, ⟨t, q, hts, ht⟩, h2⟩ := h
  refine ⟨ts, x0, h1, fun En n a i r hn hr => ?_⟩
  obtain ⟨n', rfl⟩ : ∃ n', n = n' + 1 := ⟨n - 1, by omega⟩
  obtain ⟨x, hx, hb⟩ := h2 En n' a i r (by omega)
  refine ⟨x, ?_, hb⟩
  have hnx : (⟨ts.map (Tk.mv i) ++ r, false, a⟩ : PS).next = srt t := by rw [hts]; rfl
  show exprStep En (exprF En n') _ = _
  unfold exprStep
  rw [hnx]
  have h6 : beg (srt t) ≠ 6 ∧ beg (srt t) ≠ 7 ∧ beg (srt t) ≠ 9 ∧ beg (srt t) ≠ 10 := by
    unfold isLeaf at ht
    refine ⟨?_, ?_, ?_, ?_⟩ <;> (intro e; rw [e] at ht; revert ht; decide)
  rw [if_neg h6.1, if_neg h6.2.1, if_neg h6.2.2.1, if_neg h6.2.2.2]
  unfold appF
  rw [hx]
  dsimp only
  have hf : (⟨r, false, a⟩ : PS).seesAtom = false := hr
  cases hl : r.length with
  | zero => rfl
  | succ k => unfold appL; rw [hf, if_neg (by decide)]
theorem fol_word {t : Tk} {r : List Tk} {w : By} (h : srt t = sW w) (hw : beg (sW w) = 0) : fol (t :: r) := fol_of (by rw [h, hw]; decide)
theorem fol_sign {t : Tk} {r : List Tk} {w : By} (h : srt t = sS w) (hw : beg (sS w) = 0) : fol (t :: r) := fol_of (by rw [h, hw]; decide)

theorem EP.let_ {N : Nat} {P A Q B : By} {b m w v : Tk} {l : List Tk} (hP : Lp P (b :: m :: l ++ [w])) (hb : srt b = sW tLet) (hm : srt m = sName) (hl : ∀ t ∈ l, srt t = sName) (hw : srt w = sS tEq) (hp : ∀ r, parted P r) (hA : EP N A)
    (hQ : Lp Q [v]) (hv : srt v = sW tIn) (hq : ∀ s, parted s Q) (hq2 : ∀ s r, parted (s ++ Q) r) (hB : EP N B) : EP (N + 1) (P ++ A ++ Q ++ B) := by
  obtain ⟨ta, xa, a1, a2⟩ := hA
  obtain ⟨tb, xb, b1, b2⟩ := hB
  refine ⟨_, .mk 7 0 m.s 0 [lams 0 (l.map Tk.s) xa, xb] [], ((hP.app a1 (hp _)).app hQ (hq _)).app b1 (hq2 _ _), fun En n a i r hn hr => ?_⟩
  obtain ⟨n', rfl⟩ : ∃ n', n = n' + 1 := ⟨n - 1, by omega⟩
  obtain ⟨y, hy, hyb⟩ := b2 En n' a ((P ++ A ++ Q).length + i) r (by omega) hr
  obtain ⟨x, hx, hxb⟩ := a2 En n' a (P.length + i) ((v.mv (P ++ A).length).mv i :: (tb.map (Tk.mv ((P ++ A ++ Q).length + i)) ++ r)) (by omega) (fol_word hv (by decide))
  refine ⟨.mk 7 (b.mv i).p m.s 0 [lams (m.mv i).p (l.map Tk.s) x, y] [], ?_, by simp only [Ex.bare, Ex.bares, Al.bares, lams_bare, hxb, hyb]⟩
  simp only [List.map_append, List.map_cons, List.map_nil, mv_two, List.cons_append, List.append_assoc, List.nil_append]
  show exprStep En (exprF En n') _ = _
  unfold exprStep
  rw [if_neg (by show ¬ beg (srt b) = 6; rw [hb]; decide), if_pos (by show beg (srt b) = 7; rw [hb]; decide)]
  unfold letF bindF
  rw [take_hd (t := b.mv i) hb]
  dsimp only
  rw [take_hd (t := m.mv i) hm]
  dsimp only
  have hnl := names_run (w := w.mv i) (r := ta.map (Tk.mv (P.length + i)) ++ ((v.mv (P ++ A).length).mv i :: (tb.map (Tk.mv ((P ++ A ++ Q).length + i)) ++ r))) (by show srt w ≠ _; rw [hw]; decide) (l.map (Tk.mv i)) (fun t ht => by obtain ⟨q, hq, rfl⟩ := List.mem_map.1 ht; exact hl q hq)
  unfold PS.names
  dsimp only
  rw [List.append_assoc] at hy hx hnl
  rw [hnl]
  dsimp only
  rw [take_hd (t := w.mv i) hw]
  dsimp only
  rw [hx]
  dsimp only
  rw [take_hd (t := (v.mv _).mv i) hv]
  dsimp only
  rw [hy]
  have : (l.map (Tk.mv i)).map Tk.s = l.map Tk.s := by rw [List.map_map]; rfl
  rw [this]
  rfl

theorem EP.if_ {N : Nat} {P A Q B R C : By} {b v w : Tk} (hP : Lp P [b]) (hb : srt b = sW tIf) (hp : ∀ r, parted P r) (hA : EP N A)
    (hQ : Lp Q [v]) (hv : srt v = sW tThen) (hq : ∀ s, parted s Q) (hq2 : ∀ s r, parted (s ++ Q) r) (hB : EP N B)
    (hR : Lp R [w]) (hw : srt w = sW tElse) (hr1 : ∀ s, parted s R) (hr2 : ∀ s r, parted (s ++ R) r) (hC : EP N C) : EP (N + 1) (P ++ A ++ Q ++ B ++ R ++ C) := by
  obtain ⟨ta, xa, a1, a2⟩ := hA
  obtain ⟨tb, xb, b1, b2⟩ := hB
  obtain ⟨tc, xc, c1, c2⟩ := hC
  refine ⟨_, .mk 9 0 [] 0 [xa, xb, xc] [], ((((hP.app a1 (hp _)).app hQ (hq _)).app b1 (hq2 _ _)).app hR (hr1 _)).app c1 (hr2 _ _), fun En n a i r hn hr => ?_⟩
  obtain ⟨n', rfl⟩ : ∃ n', n = n' + 1 := ⟨n - 1, by omega⟩
  obtain ⟨z, hz, hzb⟩ := c2 En n' a ((P ++ A ++ Q ++ B ++ R).length + i) r (by omega) hr
  obtain ⟨y, hy, hyb⟩ := b2 En n' a ((P ++ A ++ Q).length + i) ((w.mv (P ++ A ++ Q ++ B).length).mv i :: (tc.map (Tk.mv ((P ++ A ++ Q ++ B ++ R).length + i)) ++ r)) (by omega) (fol_word hw (by decide))
  obtain ⟨x, hx, hxb⟩ := a2 En n' a (P.length + i) ((v.mv (P ++ A).length).mv i :: (tb.map (Tk.mv ((P ++ A ++ Q).length + i)) ++ ((w.mv (P ++ A ++ Q ++ B).length).mv i :: (tc.map (Tk.mv ((P ++ A ++ Q ++ B ++ R).length + i)) ++ r)))) (by omega) (fol_word hv (by decide))
  refine ⟨.mk 9 (b.mv i).p [] 0 [x, y, z] [], ?_, by simp only [Ex.bare, Ex.bares, Al.bares, hxb, hyb, hzb]⟩
  simp only [List.map_append, List.map_cons, List.map_nil, mv_two, List.cons_append, List.append_assoc, List.nil_append] at hx hy hz ⊢
  show exprStep En (exprF En n') _ = _
  unfold exprStep
  rw [if_neg (by show ¬ beg (srt b) = 6; rw [hb]; decide), if_neg (by show ¬ beg (srt b) = 7; rw [hb]; decide), if_pos (by show beg (srt b) = 9; rw [hb]; decide)]
  unfold choiceF
  rw [take_hd (t := b.mv i) hb]
  dsimp only
  rw [hx]
  dsimp only
  rw [take_hd (t := (v.mv _).mv i) hv]
  dsimp only
  rw [hy]
  dsimp only
  rw [take_hd (t := (w.mv _).mv i) hw]
  dsimp only
  rw [hz]

theorem app_step {En : Nat} {X : PS → Ex × PS} {f : Nat} {e x : Ex} {t : Tk} {q r : List Tk} {a : Nat} (hf : (t :: q).length ≤ f) (ht : (isLeaf (beg (srt t)) || decide (beg (srt t) = 8)) = true) (hx : atomF En X ⟨t :: q, false, a⟩ = (x, ⟨r, false, a⟩)) :
    ∃ f', f = f' + 1 ∧ appL En X f e ⟨t :: q, false, a⟩ = appL En X f' (.mk 5 e.at [] 0 [e, x] []) ⟨r, false, a⟩ := by
  obtain ⟨f', rfl⟩ : ∃ f', f = f' + 1 := ⟨f - 1, by simp at hf; omega⟩
  have hs : (⟨t :: q, false, a⟩ : PS).seesAtom = true := ht
  refine ⟨f', rfl, ?_⟩
  show (if (⟨t :: q, false, a⟩ : PS).seesAtom = true then _ else _) = _
  rw [if_pos hs, hx]
theorem app_end {En : Nat} {X : PS → Ex × PS} {f : Nat} {e : Ex} {r : List Tk} {a : Nat} (hr : fol r) : appL En X f e ⟨r, false, a⟩ = (e, ⟨r, false, a⟩) := by
  cases f with
  | zero => rfl
  | succ f =>
    have hf : (⟨r, false, a⟩ : PS).seesAtom = false := hr
    unfold appL
    rw [hf, if_neg (by decide)]
theorem AP.app2 {N : Nat} {A Q B : By} (hA : AP N A) (hQ : Lp Q []) (hq : ∀ s, parted s Q) (hq2 : ∀ s r, parted (s ++ Q) r) (hB : AP N B) : EP (N + 1) (A ++ Q ++ B) := by
  obtain ⟨ta, xa, a1, ⟨t1, q1, e1, g1⟩, a2⟩ := hA
  obtain ⟨tb, xb, b1, ⟨t2, q2, e2, g2⟩, b2⟩ := hB
  refine ⟨_, .mk 5 0 [] 0 [xa, xb] [], (a1.app hQ (hq _)).app b1 (hq2 _ _), fun En n a i r hn hr => ?_⟩
  obtain ⟨n', rfl⟩ : ∃ n', n = n' + 1 := ⟨n - 1, by omega⟩
  obtain ⟨y, hy, hyb⟩ := b2 En n' a ((A ++ Q).length + i) r (by omega)
  obtain ⟨x, hx, hxb⟩ := a2 En n' a i (tb.map (Tk.mv ((A ++ Q).length + i)) ++ r) (by omega)
  refine ⟨.mk 5 x.at [] 0 [x, y] [], ?_, by simp only [Ex.bare, Ex.bares, Al.bares, hxb, hyb]⟩
  simp only [List.map_append, List.map_cons, List.map_nil, mv_two, List.cons_append, List.append_assoc, List.nil_append, List.append_nil] at hx hy ⊢
  have hnx : (⟨ta.map (Tk.mv i) ++ (tb.map (Tk.mv ((A ++ Q).length + i)) ++ r), false, a⟩ : PS).next = srt t1 := by rw [e1]; rfl
  show exprStep En (exprF En n') _ = _
  unfold exprStep
  rw [hnx]
  have h6 : beg (srt t1) ≠ 6 ∧ beg (srt t1) ≠ 7 ∧ beg (srt t1) ≠ 9 ∧ beg (srt t1) ≠ 10 := by
    unfold isLeaf at g1
    refine ⟨?_, ?_, ?_, ?_⟩ <;> (intro e; rw [e] at g1; revert g1; decide)
  rw [if_neg h6.1, if_neg h6.2.1, if_neg h6.2.2.1, if_neg h6.2.2.2]
  unfold appF
  rw [hx]
  dsimp only
  subst e2
  simp only [List.map_cons, List.cons_append] at hy ⊢
  obtain ⟨f', _, hs⟩ := app_step (En := En) (e := x) (Nat.le_refl _) (show (isLeaf (beg (srt (t2.mv ((A ++ Q).length + i)))) || decide (beg (srt (t2.mv ((A ++ Q).length + i))) = 8)) = true from g2) hy
  rw [hs, app_end hr]
theorem AP.app3 {N : Nat} {A Q B C : By} (hA : AP N A) (hQ : Lp Q []) (hq : ∀ s, parted s Q) (hq2 : ∀ s r, parted (s ++ Q) r) (hB : AP N B) (hC : AP N C) : EP (N + 1) (A ++ Q ++ B ++ Q ++ C) := by
  obtain ⟨ta, xa, a1, ⟨t1, q1, e1, g1⟩, a2⟩ := hA
  obtain ⟨tb, xb, b1, ⟨t2, q2, e2, g2⟩, b2⟩ := hB
  obtain ⟨tc, xc, c1, ⟨t3, q3, e3, g3⟩, c2⟩ := hC
  refine ⟨_, .mk 5 0 [] 0 [.mk 5 0 [] 0 [xa, xb] [], xc] [], (((a1.app hQ (hq _)).app b1 (hq2 _ _)).app hQ (hq _)).app c1 (hq2 _ _), fun En n a i r hn hr => ?_⟩
  obtain ⟨n', rfl⟩ : ∃ n', n = n' + 1 := ⟨n - 1, by omega⟩
  obtain ⟨z, hz, hzb⟩ := c2 En n' a ((A ++ Q ++ B ++ Q).length + i) r (by omega)
  obtain ⟨y, hy, hyb⟩ := b2 En n' a ((A ++ Q).length + i) (tc.map (Tk.mv ((A ++ Q ++ B ++ Q).length + i)) ++ r) (by omega)
  obtain ⟨x, hx, hxb⟩ := a2 En n' a i (tb.map (Tk.mv ((A ++ Q).length + i)) ++ (tc.map (Tk.mv ((A ++ Q ++ B ++ Q).length + i)) ++ r)) (by omega)
  refine ⟨.mk 5 x.at [] 0 [.mk 5 x.at [] 0 [x, y] [], z] [], ?_, by simp only [Ex.bare, Ex.bares, Al.bares, hxb, hyb, hzb]⟩
  simp only [List.map_append, List.map_cons, List.map_nil, mv_two, List.cons_append, List.append_assoc, List.nil_append, List.append_nil] at hx hy hz ⊢
  have hnx : (⟨ta.map (Tk.mv i) ++ (tb.map (Tk.mv ((A ++ Q).length + i)) ++ (tc.map (Tk.mv ((A ++ (Q ++ (B ++ Q))).length + i)) ++ r)), false, a⟩ : PS).next = srt t1 := by rw [e1]; rfl
  show exprStep En (exprF En n') _ = _
  unfold exprStep
  rw [hnx]
  have h6 : beg (srt t1) ≠ 6 ∧ beg (srt t1) ≠ 7 ∧ beg (srt t1) ≠ 9 ∧ beg (srt t1) ≠ 10 := by
    unfold isLeaf at g1
    refine ⟨?_, ?_, ?_, ?_⟩ <;> (intro e; rw [e] at g1; revert g1; decide)
  rw [if_neg h6.1, if_neg h6.2.1, if_neg h6.2.2.1, if_neg h6.2.2.2]
  unfold appF
  rw [hx]
  dsimp only
  subst e2
  subst e3
  simp only [List.map_cons, List.cons_append] at hy hz ⊢
  obtain ⟨f', hf, hs⟩ := app_step (En := En) (e := x) (Nat.le_refl _) (show (isLeaf (beg (srt (t2.mv ((A ++ Q).length + i)))) || decide (beg (srt (t2.mv ((A ++ Q).length + i))) = 8)) = true from g2) hy
  rw [hs]
  have hl3 : (t3.mv ((A ++ (Q ++ (B ++ Q))).length + i) :: (q3.map (Tk.mv ((A ++ (Q ++ (B ++ Q))).length + i)) ++ r)).length ≤ f' := by
    simp only [List.length_cons, List.length_append, List.length_map] at hf ⊢
    omega
  obtain ⟨f2, _, hs2⟩ := app_step (En := En) (e := .mk 5 x.at [] 0 [x, y] []) hl3 (show (isLeaf (beg (srt (t3.mv ((A ++ (Q ++ (B ++ Q))).length + i)))) || decide (beg (srt (t3.mv ((A ++ (Q ++ (B ++ Q))).length + i))) = 8)) = true from g3) hz
  rw [hs2, app_end hr]
  rfl

theorem rows_end {A : Type} {sep : Srt} {most : Nat} {one : PS → A × PS} {f : Nat} {l : List A} {t : Tk} {r : List Tk} {a : Nat} (h : srt t ≠ sep) : rowsL sep most one f l ⟨t :: r, false, a⟩ = (l, ⟨t :: r, false, a⟩) :=
  rowsL_end (fun q => h (of_decide_eq_true q.2))
theorem rows_more {A : Type} {sep : Srt} {most : Nat} {one : PS → A × PS} {f : Nat} {l : List A} {t : Tk} {q r : List Tk} {a : Nat} {x : A} (hf : (t :: q).length ≤ f) (hm : l.length < most) (h : srt t = sep) (hx : one ⟨q, false, a⟩ = (x, ⟨r, false, a⟩)) :
    ∃ f', rowsL sep most one f l ⟨t :: q, false, a⟩ = rowsL sep most one f' (l ++ [x]) ⟨r, false, a⟩ := by
  obtain ⟨f', rfl⟩ : ∃ f', f = f' + 1 := ⟨f - 1, by simp at hf; omega⟩
  have hs : (⟨t :: q, false, a⟩ : PS).sees sep = true := decide_eq_true h
  have ht : (⟨t :: q, false, a⟩ : PS).tail = ⟨q, false, a⟩ := rfl
  refine ⟨f', ?_⟩
  rw [rowsL, if_pos ⟨hm, hs⟩, ht, hx]
theorem EP.brack {N : Nat} {P A R : By} {b v : Tk} (hP : Lp P [b]) (hb : srt b = sS tLpar) (hp : ∀ r, parted P r) (hA : EP N A) (hR : Lp R [v]) (hv : srt v = sS tRpar) (hr : ∀ s, parted s R) : AP N (P ++ A ++ R) := by
  obtain ⟨ta, xa, a1, a2⟩ := hA
  refine ⟨_, xa, (hP.app a1 (hp _)).app hR (hr _), ⟨b, _, rfl, by rw [hb]; decide⟩, fun En n a i r hn => ?_⟩
  obtain ⟨x, hx, hxb⟩ := a2 En n a (P.length + i) ((v.mv (P ++ A).length).mv i :: r) hn (fol_sign hv (by decide))
  refine ⟨x, ?_, hxb⟩
  simp only [List.map_append, List.map_cons, List.map_nil, mv_two, List.cons_append, List.append_assoc, List.nil_append] at hx ⊢
  unfold atomF
  rw [if_neg (by show ¬ isLeaf (beg (srt b)) = true; rw [hb]; decide), if_pos (by show beg (srt b) = 8; rw [hb]; decide)]
  unfold tupleF bracketF rowsF
  rw [take_hd (t := b.mv i) hb]
  dsimp only
  rw [hx]
  dsimp only
  rw [rows_end (by show srt v ≠ _; rw [hv]; decide)]
  dsimp only
  rw [take_hd (t := (v.mv _).mv i) hv]
  rfl
theorem EP.tuple {N : Nat} {P A Q B R : By} {b c v : Tk} (hP : Lp P [b]) (hb : srt b = sS tLpar) (hp : ∀ r, parted P r) (hA : EP N A) (hQ : Lp Q [c]) (hc : srt c = sS tComma) (hq : ∀ s, parted s Q) (hq2 : ∀ s r, parted (s ++ Q) r) (hB : EP N B) (hR : Lp R [v]) (hv : srt v = sS tRpar) (hr : ∀ s, parted s R) : AP N (P ++ A ++ Q ++ B ++ R) := by
  obtain ⟨ta, xa, a1, a2⟩ := hA
  obtain ⟨tb, xb, b1, b2⟩ := hB
  refine ⟨_, .mk 8 0 [] 0 [xa, xb] [], (((hP.app a1 (hp _)).app hQ (hq _)).app b1 (hq2 _ _)).app hR (hr _), ⟨b, _, rfl, by rw [hb]; decide⟩, fun En n a i r hn => ?_⟩
  obtain ⟨y, hy, hyb⟩ := b2 En n a ((P ++ A ++ Q).length + i) ((v.mv (P ++ A ++ Q ++ B).length).mv i :: r) hn (fol_sign hv (by decide))
  obtain ⟨x, hx, hxb⟩ := a2 En n a (P.length + i) ((c.mv (P ++ A).length).mv i :: (tb.map (Tk.mv ((P ++ A ++ Q).length + i)) ++ ((v.mv (P ++ A ++ Q ++ B).length).mv i :: r))) hn (fol_sign hc (by decide))
  refine ⟨.mk 8 (b.mv i).p [] 0 [x, y] [], ?_, by simp only [Ex.bare, Ex.bares, Al.bares, hxb, hyb]⟩
  simp only [List.map_append, List.map_cons, List.map_nil, mv_two, List.cons_append, List.append_assoc, List.nil_append] at hx hy ⊢
  unfold atomF
  rw [if_neg (by show ¬ isLeaf (beg (srt b)) = true; rw [hb]; decide), if_pos (by show beg (srt b) = 8; rw [hb]; decide)]
  unfold tupleF bracketF rowsF
  rw [take_hd (t := b.mv i) hb]
  dsimp only
  rw [hx]
  dsimp only
  obtain ⟨f', hs⟩ := rows_more (sep := sS tComma) (most := maxTup) (one := exprF En n) (l := [x]) (Nat.le_refl _) (by show 1 < maxTup; decide) (show srt ((c.mv (P ++ A).length).mv i) = sS tComma from hc) hy
  rw [hs, rows_end (by show srt v ≠ _; rw [hv]; decide)]
  dsimp only
  rw [take_hd (t := (v.mv _).mv i) hv]
  rfl
theorem AP.leaf {s : By} {t : Tk} (hs : Lp s [t]) (ht : isLeaf (beg (srt t)) = true) : AP 0 s := by
  refine ⟨_, (leafE (beg (srt t)) t).bare, hs, ⟨t, [], rfl, by rw [ht]; rfl⟩, fun En n a i r hn => ⟨leafE (beg (srt t)) (t.mv i), ?_, ?_⟩⟩
  · unfold atomF
    rw [if_pos (by show isLeaf (beg (srt t)) = true; exact ht)]
    rfl
  · unfold leafE
    split
    · rfl
    · rfl

theorem alt_run {En : Nat} {X : PS → Ex × PS} {c w : Tk} {l q r : List Tk} {a : Nat} {x : Ex} (hc : srt c = sCon) (hl : ∀ t ∈ l, srt t = sName) (hw : srt w = sS tArrow) (hx : X ⟨q, false, a⟩ = (x, ⟨r, false, a⟩)) : altF En X ⟨c :: (l ++ w :: q), false, a⟩ = (.mk c.p c.s (l.map Tk.s) x, ⟨r, false, a⟩) := by
  unfold altF
  rw [take_hd hc]
  dsimp only
  unfold PS.names
  dsimp only
  rw [names_run (by rw [hw]; decide) l hl]
  dsimp only
  rw [take_hd hw]
  dsimp only
  rw [hx]
theorem EP.case1 {N : Nat} {P A Q K B R : By} {b o k c w v : Tk} {l : List Tk} (hP : Lp P [b]) (hb : srt b = sW tCase) (hp : ∀ r, parted P r) (hA : EP N A) (hQ : Lp Q [o, k]) (ho : srt o = sW tOf) (hk : srt k = sS tLcur) (hq : ∀ s, parted s Q) (hq2 : ∀ s r, parted (s ++ Q) r)
    (hK : Lp K (c :: l ++ [w])) (hc : srt c = sCon) (hl : ∀ t ∈ l, srt t = sName) (hw : srt w = sS tArrow) (hK2 : ∀ s r, parted (s ++ K) r) (hB : EP N B) (hR : Lp R [v]) (hv : srt v = sS tRcur) (hr : ∀ s, parted s R) : EP (N + 1) (P ++ A ++ Q ++ K ++ B ++ R) := by
  obtain ⟨ta, xa, a1, a2⟩ := hA
  obtain ⟨tb, xb, b1, b2⟩ := hB
  refine ⟨_, .mk 10 0 [] 0 [xa] [.mk 0 c.s (l.map Tk.s) xb], ((((hP.app a1 (hp _)).app hQ (hq _)).app hK (hq2 _ _)).app b1 (hK2 _ _)).app hR (hr _), fun En n a i r hn hf => ?_⟩
  obtain ⟨n', rfl⟩ : ∃ n', n = n' + 1 := ⟨n - 1, by omega⟩
  have lm : ∀ j : Nat, (l.map (Tk.mv j)).map Tk.s = l.map Tk.s := fun j => by rw [List.map_map]; rfl
  obtain ⟨y, hy, hyb⟩ := b2 En n' a ((P ++ A ++ Q ++ K).length + i) ((v.mv (P ++ A ++ Q ++ K ++ B).length).mv i :: r) (by omega) (fol_sign hv (by decide))
  obtain ⟨x, hx, hxb⟩ := a2 En n' a (P.length + i) ((o.mv (P ++ A).length).mv i :: (k.mv (P ++ A).length).mv i :: ((c.mv (P ++ A ++ Q).length).mv i :: (l.map (Tk.mv ((P ++ A ++ Q).length + i)) ++ (w.mv (P ++ A ++ Q).length).mv i :: (tb.map (Tk.mv ((P ++ A ++ Q ++ K).length + i)) ++ ((v.mv (P ++ A ++ Q ++ K ++ B).length).mv i :: r))))) (by omega) (fol_word ho (by decide))
  have halt := alt_run (En := En) (X := exprF En n') (c := (c.mv (P ++ A ++ Q).length).mv i) (w := (w.mv (P ++ A ++ Q).length).mv i) (l := l.map (Tk.mv ((P ++ A ++ Q).length + i))) hc (fun t ht => by obtain ⟨q, hq, rfl⟩ := List.mem_map.1 ht; exact hl q hq) hw hy
  rw [lm] at halt
  refine ⟨.mk 10 (b.mv i).p [] 0 [x] [.mk ((c.mv (P ++ A ++ Q).length).mv i).p c.s (l.map Tk.s) y], ?_, by simp only [Ex.bare, Ex.bares, Al.bares, Al.bare, hxb, hyb]⟩
  simp only [List.map_append, List.map_cons, List.map_nil, mv_two, List.cons_append, List.append_assoc, List.nil_append] at hx halt ⊢
  show exprStep En (exprF En n') _ = _
  unfold exprStep
  rw [if_neg (by show ¬ beg (srt b) = 6; rw [hb]; decide), if_neg (by show ¬ beg (srt b) = 7; rw [hb]; decide), if_neg (by show ¬ beg (srt b) = 9; rw [hb]; decide), if_pos (by show beg (srt b) = 10; rw [hb]; decide)]
  unfold casesF
  rw [take_hd (t := b.mv i) hb]
  dsimp only
  rw [hx]
  dsimp only
  rw [take_hd (t := (o.mv _).mv i) ho]
  dsimp only
  rw [take_hd (t := (k.mv _).mv i) hk]
  dsimp only
  unfold rowsF
  rw [halt]
  dsimp only
  rw [rows_end (by show srt v ≠ _; rw [hv]; decide)]
  dsimp only
  rw [take_hd (t := (v.mv _).mv i) hv]
  rfl

theorem EP.case2 {N : Nat} {P A Q K B S C R : By} {b o k c w z c2 w2 v : Tk} {l : List Tk} (hP : Lp P [b]) (hb : srt b = sW tCase) (hp : ∀ r, parted P r) (hA : EP N A) (hQ : Lp Q [o, k]) (ho : srt o = sW tOf) (hk : srt k = sS tLcur) (hq : ∀ s, parted s Q) (hq2 : ∀ s r, parted (s ++ Q) r)
    (hK : Lp K (c :: l ++ [w])) (hc : srt c = sCon) (hl : ∀ t ∈ l, srt t = sName) (hw : srt w = sS tArrow) (hK2 : ∀ s r, parted (s ++ K) r) (hB : EP N B)
    (hS : Lp S [z, c2, w2]) (hz : srt z = sS tSemi) (hc2 : srt c2 = sCon) (hw2 : srt w2 = sS tArrow) (hs1 : ∀ s, parted s S) (hs2 : ∀ s r, parted (s ++ S) r) (hC : EP N C) (hR : Lp R [v]) (hv : srt v = sS tRcur) (hr : ∀ s, parted s R) : EP (N + 1) (P ++ A ++ Q ++ K ++ B ++ S ++ C ++ R) := by
  obtain ⟨ta, xa, a1, a2⟩ := hA
  obtain ⟨tb, xb, b1, b2⟩ := hB
  obtain ⟨tc, xc, c1, c3⟩ := hC
  refine ⟨_, .mk 10 0 [] 0 [xa] [.mk 0 c.s (l.map Tk.s) xb, .mk 0 c2.s [] xc], ((((((hP.app a1 (hp _)).app hQ (hq _)).app hK (hq2 _ _)).app b1 (hK2 _ _)).app hS (hs1 _)).app c1 (hs2 _ _)).app hR (hr _), fun En n a i r hn hf => ?_⟩
  obtain ⟨n', rfl⟩ : ∃ n', n = n' + 1 := ⟨n - 1, by omega⟩
  have lm : ∀ j : Nat, (l.map (Tk.mv j)).map Tk.s = l.map Tk.s := fun j => by rw [List.map_map]; rfl
  obtain ⟨u, hu, hub⟩ := c3 En n' a ((P ++ A ++ Q ++ K ++ B ++ S).length + i) ((v.mv (P ++ A ++ Q ++ K ++ B ++ S ++ C).length).mv i :: r) (by omega) (fol_sign hv (by decide))
  obtain ⟨y, hy, hyb⟩ := b2 En n' a ((P ++ A ++ Q ++ K).length + i) ((z.mv (P ++ A ++ Q ++ K ++ B).length).mv i :: (c2.mv (P ++ A ++ Q ++ K ++ B).length).mv i :: (w2.mv (P ++ A ++ Q ++ K ++ B).length).mv i :: (tc.map (Tk.mv ((P ++ A ++ Q ++ K ++ B ++ S).length + i)) ++ ((v.mv (P ++ A ++ Q ++ K ++ B ++ S ++ C).length).mv i :: r))) (by omega) (fol_sign hz (by decide))
  obtain ⟨x, hx, hxb⟩ := a2 En n' a (P.length + i) ((o.mv (P ++ A).length).mv i :: (k.mv (P ++ A).length).mv i :: ((c.mv (P ++ A ++ Q).length).mv i :: (l.map (Tk.mv ((P ++ A ++ Q).length + i)) ++ (w.mv (P ++ A ++ Q).length).mv i :: (tb.map (Tk.mv ((P ++ A ++ Q ++ K).length + i)) ++ ((z.mv (P ++ A ++ Q ++ K ++ B).length).mv i :: (c2.mv (P ++ A ++ Q ++ K ++ B).length).mv i :: (w2.mv (P ++ A ++ Q ++ K ++ B).length).mv i :: (tc.map (Tk.mv ((P ++ A ++ Q ++ K ++ B ++ S).length + i)) ++ ((v.mv (P ++ A ++ Q ++ K ++ B ++ S ++ C).length).mv i :: r))))))) (by omega) (fol_word ho (by decide))
  have halt := alt_run (En := En) (X := exprF En n') (c := (c.mv (P ++ A ++ Q).length).mv i) (w := (w.mv (P ++ A ++ Q).length).mv i) (l := l.map (Tk.mv ((P ++ A ++ Q).length + i))) hc (fun t ht => by obtain ⟨q, hq, rfl⟩ := List.mem_map.1 ht; exact hl q hq) hw hy
  rw [lm] at halt
  have halt2 := alt_run (En := En) (X := exprF En n') (c := (c2.mv (P ++ A ++ Q ++ K ++ B).length).mv i) (w := (w2.mv (P ++ A ++ Q ++ K ++ B).length).mv i) (l := []) hc2 (fun t ht => by cases ht) hw2 hu
  refine ⟨.mk 10 (b.mv i).p [] 0 [x] [.mk ((c.mv (P ++ A ++ Q).length).mv i).p c.s (l.map Tk.s) y, .mk ((c2.mv (P ++ A ++ Q ++ K ++ B).length).mv i).p c2.s [] u], ?_, by simp only [Ex.bare, Ex.bares, Al.bares, Al.bare, hxb, hyb, hub]⟩
  simp only [List.map_append, List.map_cons, List.map_nil, mv_two, List.cons_append, List.append_assoc, List.nil_append] at hx halt halt2 ⊢
  show exprStep En (exprF En n') _ = _
  unfold exprStep
  rw [if_neg (by show ¬ beg (srt b) = 6; rw [hb]; decide), if_neg (by show ¬ beg (srt b) = 7; rw [hb]; decide), if_neg (by show ¬ beg (srt b) = 9; rw [hb]; decide), if_pos (by show beg (srt b) = 10; rw [hb]; decide)]
  unfold casesF
  rw [take_hd (t := b.mv i) hb]
  dsimp only
  rw [hx]
  dsimp only
  rw [take_hd (t := (o.mv _).mv i) ho]
  dsimp only
  rw [take_hd (t := (k.mv _).mv i) hk]
  dsimp only
  unfold rowsF
  rw [halt]
  dsimp only
  obtain ⟨f', hrm⟩ := rows_more (sep := sS tSemi) (most := many) (one := altF En (exprF En n')) (l := [Al.mk ((c.mv (P ++ (A ++ Q)).length).mv i).p c.s (l.map Tk.s) y]) (t := (z.mv (P ++ (A ++ (Q ++ (K ++ B)))).length).mv i) (Nat.le_refl _) (by show 1 < many; decide) hz halt2
  erw [hrm]
  rw [rows_end (by show srt v ≠ _; rw [hv]; decide)]
  dsimp only
  rw [take_hd (t := (v.mv _).mv i) hv]
  rfl

end Go.Proofs.Ytgkeblpjmfdhkaa

namespace Go.Proofs.Ytgkeblpjmfdhkaa
set_option linter.unusedVariables false
set_option linter.unusedSimpArgs false

theorem ap_nm (j : Nat) (hj : j < 5) : AP 0 (nm5.getD j []) := by
  have h : j = 0 ∨ j = 1 ∨ j = 2 ∨ j = 3 ∨ j = 4 := by omega
  rcases h with rfl | rfl | rfl | rfl | rfl
  · exact AP.leaf (s := [120]) (t := ⟨1, 0, [120], 0⟩) (Lp.of rfl (by decide)) (by decide)
  · exact AP.leaf (s := [121]) (t := ⟨1, 0, [121], 0⟩) (Lp.of rfl (by decide)) (by decide)
  · exact AP.leaf (s := [102]) (t := ⟨1, 0, [102], 0⟩) (Lp.of rfl (by decide)) (by decide)
  · exact AP.leaf (s := [103]) (t := ⟨1, 0, [103], 0⟩) (Lp.of rfl (by decide)) (by decide)
  · exact AP.leaf (s := [105, 100]) (t := ⟨1, 0, [105, 100], 0⟩) (Lp.of rfl (by decide)) (by decide)
theorem ap_cn (j : Nat) (hj : j < 5) : AP 0 (cn5.getD j []) := by
  have h : j = 0 ∨ j = 1 ∨ j = 2 ∨ j = 3 ∨ j = 4 := by omega
  rcases h with rfl | rfl | rfl | rfl | rfl
  · exact AP.leaf (s := [78, 105, 108]) (t := ⟨2, 0, [78, 105, 108], 0⟩) (Lp.of rfl (by decide)) (by decide)
  · exact AP.leaf (s := [67, 111, 110, 115]) (t := ⟨2, 0, [67, 111, 110, 115], 0⟩) (Lp.of rfl (by decide)) (by decide)
  · exact AP.leaf (s := [83, 111, 109, 101]) (t := ⟨2, 0, [83, 111, 109, 101], 0⟩) (Lp.of rfl (by decide)) (by decide)
  · exact AP.leaf (s := [78, 111, 110, 101]) (t := ⟨2, 0, [78, 111, 110, 101], 0⟩) (Lp.of rfl (by decide)) (by decide)
  · exact AP.leaf (s := [79, 100, 100]) (t := ⟨2, 0, [79, 100, 100], 0⟩) (Lp.of rfl (by decide)) (by decide)
theorem ap_bl (j : Nat) (hj : j < 2) : AP 0 (bl2.getD j []) := by
  have h : j = 0 ∨ j = 1 := by omega
  rcases h with rfl | rfl
  · exact AP.leaf (s := [116, 114, 117, 101]) (t := ⟨4, 0, [116, 114, 117, 101], 0⟩) (Lp.of rfl (by decide)) (by decide)
  · exact AP.leaf (s := [102, 97, 108, 115, 101]) (t := ⟨4, 0, [102, 97, 108, 115, 101], 0⟩) (Lp.of rfl (by decide)) (by decide)
theorem ap_x : AP 0 [120] := AP.leaf (s := [120]) (t := ⟨1, 0, [120], 0⟩) (Lp.of rfl (by decide)) (by decide)
def digOk (n : Nat) : Bool := match lexL (digL n) 0 with
  | Sum.inr [t] => decide (t.k = 3) && decide (t.p = 0) && decide (t.s = []) && (List.range (digL n).length).all (fun j => decide ((digL n)[j]? = some (45 : UInt8) → (digL n)[j + 1]? = some (62 : UInt8)))
  | _ => false
theorem dig_all : (List.range 256).all digOk = true := by decide +kernel
theorem ap_dig (n : Nat) (hn : n ≤ 255) : AP 0 (digL n) := by
  have h := List.all_eq_true.1 dig_all n (List.mem_range.2 (by omega))
  unfold digOk at h
  split at h
  · rename_i t ht
    simp only [Bool.and_eq_true, decide_eq_true_eq] at h
    obtain ⟨⟨⟨h1, h2⟩, h3⟩, h4⟩ := h
    refine AP.leaf (t := t) (Lp.of ht h4) ?_
    obtain ⟨k, p, s, m⟩ := t
    dsimp only at h1 h3
    subst h1 h3
    rfl
  · cases h
theorem pc_lam (i j : Nat) (hi : i < 3) (hj : j < 3) : ∃ b m w l, Lp ([92] ++ lmA.getD i [] ++ lmB.getD j [] ++ [32, 45, 62, 32]) (b :: m :: l ++ [w]) ∧ srt b = sS tBack ∧ srt m = sName ∧ (∀ t ∈ l, srt t = sName) ∧ srt w = sS tArrow ∧ ∀ r, parted ([92] ++ lmA.getD i [] ++ lmB.getD j [] ++ [32, 45, 62, 32]) r := by
  have h1 : i = 0 ∨ i = 1 ∨ i = 2 := by omega
  have h2 : j = 0 ∨ j = 1 ∨ j = 2 := by omega
  rcases h1 with rfl | rfl | rfl <;> rcases h2 with rfl | rfl | rfl
  · exact ⟨⟨5, 0, [92], 0⟩, ⟨1, 1, [120], 0⟩, ⟨5, 3, [45, 62], 0⟩, [], Lp.of rfl (by decide), rfl, rfl, by decide, rfl, fun r => parted_l (c := 32) rfl rfl⟩
  · exact ⟨⟨5, 0, [92], 0⟩, ⟨1, 1, [120], 0⟩, ⟨5, 5, [45, 62], 0⟩, [⟨1, 3, [103], 0⟩], Lp.of rfl (by decide), rfl, rfl, by decide, rfl, fun r => parted_l (c := 32) rfl rfl⟩
  · exact ⟨⟨5, 0, [92], 0⟩, ⟨1, 1, [120], 0⟩, ⟨5, 7, [45, 62], 0⟩, [⟨1, 3, [120], 0⟩, ⟨1, 5, [121], 0⟩], Lp.of rfl (by decide), rfl, rfl, by decide, rfl, fun r => parted_l (c := 32) rfl rfl⟩
  · exact ⟨⟨5, 0, [92], 0⟩, ⟨1, 1, [121], 0⟩, ⟨5, 3, [45, 62], 0⟩, [], Lp.of rfl (by decide), rfl, rfl, by decide, rfl, fun r => parted_l (c := 32) rfl rfl⟩
  · exact ⟨⟨5, 0, [92], 0⟩, ⟨1, 1, [121], 0⟩, ⟨5, 5, [45, 62], 0⟩, [⟨1, 3, [103], 0⟩], Lp.of rfl (by decide), rfl, rfl, by decide, rfl, fun r => parted_l (c := 32) rfl rfl⟩
  · exact ⟨⟨5, 0, [92], 0⟩, ⟨1, 1, [121], 0⟩, ⟨5, 7, [45, 62], 0⟩, [⟨1, 3, [120], 0⟩, ⟨1, 5, [121], 0⟩], Lp.of rfl (by decide), rfl, rfl, by decide, rfl, fun r => parted_l (c := 32) rfl rfl⟩
  · exact ⟨⟨5, 0, [92], 0⟩, ⟨1, 1, [102], 0⟩, ⟨5, 3, [45, 62], 0⟩, [], Lp.of rfl (by decide), rfl, rfl, by decide, rfl, fun r => parted_l (c := 32) rfl rfl⟩
  · exact ⟨⟨5, 0, [92], 0⟩, ⟨1, 1, [102], 0⟩, ⟨5, 5, [45, 62], 0⟩, [⟨1, 3, [103], 0⟩], Lp.of rfl (by decide), rfl, rfl, by decide, rfl, fun r => parted_l (c := 32) rfl rfl⟩
  · exact ⟨⟨5, 0, [92], 0⟩, ⟨1, 1, [102], 0⟩, ⟨5, 7, [45, 62], 0⟩, [⟨1, 3, [120], 0⟩, ⟨1, 5, [121], 0⟩], Lp.of rfl (by decide), rfl, rfl, by decide, rfl, fun r => parted_l (c := 32) rfl rfl⟩
theorem pc_let (i : Nat) (hi : i < 3) : ∃ b m w l, Lp ([108, 101, 116, 32] ++ ltA.getD i [] ++ [32, 61, 32]) (b :: m :: l ++ [w]) ∧ srt b = sW tLet ∧ srt m = sName ∧ (∀ t ∈ l, srt t = sName) ∧ srt w = sS tEq ∧ ∀ r, parted ([108, 101, 116, 32] ++ ltA.getD i [] ++ [32, 61, 32]) r := by
  have h1 : i = 0 ∨ i = 1 ∨ i = 2 := by omega
  rcases h1 with rfl | rfl | rfl
  · exact ⟨⟨4, 0, [108, 101, 116], 0⟩, ⟨1, 4, [105, 100], 0⟩, ⟨5, 9, [61], 0⟩, [⟨1, 7, [120], 0⟩], Lp.of rfl (by decide), rfl, rfl, by decide, rfl, fun r => parted_l (c := 32) rfl rfl⟩
  · exact ⟨⟨4, 0, [108, 101, 116], 0⟩, ⟨1, 4, [121], 0⟩, ⟨5, 6, [61], 0⟩, [], Lp.of rfl (by decide), rfl, rfl, by decide, rfl, fun r => parted_l (c := 32) rfl rfl⟩
  · exact ⟨⟨4, 0, [108, 101, 116], 0⟩, ⟨1, 4, [102], 0⟩, ⟨5, 10, [61], 0⟩, [⟨1, 6, [120], 0⟩, ⟨1, 8, [121], 0⟩], Lp.of rfl (by decide), rfl, rfl, by decide, rfl, fun r => parted_l (c := 32) rfl rfl⟩
theorem parted_end (s Q r : List UInt8) {c : UInt8} (h : Q.getLast? = some c) (hc : resN c.toNat = false) : parted (s ++ Q) r := by
  refine parted_l (c := c) ?_ hc
  rw [List.getLast?_append, h]; rfl
theorem pc_alt (i : Nat) (hi : i < 3) : ∃ c w l, Lp (caA.getD i []) (c :: l ++ [w]) ∧ srt c = sCon ∧ (∀ t ∈ l, srt t = sName) ∧ srt w = sS tArrow ∧ ∀ s r, parted (s ++ caA.getD i []) r := by
  have h1 : i = 0 ∨ i = 1 ∨ i = 2 := by omega
  rcases h1 with rfl | rfl | rfl
  · exact ⟨⟨2, 0, [67, 111, 110, 115], 0⟩, ⟨5, 9, [45, 62], 0⟩, [⟨1, 5, [120], 0⟩, ⟨1, 7, [121], 0⟩], Lp.of rfl (by decide), rfl, by decide, rfl, fun s r => parted_end s _ r (c := 32) rfl rfl⟩
  · exact ⟨⟨2, 0, [83, 111, 109, 101], 0⟩, ⟨5, 7, [45, 62], 0⟩, [⟨1, 5, [120], 0⟩], Lp.of rfl (by decide), rfl, by decide, rfl, fun s r => parted_end s _ r (c := 32) rfl rfl⟩
  · exact ⟨⟨2, 0, [78, 105, 108], 0⟩, ⟨5, 4, [45, 62], 0⟩, [], Lp.of rfl (by decide), rfl, by decide, rfl, fun s r => parted_end s _ r (c := 32) rfl rfl⟩

theorem ep_y : EP 1 [121] := (AP.leaf (s := [121]) (t := ⟨1, 0, [121], 0⟩) (Lp.of rfl (by decide)) (by decide)).ep
theorem ep_fx : EP 1 [102, 32, 120] := AP.app2 (A := [102]) (Q := [32]) (B := [120]) (AP.leaf (t := ⟨1, 0, [102], 0⟩) (Lp.of rfl (by decide)) (by decide)) (Lp.of rfl (by decide)) (fun s => parted_r rfl) (fun s r => parted_end s _ r (c := 32) rfl rfl) ap_x

/-- An atom by numbers. -/
theorem atomS_ap {d : Nat} {E A : List Nat → By} (ns : List Nat) (hx : ∀ x ∈ ns, x ≤ 255) (hE : ∀ ms, (∀ x ∈ ms, x ∈ ns) → EP (d + 1) (E ms)) (hA : ∀ ms, (∀ x ∈ ms, x ∈ ns) → AP d (A ms)) : AP (d + 1) (atomS E A ns) := by
  cases ns with
  | nil => exact ap_x.mono (by omega)
  | cons n r =>
    have h1 := hE r fun x h => List.mem_cons_of_mem _ h
    have h2 := hA (halfL (n :: r)) fun x h => List.mem_of_mem_drop h
    rw [atomS]
    split
    · exact (ap_nm _ (Nat.mod_lt _ (by omega))).mono (by omega)
    · split
      · exact (ap_cn _ (Nat.mod_lt _ (by omega))).mono (by omega)
      · split
        · exact (ap_dig n (hx n (by simp))).mono (by omega)
        · split
          · exact (ap_bl _ (Nat.mod_lt _ (by omega))).mono (by omega)
          · split
            · exact EP.tuple (P := [40]) (Q := [44, 32]) (R := [41]) (b := ⟨5, 0, [40], 0⟩) (c := ⟨5, 0, [44], 0⟩) (v := ⟨5, 0, [41], 0⟩) (Lp.of rfl (by decide)) rfl (fun r => parted_l (c := 40) rfl rfl) h1 (Lp.of rfl (by decide)) rfl (fun s => parted_r rfl) (fun s r => parted_end s _ r (c := 32) rfl rfl) h2.ep (Lp.of rfl (by decide)) rfl (fun s => parted_r rfl)
            · exact EP.brack (P := [40]) (R := [41]) (b := ⟨5, 0, [40], 0⟩) (v := ⟨5, 0, [41], 0⟩) (Lp.of rfl (by decide)) rfl (fun r => parted_l (c := 40) rfl rfl) h1 (Lp.of rfl (by decide)) rfl (fun s => parted_r rfl)
/-- An expression by numbers. -/
theorem exprS_ep {d : Nat} {E A A1 : List Nat → By} (ns : List Nat) (hx : ∀ x ∈ ns, x ≤ 255) (hE : ∀ ms, (∀ x ∈ ms, x ∈ ns) → EP (d + 1) (E ms)) (hA : ∀ ms, (∀ x ∈ ms, x ∈ ns) → AP d (A ms)) (h1 : AP (d + 1) (A1 ns)) : EP (d + 2) (exprS E A A1 ns) := by
  cases ns with
  | nil => exact (ap_x.ep).mono (by omega)
  | cons n r =>
    have g1 := hE r fun x h => List.mem_cons_of_mem _ h
    have g2 := hE (halfL (n :: r)) fun x h => List.mem_of_mem_drop h
    have g3 := hA r fun x h => List.mem_cons_of_mem _ h
    have g4 := hA (halfL (n :: r)) fun x h => List.mem_of_mem_drop h
    have g5 := hA (halfL r) fun x h => List.mem_cons_of_mem _ (List.mem_of_mem_drop h)
    rw [exprS]
    split
    · obtain ⟨b, m, w, l, p1, p2, p3, p4, p5, p6⟩ := pc_lam (n / 10 % 3) (n / 30 % 3) (Nat.mod_lt _ (by omega)) (Nat.mod_lt _ (by omega))
      exact EP.lam p1 p2 p3 p4 p5 p6 g1
    · split
      · obtain ⟨b, m, w, l, p1, p2, p3, p4, p5, p6⟩ := pc_let (n / 10 % 3) (Nat.mod_lt _ (by omega))
        exact EP.let_ (Q := [32, 105, 110, 32]) (v := ⟨4, 1, [105, 110], 0⟩) p1 p2 p3 p4 p5 p6 g1 (Lp.of rfl (by decide)) rfl (fun s => parted_r rfl) (fun s r => parted_end s _ r (c := 32) rfl rfl) g2
      · split
        · exact EP.if_ (P := [105, 102, 32]) (Q := [32, 116, 104, 101, 110, 32]) (R := [32, 101, 108, 115, 101, 32]) (b := ⟨4, 0, [105, 102], 0⟩) (v := ⟨4, 1, [116, 104, 101, 110], 0⟩) (w := ⟨4, 1, [101, 108, 115, 101], 0⟩) (Lp.of rfl (by decide)) rfl (fun r => parted_l (c := 32) rfl rfl) g1 (Lp.of rfl (by decide)) rfl (fun s => parted_r rfl) (fun s r => parted_end s _ r (c := 32) rfl rfl) g4.ep (Lp.of rfl (by decide)) rfl (fun s => parted_r rfl) (fun s r => parted_end s _ r (c := 32) rfl rfl) g2
        · split
          · obtain ⟨c, w, l, p1, p2, p3, p4, p5⟩ := pc_alt (n / 10 % 3) (Nat.mod_lt _ (by omega))
            have hj : n / 30 % 3 = 0 ∨ n / 30 % 3 = 1 ∨ n / 30 % 3 = 2 := by omega
            rcases hj with hj | hj | hj
            · rw [hj, show caB.getD 0 [] = [] from rfl, List.append_nil]
              exact EP.case1 (P := [99, 97, 115, 101, 32]) (Q := [32, 111, 102, 32, 123]) (R := [125]) (b := ⟨4, 0, [99, 97, 115, 101], 0⟩) (o := ⟨4, 1, [111, 102], 0⟩) (k := ⟨5, 4, [123], 0⟩) (v := ⟨5, 0, [125], 0⟩) (Lp.of rfl (by decide)) rfl (fun r => parted_l (c := 32) rfl rfl) g1 (Lp.of rfl (by decide)) rfl rfl (fun s => parted_r rfl) (fun s r => parted_end s _ r (c := 123) rfl rfl) p1 p2 p3 p4 p5 g2 (Lp.of rfl (by decide)) rfl (fun s => parted_r rfl)
            · rw [hj, show caB.getD 1 [] = [59, 32, 78, 111, 110, 101, 32, 45, 62, 32] ++ [121] from rfl, ← List.append_assoc]
              exact EP.case2 (P := [99, 97, 115, 101, 32]) (Q := [32, 111, 102, 32, 123]) (S := [59, 32, 78, 111, 110, 101, 32, 45, 62, 32]) (R := [125]) (b := ⟨4, 0, [99, 97, 115, 101], 0⟩) (o := ⟨4, 1, [111, 102], 0⟩) (k := ⟨5, 4, [123], 0⟩) (z := ⟨5, 0, [59], 0⟩) (c2 := ⟨2, 2, [78, 111, 110, 101], 0⟩) (w2 := ⟨5, 7, [45, 62], 0⟩) (v := ⟨5, 0, [125], 0⟩) (Lp.of rfl (by decide)) rfl (fun r => parted_l (c := 32) rfl rfl) g1 (Lp.of rfl (by decide)) rfl rfl (fun s => parted_r rfl) (fun s r => parted_end s _ r (c := 123) rfl rfl) p1 p2 p3 p4 p5 g2 (Lp.of rfl (by decide)) rfl rfl rfl (fun s => parted_r rfl) (fun s r => parted_end s _ r (c := 32) rfl rfl) (ep_y.mono (by omega)) (Lp.of rfl (by decide)) rfl (fun s => parted_r rfl)
            · rw [hj, show caB.getD 2 [] = [59, 32, 78, 105, 108, 32, 45, 62, 32] ++ [102, 32, 120] from rfl, ← List.append_assoc]
              exact EP.case2 (P := [99, 97, 115, 101, 32]) (Q := [32, 111, 102, 32, 123]) (S := [59, 32, 78, 105, 108, 32, 45, 62, 32]) (R := [125]) (b := ⟨4, 0, [99, 97, 115, 101], 0⟩) (o := ⟨4, 1, [111, 102], 0⟩) (k := ⟨5, 4, [123], 0⟩) (z := ⟨5, 0, [59], 0⟩) (c2 := ⟨2, 2, [78, 105, 108], 0⟩) (w2 := ⟨5, 6, [45, 62], 0⟩) (v := ⟨5, 0, [125], 0⟩) (Lp.of rfl (by decide)) rfl (fun r => parted_l (c := 32) rfl rfl) g1 (Lp.of rfl (by decide)) rfl rfl (fun s => parted_r rfl) (fun s r => parted_end s _ r (c := 123) rfl rfl) p1 p2 p3 p4 p5 g2 (Lp.of rfl (by decide)) rfl rfl rfl (fun s => parted_r rfl) (fun s r => parted_end s _ r (c := 32) rfl rfl) (ep_fx.mono (by omega)) (Lp.of rfl (by decide)) rfl (fun s => parted_r rfl)
          · split
            · exact (AP.app2 (Q := [32]) g3 (Lp.of rfl (by decide)) (fun s => parted_r rfl) (fun s r => parted_end s _ r (c := 32) rfl rfl) g4).mono (by omega)
            · split
              · exact (AP.app3 (Q := [32]) g3 (Lp.of rfl (by decide)) (fun s => parted_r rfl) (fun s r => parted_end s _ r (c := 32) rfl rfl) g4 g5).mono (by omega)
              · exact h1.ep
/-- The texts of expressions and atoms are read as such, wherever they stand. -/
theorem txt_ep : ∀ (d : Nat) (ns : List Nat), (∀ x ∈ ns, x ≤ 255) → EP (d + 1) (exprT d ns) ∧ AP d (atomT d ns)
  | 0, ns, _ => ⟨ap_x.ep, ap_x⟩
  | d + 1, ns, hx => by
    have ih : ∀ ms, (∀ x ∈ ms, x ∈ ns) → EP (d + 1) (exprT d ms) ∧ AP d (atomT d ms) := fun ms h => txt_ep d ms fun x hm => hx x (h x hm)
    have ha : AP (d + 1) (atomS (exprT d) (atomT d) ns) := atomS_ap ns hx (fun ms h => (ih ms h).1) (fun ms h => (ih ms h).2)
    exact ⟨exprS_ep ns hx (fun ms h => (ih ms h).1) (fun ms h => (ih ms h).2) ha, ha⟩

end Go.Proofs.Ytgkeblpjmfdhkaa
