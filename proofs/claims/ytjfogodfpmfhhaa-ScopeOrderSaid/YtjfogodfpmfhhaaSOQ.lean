/- Mathematics of lexing: two texts, one behind the other, whose tokens do not grow together. No program. Mathematics of the grammar: what an expression's text is read as in any place, but for places. No program. Mathematics of the grammar: the statements' texts by numbers are read as expressions, atoms, wherever they stand. No program. More tokens behind: what is read of the front stays as it was. No program. More tokens behind a whole program: it goes on with them. No program is walked. Mathematics of ScopeOrder: lines that are Binds wherever they stand, behind declarations; their order does not count. No program. The document's Parse at any text: what is too long is told so. The law ScopeOrder: what is right stays so with its Binds in another order. The law ScopeOrder: the walk. How a slice of bytes that came in as an argument is read, with its capacity. -/
import Derived.Test.YtjfogodfpmfhhaaZJQ
import Derived.Test.YtjfogodfpmfhhaaZIQ
import Derived.Test.YtjfogodfpmfhhaaZBQ
import Derived.Test.YtjfogodfpmfhhaaZGQ
import Derived.Test.YtjfogodfpmfhhaaSAQ
import Derived.Test.YtjfogodfpmfhhaaYparmQ
import Derived.Test.YtjfogodfpmfhhaaZMQ
import Derived.Deep.Matrix
namespace Go.Proofs.Ytjfogodfpmfhhaa
set_option linter.unusedVariables false
set_option linter.unusedSimpArgs false

/-- Each '-' is part of "->": there is no remark, and none at the end. -/
def noRem (s : List UInt8) : Prop := ∀ j : Nat, s[j]? = some (45 : UInt8) → s[j + 1]? = some (62 : UInt8)
/-- Nothing grows across the place between s and r. -/
def parted (s r : List UInt8) : Prop := (∀ c, s.getLast? = some c → resN c.toNat = false) ∨ ∀ b t, r = b :: t → resN b.toNat = false
theorem noRem.app {a b : List UInt8} (ha : noRem a) (hb : noRem b) : noRem (a ++ b) := fun j hj => by
  by_cases h : j < a.length
  · rw [List.getElem?_append_left h] at hj
    have h1 := ha j hj
    have h2 := (List.getElem?_eq_some_iff.1 h1).1
    rw [List.getElem?_append_left h2]; exact h1
  · rw [List.getElem?_append_right (by omega)] at hj
    have := hb _ hj
    rw [List.getElem?_append_right (by omega), show j + 1 - a.length = j - a.length + 1 by omega]; exact this
theorem noRem.drop {a : List UInt8} (ha : noRem a) (k : Nat) : noRem (a.drop k) := fun j hj => by
  rw [List.getElem?_drop] at hj ⊢
  exact ha (k + j) hj
theorem parted.drop {s r : List UInt8} (h : parted s r) (k : Nat) : parted (s.drop k) r := by
  rcases h with h | h
  · refine .inl fun c hc => h c ?_
    rw [List.getLast?_drop] at hc
    split at hc
    · cases hc
    · exact hc
  · exact .inr h
theorem rowL_join {p : Nat → Bool} (hp : ∀ n, p n = true → resN n = true) (r : By) : ∀ t : By, parted t r → (t = [] → ∀ b u, r = b :: u → p b.toNat = false) → rowL p (t ++ r) = rowL p t
  | [], _, h2 => by
    rw [List.nil_append]
    cases r with
    | nil => rfl
    | cons b u => rw [rowL_no (by rw [h2 rfl b u rfl]; simp)]; rfl
  | c :: t, h, _ => by
    rw [List.cons_append]
    by_cases hc : p c.toNat = true
    · rw [rowL_yes hc, rowL_yes hc]
      rw [rowL_join hp r t ?_ ?_]
      · have := h.drop 1; simpa using this
      · intro ht b u hr
        subst ht
        rcases h with h | h
        · have := h c (by simp)
          rw [hp _ hc] at this; cases this
        · have := h b u hr
          cases q : p b.toNat with
          | false => rfl
          | true => rw [hp _ q] at this; cases this
    · rw [rowL_no hc, rowL_no hc]
theorem dig_res (n : Nat) (h : digN n = true) : resN n = true := by unfold resN; rw [h]; simp
theorem tokL_join (b : UInt8) (t r : By) (h : parted (b :: t) r) (hn : noRem (b :: t)) : tokL (b :: (t ++ r)) = tokL (b :: t) := by
  rw [tokL_cons, tokL_cons, ← List.cons_append, rowL_join (p := resN) (fun _ h => h) r _ h (fun q => by cases q), rowL_join (p := digN) dig_res r _ h (fun q => by cases q)]
  have : (b.toNat = 45 ∧ (t ++ r).head? = some 62) ↔ (b.toNat = 45 ∧ t.head? = some 62) := by
    by_cases hb : b.toNat = 45
    · have h1 := hn 0 (by simp; exact UInt8.toNat_inj.1 hb)
      cases t with
      | nil => simp at h1
      | cons c u => simp
    · simp [hb]
  simp only [this]
/-- Tokens of two texts that do not grow together. -/
theorem lexL_join (r : By) : ∀ (n : Nat) (a : By) (i : Nat), a.length ≤ n → noRem a → parted a r → ∀ ts, lexL a i = .ok ts → lexL (a ++ r) i = (lexL r (i + a.length)).pre ts
  | n, [], i, _, _, _ => fun ts h => by obtain rfl := Lx.ok_inj h; rw [Lx.pre_nil]; rfl
  | 0, b :: t, i, h, _, _ => by simp at h
  | n + 1, b :: t, i, hn, hm, hp => fun ts h => by
    simp only [List.length_cons] at hn
    rw [List.cons_append]
    cases hb : blaN b.toNat
    · have hr : ¬ (b.toNat = 45 ∧ t.head? = some 45) := fun q => by
        have h1 := hm 0 (by simp; exact UInt8.toNat_inj.1 q.1)
        cases t with
        | nil => simp at h1
        | cons c u => simp at h1 q; have := q.2; rw [h1] at this; revert this; decide
      have hr2 : ¬ (b.toNat = 45 ∧ (t ++ r).head? = some 45) := fun q => by
        have h1 := hm 0 (by simp; exact UInt8.toNat_inj.1 q.1)
        cases t with
        | nil => simp at h1
        | cons c u => simp at h1 q; have := q.2; rw [h1] at this; revert this; decide
      have ht := tokL_join b t r hp hm
      cases hk : tokL (b :: t) with
      | none => rw [lexL_bad i hb hr hk] at h; exact (Lx.bad_ok h).elim
      | some x =>
        have hx := tokL_pos hk
        have ih := lexL_join r n ((b :: t).drop x.w) (i + x.w) (by simp only [List.length_drop, List.length_cons]; omega) (hm.drop _) (hp.drop _)
        rw [lexL_tok i hb hr hk] at h
        rw [lexL_tok i hb hr2 (by rw [ht]; exact hk), ← List.cons_append, drop_app _ _ _ hx.2]
        rcases Lx.cases (lexL ((b :: t).drop x.w) (i + x.w)) with ⟨q, hq⟩ | ⟨l, hq⟩
        · rw [hq] at h; exact (Lx.bad_ok h).elim
        · rw [hq, Lx.pre_ok] at h
          obtain rfl := Lx.ok_inj h
          rw [ih l hq, Lx.pre_pre, List.length_drop]
          congr 2
          have := hx.2
          simp only [List.length_cons] at this ⊢
          omega
    · have hm1 : noRem t := by have := hm.drop 1; simpa using this
      have hp1 : parted t r := by have := hp.drop 1; simpa using this
      have ih := lexL_join r n t (i + 1) (by omega) hm1 hp1
      rw [lexL_blank i hb] at h
      rw [lexL_blank i hb, ih ts h, List.length_cons]
      congr 2; omega

/-- A text that may stand anywhere: its tokens at place 0; how it begins and ends. -/
structure Lp (s : List UInt8) (ts : List Tk) : Prop where
  no : noRem s
  lex : lexL s 0 = .ok ts
theorem Lp.at_ {s : List UInt8} {ts : List Tk} (h : Lp s ts) (i : Nat) : lexL s i = .ok (ts.map (Tk.mv i)) := by
  rw [lexL_at, h.lex]; rfl
theorem Lp.app {a b : List UInt8} {ta tb : List Tk} (ha : Lp a ta) (hb : Lp b tb) (hp : parted a b) : Lp (a ++ b) (ta ++ tb.map (Tk.mv a.length)) :=
  ⟨ha.no.app hb.no, by rw [lexL_join b _ a 0 (Nat.le_refl _) ha.no hp ta ha.lex, hb.at_, Nat.zero_add, Lx.pre_ok]⟩
theorem Tk.mv_mv (a b : Nat) (t : Tk) : (t.mv a).mv b = t.mv (a + b) := by unfold Tk.mv; simp [Nat.add_assoc]
theorem Lp.of {s : List UInt8} {ts : List Tk} (h : lexL s 0 = .ok ts) (hn : (List.range s.length).all (fun j => decide (s[j]? = some (45 : UInt8) → s[j + 1]? = some (62 : UInt8))) = true) : Lp s ts := by
  refine ⟨fun j hj => ?_, h⟩
  have h1 := (List.getElem?_eq_some_iff.1 hj).1
  have := List.all_eq_true.1 hn j (List.mem_range.2 h1)
  exact of_decide_eq_true this hj

end Go.Proofs.Ytjfogodfpmfhhaa

namespace Go.Proofs.Ytjfogodfpmfhhaa
set_option linter.unusedVariables false
set_option linter.unusedSimpArgs false

mutual
def Ex.bare : Ex → Ex
  | .mk k p s n kids alts => .mk k 0 s n (Ex.bares kids) (Al.bares alts)
def Ex.bares : List Ex → List Ex
  | [] => []
  | x :: r => x.bare :: Ex.bares r
def Al.bare : Al → Al
  | .mk p s l b => .mk 0 s l b.bare
def Al.bares : List Al → List Al
  | [] => []
  | x :: r => x.bare :: Al.bares r
end
theorem lams_bare (p : Int) (x : Ex) : ∀ l : List By, (lams p l x).bare = lams 0 l x.bare
  | [] => rfl
  | s :: r => by
    have ih := lams_bare p x r
    simp only [lams, List.foldr_cons] at ih ⊢
    simp only [Ex.bare, Ex.bares, Al.bares]
    rw [ih]
theorem take_hd {En : Nat} {t : Tk} {s : Srt} {r : List Tk} {b : Bool} {a : Nat} (h : srt t = s) : (⟨t :: r, b, a⟩ : PS).take En s = (t, ⟨r, b, a⟩) := by
  unfold PS.take PS.sees PS.next
  simp only [h, decide_true, if_true]
  rfl
theorem names_run {w : Tk} {r : List Tk} (hw : srt w ≠ sName) : ∀ l : List Tk, (∀ t ∈ l, srt t = sName) → namesL (l ++ w :: r) = (l.map Tk.s, w :: r)
  | [], _ => by simp only [List.nil_append, namesL, if_neg hw]; rfl
  | t :: l, h => by
    have ih := names_run hw (r := r) l fun x hx => h x (List.mem_cons_of_mem _ hx)
    simp only [List.cons_append, namesL, if_pos (h t (by simp)), ih]
    rfl
/-- The next token begins no atom. -/
def fol (r : List Tk) : Prop := (⟨r, false, 0⟩ : PS).seesAtom = false
theorem fol_of {t : Tk} {r : List Tk} (h : (isLeaf (beg (srt t)) || decide (beg (srt t) = 8)) = false) : fol (t :: r) := h
/-- A text that is read as an expression wherever it stands ahead of what begins no atom, with so much fuel. -/
def EP (N : Nat) (s : By) : Prop := ∃ ts x0, Lp s ts ∧ ∀ (En n a i : Nat) (r : List Tk), N ≤ n → fol r → ∃ x, exprF En n ⟨ts.map (Tk.mv i) ++ r, false, a⟩ = (x, ⟨r, false, a⟩) ∧ x.bare = x0
/-- A text that is read as an atom wherever it stands. -/
def AP (N : Nat) (s : By) : Prop := ∃ ts x0, Lp s ts ∧ (∃ t r, ts = t :: r ∧ (isLeaf (beg (srt t)) || decide (beg (srt t) = 8)) = true) ∧ ∀ (En n a i : Nat) (r : List Tk), N ≤ n → ∃ x, atomF En (exprF En n) ⟨ts.map (Tk.mv i) ++ r, false, a⟩ = (x, ⟨r, false, a⟩) ∧ x.bare = x0
theorem EP.mono {N M : Nat} {s : By} (h : EP N s) (hm : N ≤ M) : EP M s := by
  obtain ⟨ts, x0, h1, h2⟩ := h
  exact ⟨ts, x0, h1, fun En n a i r hn hr => h2 En n a i r (Nat.le_trans hm hn) hr⟩
theorem AP.mono {N M : Nat} {s : By} (h : AP N s) (hm : N ≤ M) : AP M s := by
  obtain ⟨ts, x0, h1, h2, h3⟩ := h
  exact ⟨ts, x0, h1, h2, fun En n a i r hn => h3 En n a i r (Nat.le_trans hm hn)⟩
theorem parted_l {s r : List UInt8} {c : UInt8} (h : s.getLast? = some c) (hc : resN c.toNat = false) : parted s r := .inl fun c' h' => by rw [h] at h'; cases h'; exact hc
theorem parted_r {s r : List UInt8} {c : UInt8} (hc : resN c.toNat = false) : parted s (c :: r) := .inr fun b t h => by cases h; exact hc

/-- Names ahead of an arrow. -/
theorem EP.lam {N : Nat} {P E : By} {b m w : Tk} {l : List Tk} (hP : Lp P (b :: m :: l ++ [w])) (hb : srt b = sS tBack) (hm : srt m = sName) (hl : ∀ t ∈ l, srt t = sName) (hw : srt w = sS tArrow) (hp : ∀ r, parted P r) (hE : EP N E) : EP (N + 1) (P ++ E) := by
  obtain ⟨ts, x0, h1, h2⟩ := hE
  refine ⟨_, lams 0 (m.s :: l.map Tk.s) x0, hP.app h1 (hp _), fun En n a i r hn hr => ?_⟩
  obtain ⟨n', rfl⟩ : ∃ n', n = n' + 1 := ⟨n - 1, by omega⟩
  obtain ⟨x, hx, hb0⟩ := h2 En n' a (P.length + i) r (by omega) hr
  have hmv : (ts.map (Tk.mv P.length)).map (Tk.mv i) = ts.map (Tk.mv (P.length + i)) := by rw [List.map_map]; exact List.map_congr_left fun t _ => Tk.mv_mv _ _ t
  refine ⟨lams (b.mv i).p (m.s :: l.map Tk.s) x, ?_, by rw [lams_bare, hb0]⟩
  have e1 : (⟨(b :: m :: l ++ [w] ++ ts.map (Tk.mv P.length)).map (Tk.mv i) ++ r, false, a⟩ : PS) = ⟨b.mv i :: m.mv i :: (l.map (Tk.mv i) ++ w.mv i :: (ts.map (Tk.mv (P.length + i)) ++ r)), false, a⟩ := by
    simp only [List.map_append, List.map_cons, List.map_nil, hmv, List.cons_append, List.append_assoc, List.nil_append]
  rw [e1]
  show exprStep En (exprF En n') _ = _
  unfold exprStep
  rw [if_pos (by show beg (srt b) = 6; rw [hb]; decide)]
  unfold lamF
  rw [take_hd (t := b.mv i) hb]
  dsimp only
  rw [take_hd (t := m.mv i) hm]
  dsimp only
  have hnl := names_run (w := w.mv i) (r := ts.map (Tk.mv (P.length + i)) ++ r) (by show srt w ≠ _; rw [hw]; decide) (l.map (Tk.mv i)) (fun t ht => by obtain ⟨q, hq, rfl⟩ := List.mem_map.1 ht; exact hl q hq)
  unfold PS.names
  dsimp only
  rw [hnl]
  dsimp only
  rw [take_hd (t := w.mv i) hw]
  dsimp only
  rw [hx]
  have : (l.map (Tk.mv i)).map Tk.s = l.map Tk.s := by rw [List.map_map]; rfl
  rw [this]
  rfl

theorem mv_two (ts : List Tk) (a i : Nat) : (ts.map (Tk.mv a)).map (Tk.mv i) = ts.map (Tk.mv (a + i)) := by rw [List.map_map]; exact List.map_congr_left fun t _ => Tk.mv_mv _ _ t
/-- An atom is an expression. -/
theorem AP.ep {N : Nat} {s : By} (h : AP N s) : EP (N + 1) s := by
  obtain ⟨ts, x0, h1, ⟨t, q, hts, ht⟩, h2⟩ := h
  refine ⟨ts, x0, h1, fun En n a i r hn hr => ?_⟩
  obtain ⟨n', rfl⟩ : ∃ n', n = n' + 1 := ⟨n - 1, by omega⟩
  obtain ⟨x, hx, hb⟩ := h2 En n' a i r (by omega)
  refine ⟨x, ?_, hb⟩
  have hnx : (⟨ts.map (Tk.mv i) ++ r, false, a⟩ : PS).next = srt t := by rw [hts]; rfl
  show exprStep En (exprF En n') _ = _
  unfold exprStep
  rw [hnx]
  have h6 : beg (srt t) ≠ 6 ∧ beg (srt t) ≠ 7 ∧ beg (srt t) ≠ 9 ∧ beg (srt t) ≠ 10 := by
    unfold isLeaf at ht
    refine ⟨?_, ?_, ?_, ?_⟩ <;> (intro e; rw [e] at ht; revert ht; decide)
  rw [if_neg h6.1, if_neg h6.2.1, if_neg h6.2.2.1, if_neg h6.2.2.2]
  unfold appF
  rw [hx]
  dsimp only
  have hf : (⟨r, false, a⟩ : PS).seesAtom = false := hr
  cases hl : r.length with
  | zero => rfl
  | succ k => unfold appL; rw [hf, if_neg (by decide)]
theorem fol_word {t : Tk} {r : List Tk} {w : By} (h : srt t = sW w) (hw : beg (sW w) = 0) : fol (t :: r) := fol_of (by rw [h, hw]; decide)
theorem fol_sign {t : Tk} {r : List Tk} {w : By} (h : srt t = sS w) (hw : beg (sS w) = 0) : fol (t :: r) := fol_of (by rw [h, hw]; decide)

theorem EP.let_ {N : Nat} {P A Q B : By} {b m w v : Tk} {l : List Tk} (hP : Lp P (b :: m :: l ++ [w])) (hb : srt b = sW tLet) (hm : srt m = sName) (hl : ∀ t ∈ l, srt t = sName) (hw : srt w = sS tEq) (hp : ∀ r, parted P r) (hA : EP N A)
    (hQ : Lp Q [v]) (hv : srt v = sW tIn) (hq : ∀ s, parted s Q) (hq2 : ∀ s r, parted (s ++ Q) r) (hB : EP N B) : EP (N + 1) (P ++ A ++ Q ++ B) := by
  obtain ⟨ta, xa, a1, a2⟩ := hA
  obtain ⟨tb, xb, b1, b2⟩ := hB
  refine ⟨_, .mk 7 0 m.s 0 [lams 0 (l.map Tk.s) xa, xb] [], ((hP.app a1 (hp _)).app hQ (hq _)).app b1 (hq2 _ _), fun En n a i r hn hr => ?_⟩
  obtain ⟨n', rfl⟩ : ∃ n', n = n' + 1 := ⟨n - 1, by omega⟩
  obtain ⟨y, hy, hyb⟩ := b2 En n' a ((P ++ A ++ Q).length + i) r (by omega) hr
  obtain ⟨x, hx, hxb⟩ := a2 En n' a (P.length + i) ((v.mv (P ++ A).length).mv i :: (tb.map (Tk.mv ((P ++ A ++ Q).length + i)) ++ r)) (by omega) (fol_word hv (by decide))
  refine ⟨.mk 7 (b.mv i).p m.s 0 [lams (m.mv i).p (l.map Tk.s) x, y] [], ?_, by simp only [Ex.bare, Ex.bares, Al.bares, lams_bare, hxb, hyb]⟩
  simp only [List.map_append, List.map_cons, List.map_nil, mv_two, List.cons_append, List.append_assoc, List.nil_append]
  show exprStep En (exprF En n') _ = _
  unfold exprStep
  rw [if_neg (by show ¬ beg (srt b) = 6; rw [hb]; decide), if_pos (by show beg (srt b) = 7; rw [hb]; decide)]
  unfold letF bindF
  rw [take_hd (t := b.mv i) hb]
  dsimp only
  rw [take_hd (t := m.mv i) hm]
  dsimp only
  have hnl := names_run (w := w.mv i) (r := ta.map (Tk.mv (P.length + i)) ++ ((v.mv (P ++ A).length).mv i :: (tb.map (Tk.mv ((P ++ A ++ Q).length + i)) ++ r))) (by show srt w ≠ _; rw [hw]; decide) (l.map (Tk.mv i)) (fun t ht => by obtain ⟨q, hq, rfl⟩ := List.mem_map.1 ht; exact hl q hq)
  unfold PS.names
  dsimp only
  rw [List.append_assoc] at hy hx hnl
  rw [hnl]
  dsimp only
  rw [take_hd (t := w.mv i) hw]
  dsimp only
  rw [hx]
  dsimp only
  rw [take_hd (t := (v.mv _).mv i) hv]
  dsimp only
  rw [hy]
  have : (l.map (Tk.mv i)).map Tk.s = l.map Tk.s := by rw [List.map_map]; rfl
  rw [this]
  rfl

theorem EP.if_ {N : Nat} {P A Q B R C : By} {b v w : Tk} (hP : Lp P [b]) (hb : srt b = sW tIf) (hp : ∀ r, parted P r) (hA : EP N A)
    (hQ : Lp Q [v]) (hv : srt v = sW tThen) (hq : ∀ s, parted s Q) (hq2 : ∀ s r, parted (s ++ Q) r) (hB : EP N B)
    (hR : Lp R [w]) (hw : srt w = sW tElse) (hr1 : ∀ s, parted s R) (hr2 : ∀ s r, parted (s ++ R) r) (hC : EP N C) : EP (N + 1) (P ++ A ++ Q ++ B ++ R ++ C) := by
  obtain ⟨ta, xa, a1, a2⟩ := hA
  obtain ⟨tb, xb, b1, b2⟩ := hB
  obtain ⟨tc, xc, c1, c2⟩ := hC
  refine ⟨_, .mk 9 0 [] 0 [xa, xb, xc] [], ((((hP.app a1 (hp _)).app hQ (hq _)).app b1 (hq2 _ _)).app hR (hr1 _)).app c1 (hr2 _ _), fun En n a i r hn hr => ?_⟩
  obtain ⟨n', rfl⟩ : ∃ n', n = n' + 1 := ⟨n - 1, by omega⟩
  obtain ⟨z, hz, hzb⟩ := c2 En n' a ((P ++ A ++ Q ++ B ++ R).length + i) r (by omega) hr
  obtain ⟨y, hy, hyb⟩ := b2 En n' a ((P ++ A ++ Q).length + i) ((w.mv (P ++ A ++ Q ++ B).length).mv i :: (tc.map (Tk.mv ((P ++ A ++ Q ++ B ++ R).length + i)) ++ r)) (by omega) (fol_word hw (by decide))
  obtain ⟨x, hx, hxb⟩ := a2 En n' a (P.length + i) ((v.mv (P ++ A).length).mv i :: (tb.map (Tk.mv ((P ++ A ++ Q).length + i)) ++ ((w.mv (P ++ A ++ Q ++ B).length).mv i :: (tc.map (Tk.mv ((P ++ A ++ Q ++ B ++ R).length + i)) ++ r)))) (by omega) (fol_word hv (by decide))
  refine ⟨.mk 9 (b.mv i).p [] 0 [x, y, z] [], ?_, by simp only [Ex.bare, Ex.bares, Al.bares, hxb, hyb, hzb]⟩
  simp only [List.map_append, List.map_cons, List.map_nil, mv_two, List.cons_append, List.append_assoc, List.nil_append] at hx hy hz ⊢
  show exprStep En (exprF En n') _ = _
  unfold exprStep
  rw [if_neg (by show ¬ beg (srt b) = 6; rw [hb]; decide), if_neg (by show ¬ beg (srt b) = 7; rw [hb]; decide), if_pos (by show beg (srt b) = 9; rw [hb]; decide)]
  unfold choiceF
  rw [take_hd (t := b.mv i) hb]
  dsimp only
  rw [hx]
  dsimp only
  rw [take_hd (t := (v.mv _).mv i) hv]
  dsimp only
  rw [hy]
  dsimp only
  rw [take_hd (t := (w.mv _).mv i) hw]
  dsimp only
  rw [hz]

theorem app_step {En : Nat} {X : PS → Ex × PS} {f : Nat} {e x : Ex} {t : Tk} {q r : List Tk} {a : Nat} (hf : (t :: q).length ≤ f) (ht : (isLeaf (beg (srt t)) || decide (beg (srt t) = 8)) = true) (hx : atomF En X ⟨t :: q, false, a⟩ = (x, ⟨r, false, a⟩)) :
    ∃ f', f = f' + 1 ∧ appL En X f e ⟨t :: q, false, a⟩ = appL En X f' (.mk 5 e.at [] 0 [e, x] []) ⟨r, false, a⟩ := by
  obtain ⟨f', rfl⟩ : ∃ f', f = f' + 1 := ⟨f - 1, by simp at hf; omega⟩
  have hs : (⟨t :: q, false, a⟩ : PS).seesAtom = true := ht
  refine ⟨f', rfl, ?_⟩
  show (if (⟨t :: q, false, a⟩ : PS).seesAtom = true then _ else _) = _
  rw [if_pos hs, hx]
theorem app_end {En : Nat} {X : PS → Ex × PS} {f : Nat} {e : Ex} {r : List Tk} {a : Nat} (hr : fol r) : appL En X f e ⟨r, false, a⟩ = (e, ⟨r, false, a⟩) := by
  cases f with
  | zero => rfl
  | succ f =>
    have hf : (⟨r, false, a⟩ : PS).seesAtom = false := hr
    unfold appL
    rw [hf, if_neg (by decide)]
theorem AP.app2 {N : Nat} {A Q B : By} (hA : AP N A) (hQ : Lp Q []) (hq : ∀ s, parted s Q) (hq2 : ∀ s r, parted (s ++ Q) r) (hB : AP N B) : EP (N + 1) (A ++ Q ++ B) := by
  obtain ⟨ta, xa, a1, ⟨t1, q1, e1, g1⟩, a2⟩ := hA
  obtain ⟨tb, xb, b1, ⟨t2, q2, e2, g2⟩, b2⟩ := hB
  refine ⟨_, .mk 5 0 [] 0 [xa, xb] [], (a1.app hQ (hq _)).app b1 (hq2 _ _), fun En n a i r hn hr => ?_⟩
  obtain ⟨n', rfl⟩ : ∃ n', n = n' + 1 := ⟨n - 1, by omega⟩
  obtain ⟨y, hy, hyb⟩ := b2 En n' a ((A ++ Q).length + i) r (by omega)
  obtain ⟨x, hx, hxb⟩ := a2 En n' a i (tb.map (Tk.mv ((A ++ Q).length + i)) ++ r) (by omega)
  refine ⟨.mk 5 x.at [] 0 [x, y] [], ?_, by simp only [Ex.bare, Ex.bares, Al.bares, hxb, hyb]⟩
  simp only [List.map_append, List.map_cons, List.map_nil, mv_two, List.cons_append, List.append_assoc, List.nil_append, List.append_nil] at hx hy ⊢
  have hnx : (⟨ta.map (Tk.mv i) ++ (tb.map (Tk.mv ((A ++ Q).length + i)) ++ r), false, a⟩ : PS).next = srt t1 := by rw [e1]; rfl
  show exprStep En (exprF En n') _ = _
  unfold exprStep
  rw [hnx]
  have h6 : beg (srt t1) ≠ 6 ∧ beg (srt t1) ≠ 7 ∧ beg (srt t1) ≠ 9 ∧ beg (srt t1) ≠ 10 := by
    unfold isLeaf at g1
    refine ⟨?_, ?_, ?_, ?_⟩ <;> (intro e; rw [e] at g1; revert g1; decide)
  rw [if_neg h6.1, if_neg h6.2.1, if_neg h6.2.2.1, if_neg h6.2.2.2]
  unfold appF
  rw [hx]
  dsimp only
  subst e2
  simp only [List.map_cons, List.cons_append] at hy ⊢
  obtain ⟨f', _, hs⟩ := app_step (En := En) (e := x) (Nat.le_refl _) (show (isLeaf (beg (srt (t2.mv ((A ++ Q).length + i)))) || decide (beg (srt (t2.mv ((A ++ Q).length + i))) = 8)) = true from g2) hy
  rw [hs, app_end hr]
theorem AP.app3 {N : Nat} {A Q B C : By} (hA : AP N A) (hQ : Lp Q []) (hq : ∀ s, parted s Q) (hq2 : ∀ s r, parted (s ++ Q) r) (hB : AP N B) (hC : AP N C) : EP (N + 1) (A ++ Q ++ B ++ Q ++ C) := by
  obtain ⟨ta, xa, a1, ⟨t1, q1, e1, g1⟩, a2⟩ := hA
  obtain ⟨tb, xb, b1, ⟨t2, q2, e2, g2⟩, b2⟩ := hB
  obtain ⟨tc, xc, c1, ⟨t3, q3, e3, g3⟩, c2⟩ := hC
  refine ⟨_, .mk 5 0 [] 0 [.mk 5 0 [] 0 [xa, xb] [], xc] [], (((a1.app hQ (hq _)).app b1 (hq2 _ _)).app hQ (hq _)).app c1 (hq2 _ _), fun En n a i r hn hr => ?_⟩
  obtain ⟨n', rfl⟩ : ∃ n', n = n' + 1 := ⟨n - 1, by omega⟩
  obtain ⟨z, hz, hzb⟩ := c2 En n' a ((A ++ Q ++ B ++ Q).length + i) r (by omega)
  obtain ⟨y, hy, hyb⟩ := b2 En n' a ((A ++ Q).length + i) (tc.map (Tk.mv ((A ++ Q ++ B ++ Q).length + i)) ++ r) (by omega)
  obtain ⟨x, hx, hxb⟩ := a2 En n' a i (tb.map (Tk.mv ((A ++ Q).length + i)) ++ (tc.map (Tk.mv ((A ++ Q ++ B ++ Q).length + i)) ++ r)) (by omega)
  refine ⟨.mk 5 x.at [] 0 [.mk 5 x.at [] 0 [x, y] [], z] [], ?_, by simp only [Ex.bare, Ex.bares, Al.bares, hxb, hyb, hzb]⟩
  simp only [List.map_append, List.map_cons, List.map_nil, mv_two, List.cons_append, List.append_assoc, List.nil_append, List.append_nil] at hx hy hz ⊢
  have hnx : (⟨ta.map (Tk.mv i) ++ (tb.map (Tk.mv ((A ++ Q).length + i)) ++ (tc.map (Tk.mv ((A ++ (Q ++ (B ++ Q))).length + i)) ++ r)), false, a⟩ : PS).next = srt t1 := by rw [e1]; rfl
  show exprStep En (exprF En n') _ = _
  unfold exprStep
  rw [hnx]
  have h6 : beg (srt t1) ≠ 6 ∧ beg (srt t1) ≠ 7 ∧ beg (srt t1) ≠ 9 ∧ beg (srt t1) ≠ 10 := by
    unfold isLeaf at g1
    refine ⟨?_, ?_, ?_, ?_⟩ <;> (intro e; rw [e] at g1; revert g1; decide)
  rw [if_neg h6.1, if_neg h6.2.1, if_neg h6.2.2.1, if_neg h6.2.2.2]
  unfold appF
  rw [hx]
  dsimp only
  subst e2
  subst e3
  simp only [List.map_cons, List.cons_append] at hy hz ⊢
  obtain ⟨f', hf, hs⟩ := app_step (En := En) (e := x) (Nat.le_refl _) (show (isLeaf (beg (srt (t2.mv ((A ++ Q).length + i)))) || decide (beg (srt (t2.mv ((A ++ Q).length + i))) = 8)) = true from g2) hy
  rw [hs]
  have hl3 : (t3.mv ((A ++ (Q ++ (B ++ Q))).length + i) :: (q3.map (Tk.mv ((A ++ (Q ++ (B ++ Q))).length + i)) ++ r)).length ≤ f' := by
    simp only [List.length_cons, List.length_append, List.length_map] at hf ⊢
    omega
  obtain ⟨f2, _, hs2⟩ := app_step (En := En) (e := .mk 5 x.at [] 0 [x, y] []) hl3 (show (isLeaf (beg (srt (t3.mv ((A ++ (Q ++ (B ++ Q))).length + i)))) || decide (beg (srt (t3.mv ((A ++ (Q ++ (B ++ Q))).length + i))) = 8)) = true from g3) hz
  rw [hs2, app_end hr]
  rfl

theorem rows_end {A : Type} {sep : Srt} {most : Nat} {one : PS → A × PS} {f : Nat} {l : List A} {t : Tk} {r : List Tk} {a : Nat} (h : srt t ≠ sep) : rowsL sep most one f l ⟨t :: r, false, a⟩ = (l, ⟨t :: r, false, a⟩) :=
  rowsL_end (fun q => h (of_decide_eq_true q.2))
theorem rows_more {A : Type} {sep : Srt} {most : Nat} {one : PS → A × PS} {f : Nat} {l : List A} {t : Tk} {q r : List Tk} {a : Nat} {x : A} (hf : (t :: q).length ≤ f) (hm : l.length < most) (h : srt t = sep) (hx : one ⟨q, false, a⟩ = (x, ⟨r, false, a⟩)) :
    ∃ f', rowsL sep most one f l ⟨t :: q, false, a⟩ = rowsL sep most one f' (l ++ [x]) ⟨r, false, a⟩ := by
  obtain ⟨f', rfl⟩ : ∃ f', f = f' + 1 := ⟨f - 1, by simp at hf; omega⟩
  have hs : (⟨t :: q, false, a⟩ : PS).sees sep = true := decide_eq_true h
  have ht : (⟨t :: q, false, a⟩ : PS).tail = ⟨q, false, a⟩ := rfl
  refine ⟨f', ?_⟩
  rw [rowsL, if_pos ⟨hm, hs⟩, ht, hx]
theorem EP.brack {N : Nat} {P A R : By} {b v : Tk} (hP : Lp P [b]) (hb : srt b = sS tLpar) (hp : ∀ r, parted P r) (hA : EP N A) (hR : Lp R [v]) (hv : srt v = sS tRpar) (hr : ∀ s, parted s R) : AP N (P ++ A ++ R) := by
  obtain ⟨ta, xa, a1, a2⟩ := hA
  refine ⟨_, xa, (hP.app a1 (hp _)).app hR (hr _), ⟨b, _, rfl, by rw [hb]; decide⟩, fun En n a i r hn => ?_⟩
  obtain ⟨x, hx, hxb⟩ := a2 En n a (P.length + i) ((v.mv (P ++ A).length).mv i :: r) hn (fol_sign hv (by decide))
  refine ⟨x, ?_, hxb⟩
  simp only [List.map_append, List.map_cons, List.map_nil, mv_two, List.cons_append, List.append_assoc, List.nil_append] at hx ⊢
  unfold atomF
  rw [if_neg (by show ¬ isLeaf (beg (srt b)) = true; rw [hb]; decide), if_pos (by show beg (srt b) = 8; rw [hb]; decide)]
  unfold tupleF bracketF rowsF
  rw [take_hd (t := b.mv i) hb]
  dsimp only
  rw [hx]
  dsimp only
  rw [rows_end (by show srt v ≠ _; rw [hv]; decide)]
  dsimp only
  rw [take_hd (t := (v.mv _).mv i) hv]
  rfl
theorem EP.tuple {N : Nat} {P A Q B R : By} {b c v : Tk} (hP : Lp P [b]) (hb : srt b = sS tLpar) (hp : ∀ r, parted P r) (hA : EP N A) (hQ : Lp Q [c]) (hc : srt c = sS tComma) (hq : ∀ s, parted s Q) (hq2 : ∀ s r, parted (s ++ Q) r) (hB : EP N B) (hR : Lp R [v]) (hv : srt v = sS tRpar) (hr : ∀ s, parted s R) : AP N (P ++ A ++ Q ++ B ++ R) := by
  obtain ⟨ta, xa, a1, a2⟩ := hA
  obtain ⟨tb, xb, b1, b2⟩ := hB
  refine ⟨_, .mk 8 0 [] 0 [xa, xb] [], (((hP.app a1 (hp _)).app hQ (hq _)).app b1 (hq2 _ _)).app hR (hr _), ⟨b, _, rfl, by rw [hb]; decide⟩, fun En n a i r hn => ?_⟩
  obtain ⟨y, hy, hyb⟩ := b2 En n a ((P ++ A ++ Q).length + i) ((v.mv (P ++ A ++ Q ++ B).length).mv i :: r) hn (fol_sign hv (by decide))
  obtain ⟨x, hx, hxb⟩ := a2 En n a (P.length + i) ((c.mv (P ++ A).length).mv i :: (tb.map (Tk.mv ((P ++ A ++ Q).length + i)) ++ ((v.mv (P ++ A ++ Q ++ B).length).mv i :: r))) hn (fol_sign hc (by decide))
  refine ⟨.mk 8 (b.mv i).p [] 0 [x, y] [], ?_, by simp only [Ex.bare, Ex.bares, Al.bares, hxb, hyb]⟩
  simp only [List.map_append, List.map_cons, List.map_nil, mv_two, List.cons_append, List.append_assoc, List.nil_append] at hx hy ⊢
  unfold atomF
  rw [if_neg (by show ¬ isLeaf (beg (srt b)) = true; rw [hb]; decide), if_pos (by show beg (srt b) = 8; rw [hb]; decide)]
  unfold tupleF bracketF rowsF
  rw [take_hd (t := b.mv i) hb]
  dsimp only
  rw [hx]
  dsimp only
  obtain ⟨f', hs⟩ := rows_more (sep := sS tComma) (most := maxTup) (one := exprF En n) (l := [x]) (Nat.le_refl _) (by show 1 < maxTup; decide) (show srt ((c.mv (P ++ A).length).mv i) = sS tComma from hc) hy
  rw [hs, rows_end (by show srt v ≠ _; rw [hv]; decide)]
  dsimp only
  rw [take_hd (t := (v.mv _).mv i) hv]
  rfl
theorem AP.leaf {s : By} {t : Tk} (hs : Lp s [t]) (ht : isLeaf (beg (srt t)) = true) : AP 0 s := by
  refine ⟨_, (leafE (beg (srt t)) t).bare, hs, ⟨t, [], rfl, by rw [ht]; rfl⟩, fun En n a i r hn => ⟨leafE (beg (srt t)) (t.mv i), ?_, ?_⟩⟩
  · unfold atomF
    rw [if_pos (by show isLeaf (beg (srt t)) = true; exact ht)]
    rfl
  · unfold leafE
    split
    · rfl
    · rfl

theorem alt_run {En : Nat} {X : PS → Ex × PS} {c w : Tk} {l q r : List Tk} {a : Nat} {x : Ex} (hc : srt c = sCon) (hl : ∀ t ∈ l, srt t = sName) (hw : srt w = sS tArrow) (hx : X ⟨q, false, a⟩ = (x, ⟨r, false, a⟩)) : altF En X ⟨c :: (l ++ w :: q), false, a⟩ = (.mk c.p c.s (l.map Tk.s) x, ⟨r, false, a⟩) := by
  unfold altF
  rw [take_hd hc]
  dsimp only
  unfold PS.names
  dsimp only
  rw [names_run (by rw [hw]; decide) l hl]
  dsimp only
  rw [take_hd hw]
  dsimp only
  rw [hx]
theorem EP.case1 {N : Nat} {P A Q K B R : By} {b o k c w v : Tk} {l : List Tk} (hP : Lp P [b]) (hb : srt b = sW tCase) (hp : ∀ r, parted P r) (hA : EP N A) (hQ : Lp Q [o, k]) (ho : srt o = sW tOf) (hk : srt k = sS tLcur) (hq : ∀ s, parted s Q) (hq2 : ∀ s r, parted (s ++ Q) r)
    (hK : Lp K (c :: l ++ [w])) (hc : srt c = sCon) (hl : ∀ t ∈ l, srt t = sName) (hw : srt w = sS tArrow) (hK2 : ∀ s r, parted (s ++ K) r) (hB : EP N B) (hR : Lp R [v]) (hv : srt v = sS tRcur) (hr : ∀ s, parted s R) : EP (N + 1) (P ++ A ++ Q ++ K ++ B ++ R) := by
  obtain ⟨ta, xa, a1, a2⟩ := hA
  obtain ⟨tb, xb, b1, b2⟩ := hB
  refine ⟨_, .mk 10 0 [] 0 [xa] [.mk 0 c.s (l.map Tk.s) xb], ((((hP.app a1 (hp _)).app hQ (hq _)).app hK (hq2 _ _)).app b1 (hK2 _ _)).app hR (hr _), fun En n a i r hn hf => ?_⟩
  obtain ⟨n', rfl⟩ : ∃ n', n = n' + 1 := ⟨n - 1, by omega⟩
  have lm : ∀ j : Nat, (l.map (Tk.mv j)).map Tk.s = l.map Tk.s := fun j => by rw [List.map_map]; rfl
  obtain ⟨y, hy, hyb⟩ := b2 En n' a ((P ++ A ++ Q ++ K).length + i) ((v.mv (P ++ A ++ Q ++ K ++ B).length).mv i :: r) (by omega) (fol_sign hv (by decide))
  obtain ⟨x, hx, hxb⟩ := a2 En n' a (P.length + i) ((o.mv (P ++ A).length).mv i :: (k.mv (P ++ A).length).mv i :: ((c.mv (P ++ A ++ Q).length).mv i :: (l.map (Tk.mv ((P ++ A ++ Q).length + i)) ++ (w.mv (P ++ A ++ Q).length).mv i :: (tb.map (Tk.mv ((P ++ A ++ Q ++ K).length + i)) ++ ((v.mv (P ++ A ++ Q ++ K ++ B).length).mv i :: r))))) (by omega) (fol_word ho (by decide))
  have halt := alt_run (En := En) (X := exprF En n') (c := (c.mv (P ++ A ++ Q).length).mv i) (w := (w.mv (P ++ A ++ Q).length).mv i) (l := l.map (Tk.mv ((P ++ A ++ Q).length + i))) hc (fun t ht => by obtain ⟨q, hq, rfl⟩ := List.mem_map.1 ht; exact hl q hq) hw hy
  rw [lm] at halt
  refine ⟨.mk 10 (b.mv i).p [] 0 [x] [.mk ((c.mv (P ++ A ++ Q).length).mv i).p c.s (l.map Tk.s) y], ?_, by simp only [Ex.bare, Ex.bares, Al.bares, Al.bare, hxb, hyb]⟩
  simp only [List.map_append, List.map_cons, List.map_nil, mv_two, List.cons_append, List.append_assoc, List.nil_append] at hx halt ⊢
  show exprStep En (exprF En n') _ = _
  unfold exprStep
  rw [if_neg (by show ¬ beg (srt b) = 6; rw [hb]; decide), if_neg (by show ¬ beg (srt b) = 7; rw [hb]; decide), if_neg (by show ¬ beg (srt b) = 9; rw [hb]; decide), if_pos (by show beg (srt b) = 10; rw [hb]; decide)]
  unfold casesF
  rw [take_hd (t := b.mv i) hb]
  dsimp only
  rw [hx]
  dsimp only
  rw [take_hd (t := (o.mv _).mv i) ho]
  dsimp only
  rw [take_hd (t := (k.mv _).mv i) hk]
  dsimp only
  unfold rowsF
  rw [halt]
  dsimp only
  rw [rows_end (by show srt v ≠ _; rw [hv]; decide)]
  dsimp only
  rw [take_hd (t := (v.mv _).mv i) hv]
  rfl

theorem EP.case2 {N : Nat} {P A Q K B S C R : By} {b o k c w z c2 w2 v : Tk} {l : List Tk} (hP : Lp P [b]) (hb : srt b = sW tCase) (hp : ∀ r, parted P r) (hA : EP N A) (hQ : Lp Q [o, k]) (ho : srt o = sW tOf) (hk : srt k = sS tLcur) (hq : ∀ s, parted s Q) (hq2 : ∀ s r, parted (s ++ Q) r)
    (hK : Lp K (c :: l ++ [w])) (hc : srt c = sCon) (hl : ∀ t ∈ l, srt t = sName) (hw : srt w = sS tArrow) (hK2 : ∀ s r, parted (s ++ K) r) (hB : EP N B)
    (hS : Lp S [z, c2, w2]) (hz : srt z = sS tSemi) (hc2 : srt c2 = sCon) (hw2 : srt w2 = sS tArrow) (hs1 : ∀ s, parted s S) (hs2 : ∀ s r, parted (s ++ S) r) (hC : EP N C) (hR : Lp R [v]) (hv : srt v = sS tRcur) (hr : ∀ s, parted s R) : EP (N + 1) (P ++ A ++ Q ++ K ++ B ++ S ++ C ++ R) := by
  obtain ⟨ta, xa, a1, a2⟩ := hA
  obtain ⟨tb, xb, b1, b2⟩ := hB
  obtain ⟨tc, xc, c1, c3⟩ := hC
  refine ⟨_, .mk 10 0 [] 0 [xa] [.mk 0 c.s (l.map Tk.s) xb, .mk 0 c2.s [] xc], ((((((hP.app a1 (hp _)).app hQ (hq _)).app hK (hq2 _ _)).app b1 (hK2 _ _)).app hS (hs1 _)).app c1 (hs2 _ _)).app hR (hr _), fun En n a i r hn hf => ?_⟩
  obtain ⟨n', rfl⟩ : ∃ n', n = n' + 1 := ⟨n - 1, by omega⟩
  have lm : ∀ j : Nat, (l.map (Tk.mv j)).map Tk.s = l.map Tk.s := fun j => by rw [List.map_map]; rfl
  obtain ⟨u, hu, hub⟩ := c3 En n' a ((P ++ A ++ Q ++ K ++ B ++ S).length + i) ((v.mv (P ++ A ++ Q ++ K ++ B ++ S ++ C).length).mv i :: r) (by omega) (fol_sign hv (by decide))
  obtain ⟨y, hy, hyb⟩ := b2 En n' a ((P ++ A ++ Q ++ K).length + i) ((z.mv (P ++ A ++ Q ++ K ++ B).length).mv i :: (c2.mv (P ++ A ++ Q ++ K ++ B).length).mv i :: (w2.mv (P ++ A ++ Q ++ K ++ B).length).mv i :: (tc.map (Tk.mv ((P ++ A ++ Q ++ K ++ B ++ S).length + i)) ++ ((v.mv (P ++ A ++ Q ++ K ++ B ++ S ++ C).length).mv i :: r))) (by omega) (fol_sign hz (by decide))
  obtain ⟨x, hx, hxb⟩ := a2 En n' a (P.length + i) ((o.mv (P ++ A).length).mv i :: (k.mv (P ++ A).length).mv i :: ((c.mv (P ++ A ++ Q).length).mv i :: (l.map (Tk.mv ((P ++ A ++ Q).length + i)) ++ (w.mv (P ++ A ++ Q).length).mv i :: (tb.map (Tk.mv ((P ++ A ++ Q ++ K).length + i)) ++ ((z.mv (P ++ A ++ Q ++ K ++ B).length).mv i :: (c2.mv (P ++ A ++ Q ++ K ++ B).length).mv i :: (w2.mv (P ++ A ++ Q ++ K ++ B).length).mv i :: (tc.map (Tk.mv ((P ++ A ++ Q ++ K ++ B ++ S).length + i)) ++ ((v.mv (P ++ A ++ Q ++ K ++ B ++ S ++ C).length).mv i :: r))))))) (by omega) (fol_word ho (by decide))
  have halt := alt_run (En := En) (X := exprF En n') (c := (c.mv (P ++ A ++ Q).length).mv i) (w := (w.mv (P ++ A ++ Q).length).mv i) (l := l.map (Tk.mv ((P ++ A ++ Q).length + i))) hc (fun t ht => by obtain ⟨q, hq, rfl⟩ := List.mem_map.1 ht; exact hl q hq) hw hy
  rw [lm] at halt
  have halt2 := alt_run (En := En) (X := exprF En n') (c := (c2.mv (P ++ A ++ Q ++ K ++ B).length).mv i) (w := (w2.mv (P ++ A ++ Q ++ K ++ B).length).mv i) (l := []) hc2 (fun t ht => by cases ht) hw2 hu
  refine ⟨.mk 10 (b.mv i).p [] 0 [x] [.mk ((c.mv (P ++ A ++ Q).length).mv i).p c.s (l.map Tk.s) y, .mk ((c2.mv (P ++ A ++ Q ++ K ++ B).length).mv i).p c2.s [] u], ?_, by simp only [Ex.bare, Ex.bares, Al.bares, Al.bare, hxb, hyb, hub]⟩
  simp only [List.map_append, List.map_cons, List.map_nil, mv_two, List.cons_append, List.append_assoc, List.nil_append] at hx halt halt2 ⊢
  show exprStep En (exprF En n') _ = _
  unfold exprStep
  rw [if_neg (by show ¬ beg (srt b) = 6; rw [hb]; decide), if_neg (by show ¬ beg (srt b) = 7; rw [hb]; decide), if_neg (by show ¬ beg (srt b) = 9; rw [hb]; decide), if_pos (by show beg (srt b) = 10; rw [hb]; decide)]
  unfold casesF
  rw [take_hd (t := b.mv i) hb]
  dsimp only
  rw [hx]
  dsimp only
  rw [take_hd (t := (o.mv _).mv i) ho]
  dsimp only
  rw [take_hd (t := (k.mv _).mv i) hk]
  dsimp only
  unfold rowsF
  rw [halt]
  dsimp only
  obtain ⟨f', hrm⟩ := rows_more (sep := sS tSemi) (most := many) (one := altF En (exprF En n')) (l := [Al.mk ((c.mv (P ++ (A ++ Q)).length).mv i).p c.s (l.map Tk.s) y]) (t := (z.mv (P ++ (A ++ (Q ++ (K ++ B)))).length).mv i) (Nat.le_refl _) (by show 1 < many; decide) hz halt2
  erw [hrm]
  rw [rows_end (by show srt v ≠ _; rw [hv]; decide)]
  dsimp only
  rw [take_hd (t := (v.mv _).mv i) hv]
  rfl

end Go.Proofs.Ytjfogodfpmfhhaa

namespace Go.Proofs.Ytjfogodfpmfhhaa
set_option linter.unusedVariables false
set_option linter.unusedSimpArgs false

theorem ap_nm (j : Nat) (hj : j < 5) : AP 0 (nm5.getD j []) := by
  have h : j = 0 ∨ j = 1 ∨ j = 2 ∨ j = 3 ∨ j = 4 := by omega
  rcases h with rfl | rfl | rfl | rfl | rfl
  · exact AP.leaf (s := [120]) (t := ⟨1, 0, [120], 0⟩) (Lp.of rfl (by decide)) (by decide)
  · exact AP.leaf (s := [121]) (t := ⟨1, 0, [121], 0⟩) (Lp.of rfl (by decide)) (by decide)
  · exact AP.leaf (s := [102]) (t := ⟨1, 0, [102], 0⟩) (Lp.of rfl (by decide)) (by decide)
  · exact AP.leaf (s := [103]) (t := ⟨1, 0, [103], 0⟩) (Lp.of rfl (by decide)) (by decide)
  · exact AP.leaf (s := [105, 100]) (t := ⟨1, 0, [105, 100], 0⟩) (Lp.of rfl (by decide)) (by decide)
theorem ap_cn (j : Nat) (hj : j < 5) : AP 0 (cn5.getD j []) := by
  have h : j = 0 ∨ j = 1 ∨ j = 2 ∨ j = 3 ∨ j = 4 := by omega
  rcases h with rfl | rfl | rfl | rfl | rfl
  · exact AP.leaf (s := [78, 105, 108]) (t := ⟨2, 0, [78, 105, 108], 0⟩) (Lp.of rfl (by decide)) (by decide)
  · exact AP.leaf (s := [67, 111, 110, 115]) (t := ⟨2, 0, [67, 111, 110, 115], 0⟩) (Lp.of rfl (by decide)) (by decide)
  · exact AP.leaf (s := [83, 111, 109, 101]) (t := ⟨2, 0, [83, 111, 109, 101], 0⟩) (Lp.of rfl (by decide)) (by decide)
  · exact AP.leaf (s := [78, 111, 110, 101]) (t := ⟨2, 0, [78, 111, 110, 101], 0⟩) (Lp.of rfl (by decide)) (by decide)
  · exact AP.leaf (s := [79, 100, 100]) (t := ⟨2, 0, [79, 100, 100], 0⟩) (Lp.of rfl (by decide)) (by decide)
theorem ap_bl (j : Nat) (hj : j < 2) : AP 0 (bl2.getD j []) := by
  have h : j = 0 ∨ j = 1 := by omega
  rcases h with rfl | rfl
  · exact AP.leaf (s := [116, 114, 117, 101]) (t := ⟨4, 0, [116, 114, 117, 101], 0⟩) (Lp.of rfl (by decide)) (by decide)
  · exact AP.leaf (s := [102, 97, 108, 115, 101]) (t := ⟨4, 0, [102, 97, 108, 115, 101], 0⟩) (Lp.of rfl (by decide)) (by decide)
theorem ap_x : AP 0 [120] := AP.leaf (s := [120]) (t := ⟨1, 0, [120], 0⟩) (Lp.of rfl (by decide)) (by decide)
def digOk (n : Nat) : Bool := match lexL (digL n) 0 with
  | Sum.inr [t] => decide (t.k = 3) && decide (t.p = 0) && decide (t.s = []) && (List.range (digL n).length).all (fun j => decide ((digL n)[j]? = some (45 : UInt8) → (digL n)[j + 1]? = some (62 : UInt8)))
  | _ => false
theorem dig_all : (List.range 256).all digOk = true := by decide +kernel
theorem ap_dig (n : Nat) (hn : n ≤ 255) : AP 0 (digL n) := by
  have h := List.all_eq_true.1 dig_all n (List.mem_range.2 (by omega))
  unfold digOk at h
  split at h
  · rename_i t ht
    simp only [Bool.and_eq_true, decide_eq_true_eq] at h
    obtain ⟨⟨⟨h1, h2⟩, h3⟩, h4⟩ := h
    refine AP.leaf (t := t) (Lp.of ht h4) ?_
    obtain ⟨k, p, s, m⟩ := t
    dsimp only at h1 h3
    subst h1 h3
    rfl
  · cases h
theorem pc_lam (i j : Nat) (hi : i < 3) (hj : j < 3) : ∃ b m w l, Lp ([92] ++ lmA.getD i [] ++ lmB.getD j [] ++ [32, 45, 62, 32]) (b :: m :: l ++ [w]) ∧ srt b = sS tBack ∧ srt m = sName ∧ (∀ t ∈ l, srt t = sName) ∧ srt w = sS tArrow ∧ ∀ r, parted ([92] ++ lmA.getD i [] ++ lmB.getD j [] ++ [32, 45, 62, 32]) r := by
  have h1 : i = 0 ∨ i = 1 ∨ i = 2 := by omega
  have h2 : j = 0 ∨ j = 1 ∨ j = 2 := by omega
  rcases h1 with rfl | rfl | rfl <;> rcases h2 with rfl | rfl | rfl
  · exact ⟨⟨5, 0, [92], 0⟩, ⟨1, 1, [120], 0⟩, ⟨5, 3, [45, 62], 0⟩, [], Lp.of rfl (by decide), rfl, rfl, by decide, rfl, fun r => parted_l (c := 32) rfl rfl⟩
  · exact ⟨⟨5, 0, [92], 0⟩, ⟨1, 1, [120], 0⟩, ⟨5, 5, [45, 62], 0⟩, [⟨1, 3, [103], 0⟩], Lp.of rfl (by decide), rfl, rfl, by decide, rfl, fun r => parted_l (c := 32) rfl rfl⟩
  · exact ⟨⟨5, 0, [92], 0⟩, ⟨1, 1, [120], 0⟩, ⟨5, 7, [45, 62], 0⟩, [⟨1, 3, [120], 0⟩, ⟨1, 5, [121], 0⟩], Lp.of rfl (by decide), rfl, rfl, by decide, rfl, fun r => parted_l (c := 32) rfl rfl⟩
  · exact ⟨⟨5, 0, [92], 0⟩, ⟨1, 1, [121], 0⟩, ⟨5, 3, [45, 62], 0⟩, [], Lp.of rfl (by decide), rfl, rfl, by decide, rfl, fun r => parted_l (c := 32) rfl rfl⟩
  · exact ⟨⟨5, 0, [92], 0⟩, ⟨1, 1, [121], 0⟩, ⟨5, 5, [45, 62], 0⟩, [⟨1, 3, [103], 0⟩], Lp.of rfl (by decide), rfl, rfl, by decide, rfl, fun r => parted_l (c := 32) rfl rfl⟩
  · exact ⟨⟨5, 0, [92], 0⟩, ⟨1, 1, [121], 0⟩, ⟨5, 7, [45, 62], 0⟩, [⟨1, 3, [120], 0⟩, ⟨1, 5, [121], 0⟩], Lp.of rfl (by decide), rfl, rfl, by decide, rfl, fun r => parted_l (c := 32) rfl rfl⟩
  · exact ⟨⟨5, 0, [92], 0⟩, ⟨1, 1, [102], 0⟩, ⟨5, 3, [45, 62], 0⟩, [], Lp.of rfl (by decide), rfl, rfl, by decide, rfl, fun r => parted_l (c := 32) rfl rfl⟩
  · exact ⟨⟨5, 0, [92], 0⟩, ⟨1, 1, [102], 0⟩, ⟨5, 5, [45, 62], 0⟩, [⟨1, 3, [103], 0⟩], Lp.of rfl (by decide), rfl, rfl, by decide, rfl, fun r => parted_l (c := 32) rfl rfl⟩
  · exact ⟨⟨5, 0, [92], 0⟩, ⟨1, 1, [102], 0⟩, ⟨5, 7, [45, 62], 0⟩, [⟨1, 3, [120], 0⟩, ⟨1, 5, [121], 0⟩], Lp.of rfl (by decide), rfl, rfl, by decide, rfl, fun r => parted_l (c := 32) rfl rfl⟩
theorem pc_let (i : Nat) (hi : i < 3) : ∃ b m w l, Lp ([108, 101, 116, 32] ++ ltA.getD i [] ++ [32, 61, 32]) (b :: m :: l ++ [w]) ∧ srt b = sW tLet ∧ srt m = sName ∧ (∀ t ∈ l, srt t = sName) ∧ srt w = sS tEq ∧ ∀ r, parted ([108, 101, 116, 32] ++ ltA.getD i [] ++ [32, 61, 32]) r := by
  have h1 : i = 0 ∨ i = 1 ∨ i = 2 := by omega
  rcases h1 with rfl | rfl | rfl
  · exact ⟨⟨4, 0, [108, 101, 116], 0⟩, ⟨1, 4, [105, 100], 0⟩, ⟨5, 9, [61], 0⟩, [⟨1, 7, [120], 0⟩], Lp.of rfl (by decide), rfl, rfl, by decide, rfl, fun r => parted_l (c := 32) rfl rfl⟩
  · exact ⟨⟨4, 0, [108, 101, 116], 0⟩, ⟨1, 4, [121], 0⟩, ⟨5, 6, [61], 0⟩, [], Lp.of rfl (by decide), rfl, rfl, by decide, rfl, fun r => parted_l (c := 32) rfl rfl⟩
  · exact ⟨⟨4, 0, [108, 101, 116], 0⟩, ⟨1, 4, [102], 0⟩, ⟨5, 10, [61], 0⟩, [⟨1, 6, [120], 0⟩, ⟨1, 8, [121], 0⟩], Lp.of rfl (by decide), rfl, rfl, by decide, rfl, fun r => parted_l (c := 32) rfl rfl⟩
theorem parted_end (s Q r : List UInt8) {c : UInt8} (h : Q.getLast? = some c) (hc : resN c.toNat = false) : parted (s ++ Q) r := by
  refine parted_l (c := c) ?_ hc
  rw [List.getLast?_append, h]; rfl
theorem pc_alt (i : Nat) (hi : i < 3) : ∃ c w l, Lp (caA.getD i []) (c :: l ++ [w]) ∧ srt c = sCon ∧ (∀ t ∈ l, srt t = sName) ∧ srt w = sS tArrow ∧ ∀ s r, parted (s ++ caA.getD i []) r := by
  have h1 : i = 0 ∨ i = 1 ∨ i = 2 := by omega
  rcases h1 with rfl | rfl | rfl
  · exact ⟨⟨2, 0, [67, 111, 110, 115], 0⟩, ⟨5, 9, [45, 62], 0⟩, [⟨1, 5, [120], 0⟩, ⟨1, 7, [121], 0⟩], Lp.of rfl (by decide), rfl, by decide, rfl, fun s r => parted_end s _ r (c := 32) rfl rfl⟩
  · exact ⟨⟨2, 0, [83, 111, 109, 101], 0⟩, ⟨5, 7, [45, 62], 0⟩, [⟨1, 5, [120], 0⟩], Lp.of rfl (by decide), rfl, by decide, rfl, fun s r => parted_end s _ r (c := 32) rfl rfl⟩
  · exact ⟨⟨2, 0, [78, 105, 108], 0⟩, ⟨5, 4, [45, 62], 0⟩, [], Lp.of rfl (by decide), rfl, by decide, rfl, fun s r => parted_end s _ r (c := 32) rfl rfl⟩

theorem ep_y : EP 1 [121] := (AP.leaf (s := [121]) (t := ⟨1, 0, [121], 0⟩) (Lp.of rfl (by decide)) (by decide)).ep
theorem ep_fx : EP 1 [102, 32, 120] := AP.app2 (A := [102]) (Q := [32]) (B := [120]) (AP.leaf (t := ⟨1, 0, [102], 0⟩) (Lp.of rfl (by decide)) (by decide)) (Lp.of rfl (by decide)) (fun s => parted_r rfl) (fun s r => parted_end s _ r (c := 32) rfl rfl) ap_x

/-- An atom by numbers. -/
theorem atomS_ap {d : Nat} {E A : List Nat → By} (ns : List Nat) (hx : ∀ x ∈ ns, x ≤ 255) (hE : ∀ ms, (∀ x ∈ ms, x ∈ ns) → EP (d + 1) (E ms)) (hA : ∀ ms, (∀ x ∈ ms, x ∈ ns) → AP d (A ms)) : AP (d + 1) (atomS E A ns) := by
  cases ns with
  | nil => exact ap_x.mono (by omega)
  | cons n r =>
    have h1 := hE r fun x h => List.mem_cons_of_mem _ h
    have h2 := hA (halfL (n :: r)) fun x h => List.mem_of_mem_drop h
    rw [atomS]
    split
    · exact (ap_nm _ (Nat.mod_lt _ (by omega))).mono (by omega)
    · split
      · exact (ap_cn _ (Nat.mod_lt _ (by omega))).mono (by omega)
      · split
        · exact (ap_dig n (hx n (by simp))).mono (by omega)
        · split
          · exact (ap_bl _ (Nat.mod_lt _ (by omega))).mono (by omega)
          · split
            · exact EP.tuple (P := [40]) (Q := [44, 32]) (R := [41]) (b := ⟨5, 0, [40], 0⟩) (c := ⟨5, 0, [44], 0⟩) (v := ⟨5, 0, [41], 0⟩) (Lp.of rfl (by decide)) rfl (fun r => parted_l (c := 40) rfl rfl) h1 (Lp.of rfl (by decide)) rfl (fun s => parted_r rfl) (fun s r => parted_end s _ r (c := 32) rfl rfl) h2.ep (Lp.of rfl (by decide)) rfl (fun s => parted_r rfl)
            · exact EP.brack (P := [40]) (R := [41]) (b := ⟨5, 0, [40], 0⟩) (v := ⟨5, 0, [41], 0⟩) (Lp.of rfl (by decide)) rfl (fun r => parted_l (c := 40) rfl rfl) h1 (Lp.of rfl (by decide)) rfl (fun s => parted_r rfl)
/-- An expression by numbers. -/
theorem exprS_ep {d : Nat} {E A A1 : List Nat → By} (ns : List Nat) (hx : ∀ x ∈ ns, x ≤ 255) (hE : ∀ ms, (∀ x ∈ ms, x ∈ ns) → EP (d + 1) (E ms)) (hA : ∀ ms, (∀ x ∈ ms, x ∈ ns) → AP d (A ms)) (h1 : AP (d + 1) (A1 ns)) : EP (d + 2) (exprS E A A1 ns) := by
  cases ns with
  | nil => exact (ap_x.ep).mono (by omega)
  | cons n r =>
    have g1 := hE r fun x h => List.mem_cons_of_mem _ h
    have g2 := hE (halfL (n :: r)) fun x h => List.mem_of_mem_drop h
    have g3 := hA r fun x h => List.mem_cons_of_mem _ h
    have g4 := hA (halfL (n :: r)) fun x h => List.mem_of_mem_drop h
    have g5 := hA (halfL r) fun x h => List.mem_cons_of_mem _ (List.mem_of_mem_drop h)
    rw [exprS]
    split
    · obtain ⟨b, m, w, l, p1, p2, p3, p4, p5, p6⟩ := pc_lam (n / 10 % 3) (n / 30 % 3) (Nat.mod_lt _ (by omega)) (Nat.mod_lt _ (by omega))
      exact EP.lam p1 p2 p3 p4 p5 p6 g1
    · split
      · obtain ⟨b, m, w, l, p1, p2, p3, p4, p5, p6⟩ := pc_let (n / 10 % 3) (Nat.mod_lt _ (by omega))
        exact EP.let_ (Q := [32, 105, 110, 32]) (v := ⟨4, 1, [105, 110], 0⟩) p1 p2 p3 p4 p5 p6 g1 (Lp.of rfl (by decide)) rfl (fun s => parted_r rfl) (fun s r => parted_end s _ r (c := 32) rfl rfl) g2
      · split
        · exact EP.if_ (P := [105, 102, 32]) (Q := [32, 116, 104, 101, 110, 32]) (R := [32, 101, 108, 115, 101, 32]) (b := ⟨4, 0, [105, 102], 0⟩) (v := ⟨4, 1, [116, 104, 101, 110], 0⟩) (w := ⟨4, 1, [101, 108, 115, 101], 0⟩) (Lp.of rfl (by decide)) rfl (fun r => parted_l (c := 32) rfl rfl) g1 (Lp.of rfl (by decide)) rfl (fun s => parted_r rfl) (fun s r => parted_end s _ r (c := 32) rfl rfl) g4.ep (Lp.of rfl (by decide)) rfl (fun s => parted_r rfl) (fun s r => parted_end s _ r (c := 32) rfl rfl) g2
        · split
          · obtain ⟨c, w, l, p1, p2, p3, p4, p5⟩ := pc_alt (n / 10 % 3) (Nat.mod_lt _ (by omega))
            have hj : n / 30 % 3 = 0 ∨ n / 30 % 3 = 1 ∨ n / 30 % 3 = 2 := by omega
            rcases hj with hj | hj | hj
            · rw [hj, show caB.getD 0 [] = [] from rfl, List.append_nil]
              exact EP.case1 (P := [99, 97, 115, 101, 32]) (Q := [32, 111, 102, 32, 123]) (R := [125]) (b := ⟨4, 0, [99, 97, 115, 101], 0⟩) (o := ⟨4, 1, [111, 102], 0⟩) (k := ⟨5, 4, [123], 0⟩) (v := ⟨5, 0, [125], 0⟩) (Lp.of rfl (by decide)) rfl (fun r => parted_l (c := 32) rfl rfl) g1 (Lp.of rfl (by decide)) rfl rfl (fun s => parted_r rfl) (fun s r => parted_end s _ r (c := 123) rfl rfl) p1 p2 p3 p4 p5 g2 (Lp.of rfl (by decide)) rfl (fun s => parted_r rfl)
            · rw [hj, show caB.getD 1 [] = [59, 32, 78, 111, 110, 101, 32, 45, 62, 32] ++ [121] from rfl, ← List.append_assoc]
              exact EP.case2 (P := [99, 97, 115, 101, 32]) (Q := [32, 111, 102, 32, 123]) (S := [59, 32, 78, 111, 110, 101, 32, 45, 62, 32]) (R := [125]) (b := ⟨4, 0, [99, 97, 115, 101], 0⟩) (o := ⟨4, 1, [111, 102], 0⟩) (k := ⟨5, 4, [123], 0⟩) (z := ⟨5, 0, [59], 0⟩) (c2 := ⟨2, 2, [78, 111, 110, 101], 0⟩) (w2 := ⟨5, 7, [45, 62], 0⟩) (v := ⟨5, 0, [125], 0⟩) (Lp.of rfl (by decide)) rfl (fun r => parted_l (c := 32) rfl rfl) g1 (Lp.of rfl (by decide)) rfl rfl (fun s => parted_r rfl) (fun s r => parted_end s _ r (c := 123) rfl rfl) p1 p2 p3 p4 p5 g2 (Lp.of rfl (by decide)) rfl rfl rfl (fun s => parted_r rfl) (fun s r => parted_end s _ r (c := 32) rfl rfl) (ep_y.mono (by omega)) (Lp.of rfl (by decide)) rfl (fun s => parted_r rfl)
            · rw [hj, show caB.getD 2 [] = [59, 32, 78, 105, 108, 32, 45, 62, 32] ++ [102, 32, 120] from rfl, ← List.append_assoc]
              exact EP.case2 (P := [99, 97, 115, 101, 32]) (Q := [32, 111, 102, 32, 123]) (S := [59, 32, 78, 105, 108, 32, 45, 62, 32]) (R := [125]) (b := ⟨4, 0, [99, 97, 115, 101], 0⟩) (o := ⟨4, 1, [111, 102], 0⟩) (k := ⟨5, 4, [123], 0⟩) (z := ⟨5, 0, [59], 0⟩) (c2 := ⟨2, 2, [78, 105, 108], 0⟩) (w2 := ⟨5, 6, [45, 62], 0⟩) (v := ⟨5, 0, [125], 0⟩) (Lp.of rfl (by decide)) rfl (fun r => parted_l (c := 32) rfl rfl) g1 (Lp.of rfl (by decide)) rfl rfl (fun s => parted_r rfl) (fun s r => parted_end s _ r (c := 123) rfl rfl) p1 p2 p3 p4 p5 g2 (Lp.of rfl (by decide)) rfl rfl rfl (fun s => parted_r rfl) (fun s r => parted_end s _ r (c := 32) rfl rfl) (ep_fx.mono (by omega)) (Lp.of rfl (by decide)) rfl (fun s => parted_r rfl)
          · split
            · exact (AP.app2 (Q := [32]) g3 (Lp.of rfl (by decide)) (fun s => parted_r rfl) (fun s r => parted_end s _ r (c := 32) rfl rfl) g4).mono (by omega)
            · split
              · exact (AP.app3 (Q := [32]) g3 (Lp.of rfl (by decide)) (fun s => parted_r rfl) (fun s r => parted_end s _ r (c := 32) rfl rfl) g4 g5).mono (by omega)
              · exact h1.ep
/-- The texts of expressions and atoms are read as such, wherever they stand. -/
theorem txt_ep : ∀ (d : Nat) (ns : List Nat), (∀ x ∈ ns, x ≤ 255) → EP (d + 1) (exprT d ns) ∧ AP d (atomT d ns)
  | 0, ns, _ => ⟨ap_x.ep, ap_x⟩
  | d + 1, ns, hx => by
    have ih : ∀ ms, (∀ x ∈ ms, x ∈ ns) → EP (d + 1) (exprT d ms) ∧ AP d (atomT d ms) := fun ms h => txt_ep d ms fun x hm => hx x (h x hm)
    have ha : AP (d + 1) (atomS (exprT d) (atomT d) ns) := atomS_ap ns hx (fun ms h => (ih ms h).1) (fun ms h => (ih ms h).2)
    exact ⟨exprS_ep ns hx (fun ms h => (ih ms h).1) (fun ms h => (ih ms h).2) ha, ha⟩

end Go.Proofs.Ytjfogodfpmfhhaa

namespace Go.Proofs.Ytjfogodfpmfhhaa
set_option linter.unusedVariables false
set_option linter.unusedSectionVars false
set_option linter.unusedSimpArgs false

/-- Tokens behind the reader's. -/
def PS.plus (σ : PS) (r : List Tk) : PS := ⟨σ.ts ++ r, σ.st, σ.at_⟩
theorem plus_next {σ : PS} {r : List Tk} (h : σ.ts ≠ []) : (σ.plus r).next = σ.next := by
  obtain ⟨ts, st, at_⟩ := σ
  cases ts with
  | nil => exact absurd rfl h
  | cons t ts => rfl
theorem plus_sees {σ : PS} {r : List Tk} (h : σ.ts ≠ []) (s : Srt) : (σ.plus r).sees s = σ.sees s := by unfold PS.sees; rw [plus_next h]
theorem plus_head {σ : PS} {r : List Tk} (h : σ.ts ≠ []) : (σ.plus r).head = σ.head := by
  obtain ⟨ts, st, at_⟩ := σ
  cases ts with
  | nil => exact absurd rfl h
  | cons t ts => rfl
theorem plus_tail {σ : PS} {r : List Tk} (h : σ.ts ≠ []) : (σ.plus r).tail = σ.tail.plus r := by
  obtain ⟨ts, st, at_⟩ := σ
  cases ts with
  | nil => exact absurd rfl h
  | cons t ts => rfl
theorem ne_of_tail {σ : PS} (h : σ.tail.ts ≠ []) : σ.ts ≠ [] := by
  obtain ⟨ts, st, at_⟩ := σ
  intro e
  apply h
  show ts.tail = []
  rw [show ts = [] from e]; rfl
/-- take that did not stop: there was such a token. -/
theorem take_sees {En : Nat} {σ : PS} {s : Srt} (hk : σ.st = true → σ.ts = []) (h : (σ.take En s).2.ts ≠ []) : σ.sees s = true ∧ σ.ts ≠ [] := by
  unfold PS.take at h
  by_cases hs : σ.sees s = true
  · rw [if_pos hs] at h; exact ⟨hs, ne_of_tail h⟩
  · rw [if_neg hs] at h; exact absurd (stop_lt hk) h
/-- A reader's state is sound: what has stopped has nothing left. -/
def PS.ok (σ : PS) : Prop := σ.st = true → σ.ts = []
theorem take_ok {En : Nat} {σ : PS} {s : Srt} (h : σ.ok) : (σ.take En s).2.ok := by
  unfold PS.take
  split
  · intro e
    show σ.ts.tail = []
    rw [h e]; rfl
  · intro _; exact stop_lt h
theorem take_ext {En En' : Nat} {σ : PS} {s : Srt} {r : List Tk} (hk : σ.ok) (h : (σ.take En s).2.ts ≠ []) : (σ.plus r).take En' s = ((σ.take En s).1, (σ.take En s).2.plus r) := by
  obtain ⟨h1, h2⟩ := take_sees hk h
  unfold PS.take
  rw [plus_sees h2, if_pos h1, if_pos h1, plus_head h2, plus_tail h2]
theorem names_ok {σ : PS} (h : σ.ok) : σ.names.2.ok := by
  intro e
  show (namesL σ.ts).2 = []
  rw [h e]; rfl
theorem namesL_ext : ∀ (l r : List Tk), (namesL l).2 ≠ [] → namesL (l ++ r) = ((namesL l).1, (namesL l).2 ++ r)
  | [], r, h => absurd rfl h
  | t :: l, r, h => by
    rw [List.cons_append, namesL, namesL]
    by_cases hs : srt t = sName
    · rw [if_pos hs, if_pos hs]
      rw [namesL, if_pos hs] at h
      rw [namesL_ext l r h]
    · rw [if_neg hs, if_neg hs]; rfl
theorem names_ext {σ : PS} {r : List Tk} (h : σ.names.2.ts ≠ []) : (σ.plus r).names = (σ.names.1, σ.names.2.plus r) := by
  unfold PS.names PS.plus
  dsimp only
  rw [namesL_ext σ.ts r h]

def Okp {A : Type} (X : PS → A × PS) : Prop := ∀ σ : PS, σ.ok → (X σ).2.ok
theorem tail_ok {σ : PS} (h : σ.ok) : σ.tail.ok := by
  intro e
  show σ.ts.tail = []
  rw [h e]; rfl
theorem stop_ok {En : Nat} {σ : PS} (h : σ.ok) : (σ.stop En).ok := fun _ => stop_lt h
theorem rowsL_ok {A : Type} {sep : Srt} {most : Nat} {one : PS → A × PS} (h : Okp one) : ∀ (f : Nat) (l : List A), Okp (rowsL sep most one f l)
  | 0, l => fun σ hs => hs
  | f + 1, l => fun σ hs => by
    unfold rowsL; split
    · exact rowsL_ok h f _ _ (h _ (tail_ok hs))
    · exact hs
theorem rowsF_ok {A : Type} {sep : Srt} {most : Nat} {one : PS → A × PS} (h : Okp one) : Okp (rowsF sep most one) := fun σ hs => rowsL_ok h _ _ _ (h σ hs)
theorem bracketF_ok {A : Type} {En : Nat} {one : PS → A × PS} (h : Okp one) : Okp (bracketF En one) := fun σ hs => take_ok (rowsF_ok h _ (take_ok hs))
theorem atomTypeF_ok {En : Nat} {vs : List By} {T : PS → Ty × PS} (h : Okp T) : Okp (atomTypeF En vs T) := fun σ hs => by
  unfold atomTypeF
  split
  · exact take_ok hs
  · split
    · exact take_ok hs
    · split
      · exact bracketF_ok h σ hs
      · exact stop_ok hs
theorem atomTypesL_ok {En : Nat} {vs : List By} {T : PS → Ty × PS} (h : Okp T) : ∀ (f : Nat) (l : List Ty), Okp (atomTypesL En vs T f l)
  | 0, l => fun σ hs => hs
  | f + 1, l => fun σ hs => by
    unfold atomTypesL; split
    · exact atomTypesL_ok h f _ _ (atomTypeF_ok h σ hs)
    · exact hs
theorem leftTypeF_ok {En : Nat} {vs : List By} {T : PS → Ty × PS} (h : Okp T) : Okp (leftTypeF En vs T) := fun σ hs => by
  unfold leftTypeF; split
  · exact atomTypesL_ok h _ _ _ (take_ok hs)
  · exact atomTypeF_ok h σ hs
theorem typF_ok (En : Nat) (vs : List By) : ∀ n, Okp (typF En vs n)
  | 0 => fun σ hs => hs
  | n + 1 => fun σ hs => by
    show (typStep En vs (typF En vs n) σ).2.ok
    unfold typStep; split
    · exact typF_ok En vs n _ (tail_ok (leftTypeF_ok (typF_ok En vs n) σ hs))
    · exact leftTypeF_ok (typF_ok En vs n) σ hs
theorem conF_ok (En : Nat) (vs : List By) (n : Nat) : Okp (conF En vs n) := fun σ hs => atomTypesL_ok (typF_ok En vs n) _ _ _ (take_ok hs)
section
variable {En : Nat} {X : PS → Ex × PS} (h : Okp X)
include h
theorem lamF_ok : Okp (lamF En X) := fun σ hs => h _ (take_ok (names_ok (take_ok (take_ok hs))))
theorem bindF_ok : Okp (bindF En X) := fun σ hs => h _ (take_ok (names_ok (take_ok hs)))
theorem letF_ok : Okp (letF En X) := fun σ hs => h _ (take_ok (bindF_ok h _ (take_ok hs)))
theorem choiceF_ok : Okp (choiceF En X) := fun σ hs => h _ (take_ok (h _ (take_ok (h _ (take_ok hs)))))
theorem altF_ok : Okp (altF En X) := fun σ hs => h _ (take_ok (names_ok (take_ok hs)))
theorem casesF_ok : Okp (casesF En X) := fun σ hs => take_ok (rowsF_ok (altF_ok h) _ (take_ok (take_ok (h _ (take_ok hs)))))
theorem tupleF_ok : Okp (tupleF En X) := fun σ hs => bracketF_ok h σ hs
theorem atomF_ok : Okp (atomF En X) := fun σ hs => by
  unfold atomF; split
  · exact tail_ok hs
  · split
    · exact tupleF_ok h σ hs
    · exact stop_ok hs
theorem appL_ok : ∀ (f : Nat) (e : Ex), Okp (appL En X f e)
  | 0, e => fun σ hs => hs
  | f + 1, e => fun σ hs => by
    unfold appL; split
    · exact appL_ok f _ _ (atomF_ok h σ hs)
    · exact hs
theorem appF_ok : Okp (appF En X) := fun σ hs => appL_ok h _ _ _ (atomF_ok h σ hs)
theorem exprStep_ok : Okp (exprStep En X) := fun σ hs => by
  unfold exprStep; split
  · exact lamF_ok h σ hs
  · split
    · exact letF_ok h σ hs
    · split
      · exact choiceF_ok h σ hs
      · split
        · exact casesF_ok h σ hs
        · exact appF_ok h σ hs
end
theorem exprF_ok (En : Nat) : ∀ n, Okp (exprF En n)
  | 0 => fun σ hs => hs
  | n + 1 => exprStep_ok (exprF_ok En n)

theorem plus_seesType {σ : PS} {r : List Tk} (h0 : σ.ts ≠ []) : (σ.plus r).seesType = σ.seesType := by
  unfold PS.seesType; simp only [plus_sees h0]
/-- On fewer tokens than B: what X tells without coming to the end, Y tells with r behind. -/
def ExtB (B : Nat) (r : List Tk) {A : Type} (X Y : PS → A × PS) : Prop := ∀ σ : PS, σ.ok → σ.ts.length < B → (X σ).2.ts ≠ [] → Y (σ.plus r) = ((X σ).1, (X σ).2.plus r)
theorem back {A : Type} {X : PS → A × PS} (h : Dec X) {σ : PS} (hn : (X σ).2.ts ≠ []) : σ.ts ≠ [] := by
  intro e
  have := h σ
  rw [e] at this
  exact hn (List.eq_nil_of_length_eq_zero (by simpa using this))
theorem back_take {En : Nat} {σ : PS} {s : Srt} (hn : (σ.take En s).2.ts ≠ []) : σ.ts ≠ [] := back (X := fun σ => σ.take En s) (fun σ => take_len En σ s) hn
theorem back_names {σ : PS} (hn : σ.names.2.ts ≠ []) : σ.ts ≠ [] := back (X := PS.names) names_len hn
theorem take_short {En : Nat} {σ : PS} {s : Srt} (hk : σ.ok) (h0 : s.k ≠ 0) (hn : (σ.take En s).2.ts ≠ []) : (σ.take En s).2.ts.length < σ.ts.length := take_lt (take_sees hk hn).1 h0
section
variable {A : Type} {B : Nat} {r : List Tk} {sep : Srt} {most : Nat} {one two : PS → A × PS} (hd : Dec one) (ho : Okp one) (hx : ExtB B r one two)
include hd ho hx
theorem rowsL_ext : ∀ (f g : Nat) (l : List A) (σ : PS), σ.ok → σ.ts.length < B → σ.ts.length ≤ f → σ.ts.length + r.length ≤ g → (rowsL sep most one f l σ).2.ts ≠ [] →
    rowsL sep most two g l (σ.plus r) = ((rowsL sep most one f l σ).1, (rowsL sep most one f l σ).2.plus r)
  | 0, g, l, σ, hk, hB, hf, hg, hn => absurd (List.eq_nil_of_length_eq_zero (show σ.ts.length = 0 by omega) : σ.ts = []) hn
  | f + 1, g, l, σ, hk, hB, hf, hg, hn => by
    have h0 : σ.ts ≠ [] := back (X := rowsL sep most one (f + 1) l) (fun τ => rowsL_len hd _ _ τ) hn
    have h1 : 0 < σ.ts.length := List.length_pos_iff.2 h0
    obtain ⟨g', rfl⟩ : ∃ g', g = g' + 1 := ⟨g - 1, by omega⟩
    rw [rowsL, rowsL, plus_sees h0]
    rw [rowsL] at hn
    by_cases hc : l.length < most ∧ σ.sees sep = true
    · rw [if_pos hc, if_pos hc]
      rw [if_pos hc] at hn
      have h2 := hd σ.tail
      rw [tail_len] at h2
      have h3 : (one σ.tail).2.ts ≠ [] := back (X := rowsL sep most one f _) (fun τ => rowsL_len hd _ _ τ) hn
      rw [plus_tail h0, hx σ.tail (tail_ok hk) (by rw [tail_len]; omega) h3]
      exact rowsL_ext f g' _ _ (ho _ (tail_ok hk)) (by omega) (by omega) (by omega) hn
    · rw [if_neg hc, if_neg hc]
theorem rowsF_ext : ExtB B r (rowsF sep most one) (rowsF sep most two) := fun σ hk hB hn => by
  have h3 : (one σ).2.ts ≠ [] := back (X := rowsL sep most one (one σ).2.ts.length [(one σ).1]) (fun τ => rowsL_len hd _ _ τ) hn
  unfold rowsF
  rw [hx σ hk hB h3]
  have h2 := hd σ
  refine rowsL_ext hd ho hx _ _ _ _ (ho σ hk) (by omega) (Nat.le_refl _) ?_ hn
  show _ ≤ ((one σ).2.ts ++ r).length
  rw [List.length_append]
  exact Nat.le_refl _
theorem bracketF_ext {En En' : Nat} : ExtB (B + 1) r (bracketF En one) (bracketF En' two) := fun σ hk hB hn => by
  have n3 : ((rowsF (sS tComma) maxTup one (σ.take En (sS tLpar)).2).2.take En (sS tRpar)).2.ts ≠ [] := hn
  have n2 := back_take n3
  have n1 := back (X := rowsF (sS tComma) maxTup one) (fun τ => rowsF_len hd τ) n2
  have l1 := take_short hk (by decide) n1
  unfold bracketF
  rw [take_ext (En' := En') hk n1, rowsF_ext hd ho hx _ (take_ok hk) (by omega) n2, take_ext (En' := En') (rowsF_ok ho _ (take_ok hk)) n3]
end
theorem plus_len (σ : PS) (r : List Tk) : (σ.plus r).ts.length = σ.ts.length + r.length := by
  show (σ.ts ++ r).length = _
  rw [List.length_append]
section
variable {B : Nat} {r : List Tk} {En En' : Nat} {vs : List By} {T U : PS → Ty × PS} (hd : Dec T) (ho : Okp T) (hx : ExtB B r T U)
include hd ho hx
theorem atomTypeF_ext : ExtB (B + 1) r (atomTypeF En vs T) (atomTypeF En' vs U) := fun σ hk hB hn => by
  have h0 : σ.ts ≠ [] := back (X := atomTypeF En vs T) (fun τ => atomTypeF_len hd τ) hn
  unfold atomTypeF at hn ⊢
  simp only [plus_sees h0]
  split
  · rename_i h1
    rw [if_pos h1] at hn
    show (varTy vs ((σ.plus r).take En' sName).1.s, _) = _
    unfold variableF at hn ⊢
    rw [take_ext (En' := En') hk hn]
  · rename_i h1
    rw [if_neg h1] at hn
    split
    · rename_i h2
      rw [if_pos h2] at hn
      rw [take_ext (En' := En') hk hn]
    · rename_i h2
      rw [if_neg h2] at hn
      split
      · rename_i h3
        rw [if_pos h3] at hn
        unfold tupleTypeF
        rw [bracketF_ext (En := En) (En' := En') hd ho hx σ hk hB hn]
      · rename_i h3
        rw [if_neg h3] at hn
        exact absurd (stop_lt hk) hn
theorem atomTypesL_ext : ∀ (f g : Nat) (l : List Ty) (σ : PS), σ.ok → σ.ts.length < B + 1 → σ.ts.length ≤ f → σ.ts.length + r.length ≤ g → (atomTypesL En vs T f l σ).2.ts ≠ [] →
    atomTypesL En' vs U g l (σ.plus r) = ((atomTypesL En vs T f l σ).1, (atomTypesL En vs T f l σ).2.plus r)
  | 0, g, l, σ, hk, hB, hf, hg, hn => absurd (List.eq_nil_of_length_eq_zero (show σ.ts.length = 0 by omega) : σ.ts = []) hn
  | f + 1, g, l, σ, hk, hB, hf, hg, hn => by
    have h0 : σ.ts ≠ [] := back (X := atomTypesL En vs T (f + 1) l) (fun τ => atomTypesL_len hd _ _ τ) hn
    have h1 : 0 < σ.ts.length := List.length_pos_iff.2 h0
    obtain ⟨g', rfl⟩ : ∃ g', g = g' + 1 := ⟨g - 1, by omega⟩
    rw [atomTypesL, atomTypesL, plus_seesType h0]
    rw [atomTypesL] at hn
    by_cases hc : σ.seesType = true
    · rw [if_pos hc, if_pos hc]
      rw [if_pos hc] at hn
      have h2 := atomTypeF_lt (En := En) (vs := vs) hd hc
      have h3 : (atomTypeF En vs T σ).2.ts ≠ [] := back (X := atomTypesL En vs T f _) (fun τ => atomTypesL_len hd _ _ τ) hn
      rw [atomTypeF_ext (En := En) (En' := En') hd ho hx σ hk hB h3]
      exact atomTypesL_ext f g' _ _ (atomTypeF_ok ho σ hk) (by omega) (by omega) (by omega) hn
    · rw [if_neg hc, if_neg hc]
theorem atomTypesF_ext : ExtB (B + 1) r (atomTypesF En vs T) (atomTypesF En' vs U) := fun σ hk hB hn =>
  atomTypesL_ext hd ho hx _ _ _ _ hk hB (Nat.le_refl _) (by rw [plus_len]; exact Nat.le_refl _) hn
theorem leftTypeF_ext : ExtB (B + 1) r (leftTypeF En vs T) (leftTypeF En' vs U) := fun σ hk hB hn => by
  have h0 : σ.ts ≠ [] := back (X := leftTypeF En vs T) (fun τ => leftTypeF_len hd τ) hn
  unfold leftTypeF at hn ⊢
  simp only [plus_sees h0]
  split
  · rename_i h1
    rw [if_pos h1] at hn
    have n1 : (σ.take En sCon).2.ts ≠ [] := back (X := atomTypesF En vs T) (fun τ => atomTypesL_len hd _ _ τ) hn
    have l1 := take_len En σ sCon
    rw [take_ext (En' := En') hk n1, atomTypesF_ext (En := En) (En' := En') hd ho hx _ (take_ok hk) (by omega) hn]
  · rename_i h1
    rw [if_neg h1] at hn
    exact atomTypeF_ext hd ho hx σ hk hB hn
theorem typStep_ext : ExtB (B + 1) r (typStep En vs T) (typStep En' vs U) := fun σ hk hB hn => by
  have nl : (leftTypeF En vs T σ).2.ts ≠ [] := by
    unfold typStep at hn
    split at hn
    · exact ne_of_tail (back hd hn)
    · exact hn
  have ll := leftTypeF_len (En := En) (vs := vs) hd σ
  unfold typStep at hn ⊢
  rw [leftTypeF_ext (En := En) (En' := En') hd ho hx σ hk hB nl]
  simp only [plus_sees nl]
  split
  · rename_i h1
    rw [if_pos h1] at hn
    have l2 : 0 < (leftTypeF En vs T σ).2.ts.length := List.length_pos_iff.2 nl
    rw [plus_tail nl, hx _ (tail_ok (leftTypeF_ok ho σ hk)) (by rw [tail_len]; omega) hn]
  · rfl
end
theorem typF_ext {En En' : Nat} {vs : List By} {r : List Tk} : ∀ n m, n + r.length ≤ m → ExtB n r (typF En vs n) (typF En' vs m)
  | 0, m, h => fun σ hk hB hn => by omega
  | n + 1, m, h => by
    obtain ⟨m', rfl⟩ : ∃ m', m = m' + 1 := ⟨m - 1, by omega⟩
    exact typStep_ext (typF_len En vs n) (typF_ok En vs n) (typF_ext n m' (by omega))

theorem conF_ext {En En' : Nat} {vs : List By} {r : List Tk} {n m : Nat} (hnm : n + r.length ≤ m) : ExtB n r (conF En vs n) (conF En' vs m) := fun σ hk hB hn => by
  have n1 : (σ.take En sCon).2.ts ≠ [] := back (X := atomTypesF En vs (typF En vs n)) (fun τ => atomTypesL_len (typF_len En vs n) _ _ τ) hn
  have l1 := take_len En σ sCon
  unfold conF at hn ⊢
  rw [take_ext (En' := En') hk n1, atomTypesF_ext (En := En) (En' := En') (typF_len En vs n) (typF_ok En vs n) (typF_ext n m hnm) _ (take_ok hk) (by omega) hn]

section
variable {B : Nat} {r : List Tk} {En En' : Nat} {X Y : PS → Ex × PS} (hd : Dec X) (ho : Okp X) (hx : ExtB B r X Y)
include hd ho hx
theorem bindF_ext : ExtB (B + 1) r (bindF En X) (bindF En' Y) := fun σ hk hB hn => by
  have n3 : ((σ.take En sName).2.names.2.take En (sS tEq)).2.ts ≠ [] := back hd hn
  have n2 := back_take n3
  have n1 := back_names n2
  have l1 := take_short hk (by decide) n1
  have l2 := names_len (σ.take En sName).2
  have l3 := take_len En (σ.take En sName).2.names.2 (sS tEq)
  unfold bindF at hn ⊢
  dsimp only at hn ⊢
  rw [take_ext (En' := En') hk n1]
  dsimp only
  rw [names_ext n2]
  dsimp only
  rw [take_ext (En' := En') (names_ok (take_ok hk)) n3]
  dsimp only
  rw [hx _ (take_ok (names_ok (take_ok hk))) (by omega) hn]
theorem lamF_ext : ExtB (B + 1) r (lamF En X) (lamF En' Y) := fun σ hk hB hn => by
  have n4 : ((((σ.take En (sS tBack)).2.take En sName).2.names.2).take En (sS tArrow)).2.ts ≠ [] := back hd hn
  have n3 := back_take n4
  have n2 := back_names n3
  have n1 := back_take n2
  have l0 := take_short hk (by decide) n1
  have l1 := take_len En (σ.take En (sS tBack)).2 sName
  have l2 := names_len ((σ.take En (sS tBack)).2.take En sName).2
  have l3 := take_len En ((σ.take En (sS tBack)).2.take En sName).2.names.2 (sS tArrow)
  unfold lamF at hn ⊢
  dsimp only at hn ⊢
  rw [take_ext (En' := En') hk n1]
  dsimp only
  rw [take_ext (En' := En') (take_ok hk) n2]
  dsimp only
  rw [names_ext n3]
  dsimp only
  rw [take_ext (En' := En') (names_ok (take_ok (take_ok hk))) n4]
  dsimp only
  rw [hx _ (take_ok (names_ok (take_ok (take_ok hk)))) (by omega) hn]
theorem altF_ext : ExtB (B + 1) r (altF En X) (altF En' Y) := fun σ hk hB hn => by
  have n3 : ((σ.take En sCon).2.names.2.take En (sS tArrow)).2.ts ≠ [] := back hd hn
  have n2 := back_take n3
  have n1 := back_names n2
  have l1 := take_short hk (by decide) n1
  have l2 := names_len (σ.take En sCon).2
  have l3 := take_len En (σ.take En sCon).2.names.2 (sS tArrow)
  unfold altF at hn ⊢
  dsimp only at hn ⊢
  rw [take_ext (En' := En') hk n1]
  dsimp only
  rw [names_ext n2]
  dsimp only
  rw [take_ext (En' := En') (names_ok (take_ok hk)) n3]
  dsimp only
  rw [hx _ (take_ok (names_ok (take_ok hk))) (by omega) hn]
theorem letF_ext : ExtB (B + 1) r (letF En X) (letF En' Y) := fun σ hk hB hn => by
  have n3 : ((bindF En X (σ.take En (sW tLet)).2).2.take En (sW tIn)).2.ts ≠ [] := back hd hn
  have n2 := back_take n3
  have n1 := back (X := bindF En X) (fun τ => bindF_len hd τ) n2
  have l1 := take_short hk (by decide) n1
  have l2 := bindF_len (En := En) hd (σ.take En (sW tLet)).2
  have l3 := take_len En (bindF En X (σ.take En (sW tLet)).2).2 (sW tIn)
  unfold letF at hn ⊢
  dsimp only at hn ⊢
  rw [take_ext (En' := En') hk n1]
  dsimp only
  rw [bindF_ext (En := En) (En' := En') hd ho hx _ (take_ok hk) (by omega) n2]
  dsimp only
  rw [take_ext (En' := En') (bindF_ok ho _ (take_ok hk)) n3]
  dsimp only
  rw [hx _ (take_ok (bindF_ok ho _ (take_ok hk))) (by omega) hn]
theorem choiceF_ext : ExtB (B + 1) r (choiceF En X) (choiceF En' Y) := fun σ hk hB hn => by
  have n5 : ((X ((X (σ.take En (sW tIf)).2).2.take En (sW tThen)).2).2.take En (sW tElse)).2.ts ≠ [] := back hd hn
  have n4 := back_take n5
  have n3 := back hd n4
  have n2 := back_take n3
  have n1 := back hd n2
  have l1 := take_short hk (by decide) n1
  have l2 := hd (σ.take En (sW tIf)).2
  have l3 := take_len En (X (σ.take En (sW tIf)).2).2 (sW tThen)
  have l4 := hd ((X (σ.take En (sW tIf)).2).2.take En (sW tThen)).2
  have l5 := take_len En (X ((X (σ.take En (sW tIf)).2).2.take En (sW tThen)).2).2 (sW tElse)
  have o1 := take_ok (En := En) (s := sW tIf) hk
  have o2 := ho _ o1
  have o3 := take_ok (En := En) (s := sW tThen) o2
  have o4 := ho _ o3
  have o5 := take_ok (En := En) (s := sW tElse) o4
  unfold choiceF at hn ⊢
  dsimp only at hn ⊢
  rw [take_ext (En' := En') hk n1]
  dsimp only
  rw [hx _ o1 (by omega) n2]
  dsimp only
  rw [take_ext (En' := En') o2 n3]
  dsimp only
  rw [hx _ o3 (by omega) n4]
  dsimp only
  rw [take_ext (En' := En') o4 n5]
  dsimp only
  rw [hx _ o5 (by omega) hn]
theorem casesF_ext : ExtB (B + 1) r (casesF En X) (casesF En' Y) := fun σ hk hB hn => by
  have n5 : ((rowsF (sS tSemi) many (altF En X) ((((X (σ.take En (sW tCase)).2).2.take En (sW tOf)).2).take En (sS tLcur)).2).2.take En (sS tRcur)).2.ts ≠ [] := hn
  have n4 := back_take n5
  have n3 := back (X := rowsF (sS tSemi) many (altF En X)) (fun τ => rowsF_len (altF_len hd) τ) n4
  have n2 := back_take n3
  have n1 := back_take n2
  have n0 := back hd n1
  have l1 := take_short hk (by decide) n0
  have l2 := hd (σ.take En (sW tCase)).2
  have l3 := take_len En (X (σ.take En (sW tCase)).2).2 (sW tOf)
  have l4 := take_len En ((X (σ.take En (sW tCase)).2).2.take En (sW tOf)).2 (sS tLcur)
  have o1 := take_ok (En := En) (s := sW tCase) hk
  have o2 := ho _ o1
  have o3 := take_ok (En := En) (s := sW tOf) o2
  have o4 := take_ok (En := En) (s := sS tLcur) o3
  have o5 := rowsF_ok (sep := sS tSemi) (most := many) (altF_ok (En := En) ho) _ o4
  unfold casesF at hn ⊢
  dsimp only at hn ⊢
  rw [take_ext (En' := En') hk n0]
  dsimp only
  rw [hx _ o1 (by omega) n1]
  dsimp only
  rw [take_ext (En' := En') o2 n2]
  dsimp only
  rw [take_ext (En' := En') o3 n3]
  dsimp only
  rw [rowsF_ext (altF_len hd) (altF_ok ho) (altF_ext (En := En) (En' := En') hd ho hx) _ o4 (by omega) n4]
  dsimp only
  rw [take_ext (En' := En') o5 n5]
theorem tupleF_ext : ExtB (B + 1) r (tupleF En X) (tupleF En' Y) := fun σ hk hB hn => by
  unfold tupleF
  rw [bracketF_ext (En := En) (En' := En') hd ho hx σ hk hB hn]
theorem atomF_ext : ExtB (B + 1) r (atomF En X) (atomF En' Y) := fun σ hk hB hn => by
  have h0 : σ.ts ≠ [] := back (X := atomF En X) (fun τ => atomF_len hd τ) hn
  unfold atomF at hn ⊢
  rw [plus_next h0]
  split
  · rename_i h1
    rw [if_pos h1] at hn
    rw [plus_head h0, plus_tail h0]
  · rename_i h1
    rw [if_neg h1] at hn
    split
    · rename_i h2
      rw [if_pos h2] at hn
      exact tupleF_ext hd ho hx σ hk hB hn
    · rename_i h2
      rw [if_neg h2] at hn
      exact absurd (stop_lt hk) hn
theorem appL_ext : ∀ (f g : Nat) (e : Ex) (σ : PS), σ.ok → σ.ts.length < B + 1 → σ.ts.length ≤ f → σ.ts.length + r.length ≤ g → (appL En X f e σ).2.ts ≠ [] →
    appL En' Y g e (σ.plus r) = ((appL En X f e σ).1, (appL En X f e σ).2.plus r)
  | 0, g, e, σ, hk, hB, hf, hg, hn => absurd (List.eq_nil_of_length_eq_zero (show σ.ts.length = 0 by omega) : σ.ts = []) hn
  | f + 1, g, e, σ, hk, hB, hf, hg, hn => by
    have h0 : σ.ts ≠ [] := back (X := appL En X (f + 1) e) (fun τ => appL_len hd _ _ τ) hn
    have h1 : 0 < σ.ts.length := List.length_pos_iff.2 h0
    obtain ⟨g', rfl⟩ : ∃ g', g = g' + 1 := ⟨g - 1, by omega⟩
    have hsa : (σ.plus r).seesAtom = σ.seesAtom := by unfold PS.seesAtom; rw [plus_next h0]
    rw [appL, appL, hsa]
    rw [appL] at hn
    by_cases hc : σ.seesAtom = true
    · rw [if_pos hc, if_pos hc]
      rw [if_pos hc] at hn
      have h2 := atomF_lt (En := En) hd hc
      have h3 : (atomF En X σ).2.ts ≠ [] := back (X := appL En X f _) (fun τ => appL_len hd _ _ τ) hn
      rw [atomF_ext (En := En) (En' := En') hd ho hx σ hk hB h3]
      exact appL_ext f g' _ _ (atomF_ok ho σ hk) (by omega) (by omega) (by omega) hn
    · rw [if_neg hc, if_neg hc]
theorem appF_ext : ExtB (B + 1) r (appF En X) (appF En' Y) := fun σ hk hB hn => by
  have h3 : (atomF En X σ).2.ts ≠ [] := back (X := appL En X (atomF En X σ).2.ts.length (atomF En X σ).1) (fun τ => appL_len hd _ _ τ) hn
  have l1 := atomF_len (En := En) hd σ
  unfold appF
  rw [atomF_ext (En := En) (En' := En') hd ho hx σ hk hB h3]
  exact appL_ext hd ho hx _ _ _ _ (atomF_ok ho σ hk) (by omega) (Nat.le_refl _) (by rw [plus_len]; exact Nat.le_refl _) hn
theorem exprStep_ext : ExtB (B + 1) r (exprStep En X) (exprStep En' Y) := fun σ hk hB hn => by
  have h0 : σ.ts ≠ [] := back (X := exprStep En X) (exprStep_len hd) hn
  unfold exprStep at hn ⊢
  rw [plus_next h0]
  split
  · rename_i h1
    rw [if_pos h1] at hn
    exact lamF_ext hd ho hx σ hk hB hn
  · rename_i h1
    rw [if_neg h1] at hn
    split
    · rename_i h2
      rw [if_pos h2] at hn
      exact letF_ext hd ho hx σ hk hB hn
    · rename_i h2
      rw [if_neg h2] at hn
      split
      · rename_i h3
        rw [if_pos h3] at hn
        exact choiceF_ext hd ho hx σ hk hB hn
      · rename_i h3
        rw [if_neg h3] at hn
        split
        · rename_i h4
          rw [if_pos h4] at hn
          exact casesF_ext hd ho hx σ hk hB hn
        · rename_i h4
          rw [if_neg h4] at hn
          exact appF_ext hd ho hx σ hk hB hn
end
theorem exprF_ext {En En' : Nat} {r : List Tk} : ∀ n m, n + r.length ≤ m → ExtB n r (exprF En n) (exprF En' m)
  | 0, m, h => fun σ hk hB hn => by omega
  | n + 1, m, h => by
    obtain ⟨m', rfl⟩ : ∃ m', m = m' + 1 := ⟨m - 1, by omega⟩
    exact exprStep_ext (exprF_len En n) (exprF_ok En n) (exprF_ext n m' (by omega))

end Go.Proofs.Ytjfogodfpmfhhaa

namespace Go.Proofs.Ytjfogodfpmfhhaa
set_option linter.unusedVariables false

theorem take_fin {En En' : Nat} {σ : PS} {s : Srt} {r : List Tk} (h0 : s.k ≠ 0) (h : (σ.take En s).2.st = false) : σ.ts ≠ [] ∧ (σ.plus r).take En' s = ((σ.take En s).1, (σ.take En s).2.plus r) := by
  have hs : σ.sees s = true := by
    by_cases hs : σ.sees s = true
    · exact hs
    · unfold PS.take at h
      rw [if_neg hs] at h
      exfalso
      have h : (σ.stop En).st = false := h
      unfold PS.stop at h
      split at h
      · rename_i e; rw [e] at h; cases h
      · cases h
  have hn : σ.ts ≠ [] := List.length_pos_iff.1 (sees_pos hs h0)
  refine ⟨hn, ?_⟩
  unfold PS.take
  rw [plus_sees hn, if_pos hs, if_pos hs, plus_head hn, plus_tail hn]
theorem dataF_ext {En En' n m : Nat} {r : List Tk} (hnm : n + r.length ≤ m) {σ : PS} (hk : σ.ok) (hB : σ.ts.length < n) (hst : (dataF En n σ).2.st = false) :
    dataF En' m (σ.plus r) = ((dataF En n σ).1, (dataF En n σ).2.plus r) ∧ (dataF En n σ).2.ok := by
  obtain ⟨a, ha⟩ : ∃ a, σ.take En (sW tData) = a := ⟨_, rfl⟩
  obtain ⟨b, hb⟩ : ∃ b, a.2.take En sCon = b := ⟨_, rfl⟩
  obtain ⟨q, hq⟩ : ∃ q, b.2.names = q := ⟨_, rfl⟩
  obtain ⟨c, hc⟩ : ∃ c, q.2.take En (sS tEq) = c := ⟨_, rfl⟩
  obtain ⟨R, hR⟩ : ∃ R, rowsF (sS tBar) many (conF En q.1 n) c.2 = R := ⟨_, rfl⟩
  have e : dataF En n σ = (⟨b.1.s, b.1.p, q.1, R.1⟩, (R.2.take En (sS tSemi)).2) := by
    unfold dataF
    simp only [ha, hb, hq, hc, hR]
  rw [e] at hst ⊢
  obtain ⟨n5, e5⟩ := take_fin (En' := En') (r := r) (by decide) hst
  have hcl := conF_len En q.1 n
  have o1 : a.2.ok := ha ▸ take_ok hk
  have o2 : b.2.ok := hb ▸ take_ok o1
  have o3 : q.2.ok := hq ▸ names_ok o2
  have o4 : c.2.ok := hc ▸ take_ok o3
  have o5 : R.2.ok := hR ▸ rowsF_ok (conF_ok En q.1 n) _ o4
  have n4 : c.2.ts ≠ [] := back (X := rowsF (sS tBar) many (conF En q.1 n)) (fun τ => rowsF_len hcl τ) (by rw [hR]; exact n5)
  have n3 : q.2.ts ≠ [] := back_take (En := En) (s := sS tEq) (by rw [hc]; exact n4)
  have n2 : b.2.ts ≠ [] := back_names (by rw [hq]; exact n3)
  have n1 : a.2.ts ≠ [] := back_take (En := En) (s := sCon) (by rw [hb]; exact n2)
  have l1 : a.2.ts.length ≤ σ.ts.length := ha ▸ take_len En σ (sW tData)
  have l2 : b.2.ts.length ≤ a.2.ts.length := hb ▸ take_len En a.2 sCon
  have l3 : q.2.ts.length ≤ b.2.ts.length := hq ▸ names_len b.2
  have l4 : c.2.ts.length ≤ q.2.ts.length := hc ▸ take_len En q.2 (sS tEq)
  have ha' := take_ext (En' := En') (r := r) hk (by rw [ha]; exact n1 : (σ.take En (sW tData)).2.ts ≠ [])
  rw [ha] at ha'
  have hb' := take_ext (En' := En') (r := r) o1 (by rw [hb]; exact n2 : (a.2.take En sCon).2.ts ≠ [])
  rw [hb] at hb'
  have hq' := names_ext (r := r) (by rw [hq]; exact n3 : b.2.names.2.ts ≠ [])
  rw [hq] at hq'
  have hc' := take_ext (En' := En') (r := r) o3 (by rw [hc]; exact n4 : (q.2.take En (sS tEq)).2.ts ≠ [])
  rw [hc] at hc'
  have hR' := rowsF_ext (sep := sS tBar) (most := many) hcl (conF_ok En q.1 n) (conF_ext (En := En) (En' := En') hnm) c.2 o4 (by omega) (by rw [hR]; exact n5)
  rw [hR] at hR'
  refine ⟨?_, take_ok o5⟩
  unfold dataF
  simp only [ha', hb', hq', hc', hR', e5]
theorem topF_ext {En En' n m : Nat} {r : List Tk} (hnm : n + r.length ≤ m) {σ : PS} (hk : σ.ok) (hB : σ.ts.length < n) (hst : (topF En n σ).2.st = false) :
    topF En' m (σ.plus r) = ((topF En n σ).1, (topF En n σ).2.plus r) ∧ (topF En n σ).2.ok := by
  obtain ⟨a, ha⟩ : ∃ a, σ.take En (sW tLet) = a := ⟨_, rfl⟩
  obtain ⟨b, hb⟩ : ∃ b, bindF En (exprF En n) a.2 = b := ⟨_, rfl⟩
  have e : topF En n σ = (b.1, (b.2.take En (sS tSemi)).2) := by
    unfold topF
    simp only [ha, hb]
  rw [e] at hst ⊢
  obtain ⟨n2, e2⟩ := take_fin (En' := En') (r := r) (by decide) hst
  have o1 : a.2.ok := ha ▸ take_ok hk
  have o2 : b.2.ok := hb ▸ bindF_ok (exprF_ok En n) _ o1
  have n1 : a.2.ts ≠ [] := back (X := bindF En (exprF En n)) (fun τ => bindF_len (exprF_len En n) τ) (by rw [hb]; exact n2)
  have l1 : a.2.ts.length ≤ σ.ts.length := ha ▸ take_len En σ (sW tLet)
  have ha' := take_ext (En' := En') (r := r) hk (by rw [ha]; exact n1 : (σ.take En (sW tLet)).2.ts ≠ [])
  rw [ha] at ha'
  have hb' := bindF_ext (En := En) (En' := En') (exprF_len En n) (exprF_ok En n) (exprF_ext (En := En) (En' := En') n m hnm) a.2 o1 (by omega) (by rw [hb]; exact n2)
  rw [hb] at hb'
  refine ⟨?_, take_ok o2⟩
  unfold topF
  simp only [ha', hb', e2]
theorem dataF_okp {En n : Nat} {σ : PS} (hk : σ.ok) : (dataF En n σ).2.ok := by
  obtain ⟨a, ha⟩ : ∃ a, σ.take En (sW tData) = a := ⟨_, rfl⟩
  obtain ⟨b, hb⟩ : ∃ b, a.2.take En sCon = b := ⟨_, rfl⟩
  obtain ⟨q, hq⟩ : ∃ q, b.2.names = q := ⟨_, rfl⟩
  obtain ⟨c, hc⟩ : ∃ c, q.2.take En (sS tEq) = c := ⟨_, rfl⟩
  obtain ⟨R, hR⟩ : ∃ R, rowsF (sS tBar) many (conF En q.1 n) c.2 = R := ⟨_, rfl⟩
  have e : dataF En n σ = (⟨b.1.s, b.1.p, q.1, R.1⟩, (R.2.take En (sS tSemi)).2) := by
    unfold dataF
    simp only [ha, hb, hq, hc, hR]
  rw [e]
  have o1 : a.2.ok := ha ▸ take_ok hk
  have o2 : b.2.ok := hb ▸ take_ok o1
  have o3 : q.2.ok := hq ▸ names_ok o2
  have o4 : c.2.ok := hc ▸ take_ok o3
  exact take_ok (hR ▸ rowsF_ok (conF_ok En q.1 n) _ o4)
theorem topF_okp {En n : Nat} {σ : PS} (hk : σ.ok) : (topF En n σ).2.ok := by
  obtain ⟨a, ha⟩ : ∃ a, σ.take En (sW tLet) = a := ⟨_, rfl⟩
  obtain ⟨b, hb⟩ : ∃ b, bindF En (exprF En n) a.2 = b := ⟨_, rfl⟩
  have e : topF En n σ = (b.1, (b.2.take En (sS tSemi)).2) := by
    unfold topF
    simp only [ha, hb]
  rw [e]
  have o1 : a.2.ok := ha ▸ take_ok hk
  exact take_ok (hb ▸ bindF_ok (exprF_ok En n) _ o1)
theorem programL_st {En n f : Nat} {p : Pg} {σ : PS} (hk : σ.ok) (h : (programL En n f p σ).2.st = false) : σ.st = false := by
  cases hs : σ.st with
  | false => rfl
  | true =>
    rw [programL_end (hk hs)] at h
    exact absurd h (by rw [show ((p, σ) : Pg × PS).2.st = σ.st from rfl, hs]; decide)
theorem programL_data_eq {En n f : Nat} {p : Pg} {σ : PS} (h0 : σ.ts ≠ []) (h1 : σ.sees (sW tData) = true) : programL En n (f + 1) p σ = programL En n f ⟨p.datas ++ [(dataF En n σ).1], p.binds⟩ (dataF En n σ).2 := by
  rw [programL, if_neg h0, if_pos h1]
theorem programL_top_eq {En n f : Nat} {p : Pg} {σ : PS} (h0 : σ.ts ≠ []) (h1 : ¬ σ.sees (sW tData) = true) : programL En n (f + 1) p σ = programL En n f ⟨p.datas, p.binds ++ [(topF En n σ).1]⟩ (topF En n σ).2 := by
  rw [programL, if_neg h0, if_neg h1]
/-- A whole program, and more behind: it goes on with what is behind. -/
theorem programL_ext {En En' n m : Nat} {r : List Tk} (hnm : n + r.length ≤ m) (f : Nat) : ∀ (g : Nat) (p : Pg) (σ : PS), σ.ok → σ.ts.length < n → σ.ts.length ≤ f → σ.ts.length + r.length ≤ g → (programL En n f p σ).2.st = false →
    ∃ g', r.length ≤ g' ∧ programL En' m g p (σ.plus r) = programL En' m g' (programL En n f p σ).1 ⟨r, false, (programL En n f p σ).2.at_⟩ := by
  induction f with
  | zero =>
    intro g p σ hk hn hf hg hst
    have hts : σ.ts = [] := List.eq_nil_of_length_eq_zero (by omega)
    have h0 := programL_st hk hst
    refine ⟨g, by omega, ?_⟩
    rw [programL_end hts]
    have e : σ.plus r = ⟨r, false, σ.at_⟩ := by unfold PS.plus; rw [hts, h0]; rfl
    rw [e]
  | succ f' ih =>
    intro g p σ hk hn hf hg hst
    have h0 := programL_st hk hst
    by_cases hts : σ.ts = []
    · refine ⟨g, by rw [hts] at hg; simpa using hg, ?_⟩
      rw [programL_end hts]
      have e : σ.plus r = ⟨r, false, σ.at_⟩ := by unfold PS.plus; rw [hts, h0]; rfl
      rw [e]
    · have hpos := List.length_pos_iff.2 hts
      obtain ⟨g1, rfl⟩ : ∃ g1, g = g1 + 1 := ⟨g - 1, by omega⟩
      have hne : (σ.plus r).ts ≠ [] := fun e => hts (List.append_eq_nil_iff.1 e).1
      by_cases hs : σ.sees (sW tData) = true
      · have e := programL_data_eq (En := En) (n := n) (f := f') (p := p) hts hs
        have e2 := programL_data_eq (En := En') (n := m) (f := g1) (p := p) hne (by rw [plus_sees hts]; exact hs)
        rw [e] at hst ⊢
        rw [e2]
        have hok := dataF_okp (En := En) (n := n) hk
        have hl := dataF_lt (En := En) (n := n) hs
        obtain ⟨τ, hτ⟩ : ∃ τ, dataF En n σ = τ := ⟨_, rfl⟩
        have hd : (dataF En n σ).2.st = false := programL_st hok hst
        have hx := (dataF_ext (En' := En') hnm hk hn hd).1
        rw [hτ] at hst hok hl hx ⊢
        rw [hx]
        exact ih g1 ⟨p.datas ++ [τ.1], p.binds⟩ τ.2 hok (by omega) (by omega) (by omega) hst
      · have e := programL_top_eq (En := En) (n := n) (f := f') (p := p) hts hs
        have e2 := programL_top_eq (En := En') (n := m) (f := g1) (p := p) hne (by rw [plus_sees hts]; exact hs)
        rw [e] at hst ⊢
        rw [e2]
        have hok := topF_okp (En := En) (n := n) hk
        have hl := topF_lt (En := En) (n := n) hts hk
        obtain ⟨τ, hτ⟩ : ∃ τ, topF En n σ = τ := ⟨_, rfl⟩
        have hd : (topF En n σ).2.st = false := programL_st hok hst
        have hx := (topF_ext (En' := En') hnm hk hn hd).1
        rw [hτ] at hst hok hl hx ⊢
        rw [hx]
        exact ih g1 ⟨p.datas, p.binds ++ [τ.1]⟩ τ.2 hok (by omega) (by omega) (by omega) hst

end Go.Proofs.Ytjfogodfpmfhhaa

namespace Go.Proofs.Ytjfogodfpmfhhaa
set_option linter.unusedVariables false
set_option linter.unusedSimpArgs false

mutual
theorem Ex.bare_deep : ∀ x : Ex, x.bare.deep = x.deep
  | .mk k p s n kids alts => by simp only [Ex.bare, Ex.deep]; rw [Ex.bares_deep kids, Al.bares_deep alts]
theorem Ex.bares_deep : ∀ l : List Ex, Ex.deeps (Ex.bares l) = Ex.deeps l
  | [] => by simp only [Ex.bares]
  | x :: r => by simp only [Ex.bares, Ex.deeps]; rw [Ex.bare_deep x, Ex.bares_deep r]
theorem Al.bares_deep : ∀ l : List Al, Al.deeps (Al.bares l) = Al.deeps l
  | [] => by simp only [Al.bares]
  | .mk p s names b :: r => by simp only [Al.bares, Al.bare, Al.deeps, Al.deep]; rw [Ex.bare_deep b, Al.bares_deep r]
end
theorem or_none {a b : Option Int} : a.or b = none ↔ a = none ∧ b = none := by cases a <;> simp
mutual
theorem Ex.wr_bare {cs : List (By × Nat)} : ∀ (x : Ex) (bd : List By), x.bare.wr cs bd = none ↔ x.wr cs bd = none
  | .mk k p s n kids alts, bd => by
    simp only [Ex.bare, Ex.wr]
    split
    · rw [or_none, or_none, Ex.wrs_bare kids, Al.wrs_bare alts]
    · simp
theorem Ex.wrs_bare {cs : List (By × Nat)} : ∀ (l : List Ex) (bd : List By) (k : Int) (s : By) (i : Nat), Ex.wrs cs bd k s i (Ex.bares l) = none ↔ Ex.wrs cs bd k s i l = none
  | [], bd, k, s, i => by simp only [Ex.bares]
  | x :: r, bd, k, s, i => by
    simp only [Ex.bares, Ex.wrs]
    rw [or_none, or_none, Ex.wr_bare x, Ex.wrs_bare r]
theorem Al.wrs_bare {cs : List (By × Nat)} : ∀ (l : List Al) (bd seen : List By), Al.wrs cs bd seen (Al.bares l) = none ↔ Al.wrs cs bd seen l = none
  | [], bd, seen => by simp only [Al.bares]
  | .mk p s names b :: r, bd, seen => by
    simp only [Al.bares, Al.bare, Al.wrs]
    split
    · rw [or_none, or_none, Ex.wr_bare b, Al.wrs_bare r]
    · simp
end

/-- A line that is read as a Bind of that name, with that body but for places, wherever it stands. -/
def LineR (s nm : By) (x0 : Ex) : Prop := ∃ ts p0, Lp s ts ∧ (∃ t q, ts = t :: q ∧ srt t ≠ sW tData) ∧ (∀ r, parted s r) ∧ ∀ (En n a i : Nat) (r : List Tk), 9 ≤ n → ∃ b, topF En n ⟨ts.map (Tk.mv i) ++ r, false, a⟩ = (b, ⟨r, false, a⟩) ∧ b.s = nm ∧ b.p = ((p0 + i : Nat) : Int) ∧ b.body.bare = x0
theorem EP.topR {P A R : By} {b m w v : Tk} {l : List Tk} {c : UInt8} (hP : Lp P (b :: m :: l ++ [w])) (hb : srt b = sW tLet) (hm : srt m = sName) (hl : ∀ t ∈ l, srt t = sName) (hw : srt w = sS tEq) (hp : ∀ r, parted P r) (hA : EP 9 A) (hR : Lp R [v]) (hv : srt v = sS tSemi) (hr : ∀ s, parted s R) (hc : R.getLast? = some c) (hc2 : resN c.toNat = false) : ∃ x0, LineR (P ++ A ++ R) m.s x0 := by
  obtain ⟨ta, xa, a1, a2⟩ := hA
  refine ⟨lams 0 (l.map Tk.s) xa, _, m.p, (hP.app a1 (hp _)).app hR (hr _), ⟨b, _, rfl, by rw [hb]; decide⟩, fun r => parted_end _ _ _ hc hc2, fun En n a i r hn => ?_⟩
  obtain ⟨x, hx, hxb⟩ := a2 En n a (P.length + i) ((v.mv (P ++ A).length).mv i :: r) hn (fol_sign hv (by decide))
  refine ⟨⟨m.s, (m.mv i).p, lams (m.mv i).p (l.map Tk.s) x⟩, ?_, rfl, rfl, by rw [lams_bare, hxb]⟩
  have hnl := names_run (w := w.mv i) (r := ta.map (Tk.mv (P.length + i)) ++ ((v.mv (P ++ A).length).mv i :: r)) (by show srt w ≠ _; rw [hw]; decide) (l.map (Tk.mv i)) (fun t ht => by obtain ⟨q, hq, rfl⟩ := List.mem_map.1 ht; exact hl q hq)
  simp only [List.map_append, List.map_cons, List.map_nil, mv_two, List.cons_append, List.append_assoc, List.nil_append] at hx hnl ⊢
  unfold topF
  rw [take_hd (t := b.mv i) hb]
  dsimp only
  unfold bindF
  rw [take_hd (t := m.mv i) hm]
  dsimp only
  unfold PS.names
  dsimp only
  rw [hnl]
  dsimp only
  rw [take_hd (t := w.mv i) hw]
  dsimp only
  rw [hx]
  dsimp only
  rw [take_hd (t := (v.mv _).mv i) hv]
  have : (l.map (Tk.mv i)).map Tk.s = l.map Tk.s := by rw [List.map_map]; rfl
  rw [this]
  rfl
/-- Lines one behind the other: Binds one behind the other. -/
theorem lines_read : ∀ ls : List (By × By × Ex), (∀ l ∈ ls, LineR l.1 l.2.1 l.2.2) → ∃ ts, Lp (ls.map Prod.fst).flatten ts ∧ (∀ (En n a i g : Nat) (p : Pg), 9 ≤ n → ts.length ≤ g → ∃ bs : List Bd, programL En n g p ⟨ts.map (Tk.mv i), false, a⟩ = (⟨p.datas, p.binds ++ bs⟩, ⟨[], false, a⟩) ∧ bs.map (fun b => (b.s, b.body.bare)) = ls.map Prod.snd)
  | [], _ => ⟨[], Lp.of rfl (by decide), fun En n a i g p hn hg => ⟨[], by rw [List.map_nil, List.append_nil]; exact programL_end rfl, rfl⟩⟩
  | l :: r, h => by
    obtain ⟨t1, p0, h1, ⟨t, q, ht, hd⟩, hp, h2⟩ := h l (by simp)
    obtain ⟨t2, h3, h4⟩ := lines_read r (fun x hx => h x (by simp [hx]))
    refine ⟨t1 ++ t2.map (Tk.mv l.1.length), ?_, fun En n a i g p hn hg => ?_⟩
    · rw [List.map_cons, List.flatten_cons]
      exact h1.app h3 (hp _)
    · rw [List.map_append, mv_two]
      obtain ⟨b, hb, hs, _, hx⟩ := h2 En n a i (t2.map (Tk.mv (l.1.length + i))) hn
      obtain ⟨g1, rfl⟩ : ∃ g1, g = g1 + 1 := ⟨g - 1, by rw [ht] at hg; simp at hg; omega⟩
      have hg2 : t2.length ≤ g1 := by rw [ht] at hg; simp at hg; omega
      obtain ⟨bs, h5, h6⟩ := h4 En n a (l.1.length + i) g1 ⟨p.datas, p.binds ++ [b]⟩ hn hg2
      refine ⟨b :: bs, ?_, ?_⟩
      · rw [programL_top_eq (by rw [ht]; simp) (by rw [ht]; show ¬ decide (srt t = sW tData) = true; simpa using hd), hb]
        dsimp only
        rw [h5]
        simp
      · rw [List.map_cons, List.map_cons, h6, hs, hx]

def headsTs : List Tk := match lexL headsT 0 with
  | Sum.inr ts => ts
  | Sum.inl _ => []
set_option maxRecDepth 100000 in
theorem heads_lex : lexL headsT 0 = .ok headsTs := by
  have h0 : (match lexL headsT 0 with
    | Sum.inr _ => true
    | Sum.inl _ => false) = true := by decide +kernel
  unfold headsTs
  cases h : lexL headsT 0 with
  | inr ts => rfl
  | inl i => rw [h] at h0; cases h0
set_option maxRecDepth 100000 in
theorem heads_lp : Lp headsT headsTs := Lp.of heads_lex (by decide +kernel)
def headsR : Pg × PS := programL 101 (headsTs.length + 1) headsTs.length ⟨[], []⟩ ⟨headsTs, false, 0⟩
theorem headsR_st : headsR.2.st = false := by decide +kernel
theorem headsR_b : headsR.1.binds.length = 0 := by decide +kernel
theorem headsR_ck : checkL headsR.1.datas = none := by decide +kernel
theorem headsR_dp : (headsR.1.datas.flatMap fun d => (d.cons.filter Cn.tooDeep).map Cn.p) = [] := by decide +kernel
theorem headsTs_len : 9 ≤ headsTs.length := by decide +kernel
theorem dupAt_none : ∀ (l : List Bd) (seen : List By), dupAt seen l = none ↔ (l.map Bd.s).Nodup ∧ ∀ s ∈ l.map Bd.s, s ∉ seen
  | [], seen => by simp [dupAt]
  | b :: r, seen => by
    simp only [dupAt]
    split
    · rename_i h
      have h := of_decide_eq_true h
      rw [dupAt_none r, List.map_cons, List.nodup_cons]
      constructor
      · rintro ⟨h1, h2⟩
        refine ⟨⟨fun q => (h2 _ q) (by simp), h1⟩, fun s hs => ?_⟩
        rcases List.mem_cons.1 hs with rfl | hs
        · exact h
        · exact fun q => h2 s hs (by simp [q])
      · rintro ⟨⟨h1, h2⟩, h3⟩
        refine ⟨h2, fun s hs q => ?_⟩
        rcases List.mem_cons.1 q with rfl | q
        · exact h1 hs
        · exact h3 s (by simp [hs]) q
    · rename_i h
      have h : b.s ∈ seen := Decidable.not_not.1 (fun q => h (decide_eq_true q))
      simp [h]
theorem bodiesAt_none {cs : List (By × Nat)} {bd : List By} : ∀ l : List Bd, bodiesAt cs bd l = none ↔ ∀ b ∈ l, b.body.wr cs bd = none
  | [] => by simp [bodiesAt]
  | b :: r => by simp only [bodiesAt]; rw [or_none, bodiesAt_none r]; simp
theorem bare_of {bs : List Bd} {ls : List (By × By × Ex)} (h : bs.map (fun b => (b.s, b.body.bare)) = ls.map Prod.snd) (Q : By × Ex → Prop) : (∀ b ∈ bs, Q (b.s, b.body.bare)) ↔ ∀ l ∈ ls, Q l.2 := by
  constructor
  · intro h1 l hl
    have : l.2 ∈ bs.map (fun b => (b.s, b.body.bare)) := by rw [h]; exact List.mem_map_of_mem hl
    obtain ⟨b, hb, e⟩ := List.mem_map.1 this
    rw [← e]; exact h1 b hb
  · intro h1 b hb
    have : (b.s, b.body.bare) ∈ ls.map Prod.snd := by rw [← h]; exact List.mem_map.2 ⟨b, hb, rfl⟩
    obtain ⟨l, hl, e⟩ := List.mem_map.1 this
    rw [← e]; exact h1 l hl
def lsN (ls : List (By × By × Ex)) : List By := ls.map fun l => l.2.1
/-- When is a program of these lines behind the declarations right? -/
theorem read_fact (ls : List (By × By × Ex)) (h : ∀ l ∈ ls, LineR l.1 l.2.1 l.2.2) : (chkL (headsT ++ (ls.map Prod.fst).flatten)).1 = 0 ↔ (∀ l ∈ ls, l.2.2.deep ≤ 60) ∧ (lsN ls).Nodup ∧ ∀ l ∈ ls, l.2.2.wr (consL headsR.1.datas) (lsN ls) = none := by
  obtain ⟨ts, h1, h2⟩ := lines_read ls h
  have hL := heads_lp.app h1 (parted_l (c := 10) rfl rfl)
  have hlen : headsT.length = 101 := rfl
  rw [hlen] at hL
  have hr : (ts.map (Tk.mv 101)).length = ts.length := List.length_map _
  obtain ⟨A, hA⟩ : ∃ A, headsT ++ (ls.map Prod.fst).flatten = A := ⟨_, rfl⟩
  rw [hA] at hL ⊢
  have h50 := headsTs_len
  have hx := programL_ext (En := 101) (En' := A.length) (n := headsTs.length + 1) (m := headsTs.length + (ts.length + 1)) (r := ts.map (Tk.mv 101)) (by rw [hr]; omega) headsTs.length (headsTs.length + ts.length) ⟨[], []⟩ ⟨headsTs, false, 0⟩ (fun e => nomatch e) (Nat.lt_succ_self _) (Nat.le_refl _) (by rw [hr]; exact Nat.le_refl _) headsR_st
  obtain ⟨g', hg', hx⟩ := hx
  rw [hr] at hg'
  have hb0 : headsR.1.binds = [] := List.eq_nil_of_length_eq_zero headsR_b
  obtain ⟨bs, h3, h4⟩ := h2 A.length (headsTs.length + (ts.length + 1)) headsR.2.at_ 101 g' headsR.1 (by omega) hg'
  have hx2 : programL A.length (headsTs.length + (ts.length + 1)) (headsTs.length + ts.length) ⟨[], []⟩ (PS.plus ⟨headsTs, false, 0⟩ (ts.map (Tk.mv 101))) = (⟨headsR.1.datas, bs⟩, ⟨[], false, headsR.2.at_⟩) := by
    refine hx.trans ?_
    show programL A.length _ g' headsR.1 ⟨ts.map (Tk.mv 101), false, headsR.2.at_⟩ = _
    rw [h3, hb0, List.nil_append]
  have hF : programF A.length ((headsTs ++ ts.map (Tk.mv 101)).length + 1) ⟨headsTs ++ ts.map (Tk.mv 101), false, 0⟩ = (⟨headsR.1.datas, bs⟩, ⟨[], false, headsR.2.at_⟩) := by
    rw [← hx2]
    unfold programF
    rw [List.length_append, hr]
    rfl
  have hP : parseL A = if tooDeepL ⟨headsR.1.datas, bs⟩ = [] then ⟨⟨headsR.1.datas, bs⟩, 0, 0⟩ else ⟨⟨[], []⟩, 5, minL (tooDeepL ⟨headsR.1.datas, bs⟩)⟩ := by
    unfold parseL
    rw [hL.lex]
    show parseTs A.length (headsTs ++ ts.map (Tk.mv 101)) = _
    unfold parseTs
    dsimp only
    rw [hF]
    rfl
  have hT : tooDeepL ⟨headsR.1.datas, bs⟩ = [] ↔ ∀ l ∈ ls, l.2.2.deep ≤ 60 := by
    unfold tooDeepL
    dsimp only
    rw [headsR_dp, List.nil_append]
    rw [← bare_of h4 (fun q => q.2.deep ≤ 60)]
    dsimp only
    constructor
    · intro h5 b hb
      rw [Ex.bare_deep]
      refine Nat.not_lt.1 fun q => ?_
      have : b.p ∈ (bs.filter fun b => decide (60 < b.body.deep)).map Bd.p := List.mem_map.2 ⟨b, List.mem_filter.2 ⟨hb, decide_eq_true q⟩, rfl⟩
      rw [h5] at this; simp at this
    · intro h5
      rw [List.filter_eq_nil_iff.2 (fun b hb => by have := h5 b hb; rw [Ex.bare_deep] at this; simpa using this)]
      rfl
  have hN : bs.map Bd.s = lsN ls := by
    have := congrArg (List.map Prod.fst) h4
    rw [List.map_map, List.map_map] at this
    exact this
  have hW : bodiesAt (consL headsR.1.datas) (lsN ls) bs = none ↔ ∀ l ∈ ls, l.2.2.wr (consL headsR.1.datas) (lsN ls) = none := by
    rw [bodiesAt_none, ← bare_of h4 (fun q => q.2.wr (consL headsR.1.datas) (lsN ls) = none)]
    exact forall₂_congr fun b hb => (Ex.wr_bare b.body _).symm
  unfold chkL
  rw [hP]
  by_cases hd : tooDeepL ⟨headsR.1.datas, bs⟩ = []
  · rw [if_pos hd]
    have hd2 := hT.1 hd
    show (scopeE ⟨headsR.1.datas, bs⟩).1 = 0 ↔ _
    unfold scopeE
    dsimp only
    rw [headsR_ck]
    dsimp only
    have hE : (scE (bindsAt (consL headsR.1.datas) bs)).1 = 0 ↔ bindsAt (consL headsR.1.datas) bs = none := by
      cases bindsAt (consL headsR.1.datas) bs <;> simp [scE]
    rw [hE]
    unfold bindsAt
    rw [or_none, dupAt_none, hN, hW]
    constructor
    · rintro ⟨⟨h5, _⟩, h6⟩; exact ⟨hd2, h5, h6⟩
    · rintro ⟨_, h5, h6⟩; exact ⟨⟨h5, fun s _ q => by simp at q⟩, h6⟩
  · rw [if_neg hd]
    show ((-1, 0) : Int × Int).1 = 0 ↔ _
    constructor
    · intro q; exact absurd q (by decide)
    · rintro ⟨h5, _⟩; exact absurd (hT.2 h5) hd

end Go.Proofs.Ytjfogodfpmfhhaa

namespace Go.Proofs.Ytjfogodfpmfhhaa
open Go.RowKit Go.Maps
set_option linter.unusedVariables false
set_option linter.unusedSimpArgs false

set_option maxRecDepth 100000 in
set_option maxHeartbeats 4000000 in
theorem rt_lexLong (s : ByteArray) (w : World) (hs : 65536 < s.size) : Calls Try.prog 44 #[.string s] w fun e w' => e = .returned (.agg #[.slice none 0 0, .int .i64 1, .int .i64 0]) ∧ Below w.heap.size w w' := by
  have hl : decide ((65536 : Int) < (s.size : Int)) = true := decide_eq_true (by omega)
  have hl2 : (65536 : Int) < (s.size : Int) := by omega
  go_enter Try.func44, Try.ntmps44
  go_wp2_with fail
  refine bodyPost_ret (v := .agg #[.slice none 0 0, .int .i64 1, .int .i64 0]) (by simp only [results, Try.results44]; go_simp <;> rfl) rfl ⟨rfl, ?_⟩
  repeat (first | exact Below.refl _ _ | refine Below.setCell ?_ (by simp) _ | refine Below.alloc ?_ (by simp) _)
set_option maxRecDepth 100000 in
set_option maxHeartbeats 4000000 in
theorem y_ParseLong (s : ByteArray) (w : World) (hs : 65536 < s.size) :
    Calls Try.prog 22 #[.string s] w fun e w' => ∃ a b, e = .returned (.agg #[a, b, .int .i64 1, .int .i64 0]) ∧ IsV (New w) w' (pgC ⟨[], []⟩) (.agg #[a, b]) ∧ Below w.heap.size w w' := by
  go_enter Try.func22, Try.ntmps22
  go_wp2_with (go_at_call 44; refine (rt_lexLong s _ hs).mono ?_; rintro e w2 ⟨rfl, hb2⟩; have bx := (Box.new w 49 [.slice none 0 0, .slice none 0 0, .int .i64 0, .int .i64 0]).below hb2; obtain ⟨_, _, _, _⟩ := four_cells bx; obtain ⟨_, _, _, _⟩ := four_frozen bx; have hlt := bx.lt; have HB2 := Lib.hid hb2; clear hb2 bx)
  refine bodyPost_ret (v := .agg #[.slice none 0 0, .slice none 0 0, .int .i64 1, .int .i64 0]) (by simp only [results, Try.results22]; go_simp <;> rfl) rfl ?_
  refine ⟨_, _, rfl, IsV.no_pg _ _, ?_⟩
  have h2 : Below w.heap.size w w2 := ((Below.refl _ w).alloc (Nat.le_refl _) _).trans (HB2.out.mono (by simp))
  exact ((((h2.setCell (p := ⟨w.heap.size, 0, none⟩) (Nat.le_refl _) _).setCell (p := ⟨w.heap.size, 1, none⟩) (Nat.le_refl _) _).setCell (p := ⟨w.heap.size, 2, none⟩) (Nat.le_refl _) _).setCell (p := ⟨w.heap.size, 3, none⟩) (Nat.le_refl _) _).alloc (by simp; omega) _

/-- What any text is as a program. -/
def parseA (s : By) : Out3 := if s.length ≤ 65536 then parseL s else ⟨⟨[], []⟩, 1, 0⟩
theorem y_ParseA (s : By) (w : World) {O : Out3} (hO : parseA s = O) :
    Calls Try.prog 22 #[.string (strB s)] w fun e w' => ∃ a b, e = .returned (.agg #[a, b, .int .i64 (O.e : Int), .int .i64 O.at_]) ∧ IsV (New w) w' (pgC O.p) (.agg #[a, b]) ∧ Below w.heap.size w w' := by
  unfold parseA at hO
  split at hO
  · rename_i h; exact y_Parse s w h hO
  · rename_i h; subst hO; exact y_ParseLong (strB s) w (by rw [strB_size]; omega)

end Go.Proofs.Ytjfogodfpmfhhaa

namespace Go.Proofs.Ytjfogodfpmfhhaa
open Go.RowKit Go.Maps
set_option linter.unusedVariables false
set_option linter.unusedSimpArgs false

def oL0 : By := [108, 101, 116, 32, 120, 32, 61, 32, 121, 59]
def oL1 : By := [108, 101, 116, 32, 121, 32, 61, 32, 49, 59]
def oL2 (xs : List Nat) : By := [108, 101, 116, 32, 102, 32, 120, 32, 61, 32] ++ exprT 8 xs ++ [59]
def oL3 : By := [108, 101, 116, 32, 103, 32, 61, 32, 102, 32, 120, 59]
def oL4 : By := [108, 101, 116, 32, 105, 100, 32, 120, 32, 61, 32, 120, 59]
def oLs (xs : List Nat) : List By := [oL0, oL1, oL2 xs, oL3, oL4]
theorem lineR_0 : ∃ x, LineR oL0 [120] x := EP.topR (P := [108, 101, 116, 32, 120, 32, 61, 32]) (A := [121]) (R := [59]) (b := ⟨4, 0, [108, 101, 116], 0⟩) (m := ⟨1, 4, [120], 0⟩) (w := ⟨5, 6, [61], 0⟩) (l := []) (v := ⟨5, 0, [59], 0⟩) (c := 59) (Lp.of rfl (by decide)) rfl rfl (by decide) rfl (fun r => parted_l (c := 32) rfl rfl) (ep_y.mono (by omega)) (Lp.of rfl (by decide)) rfl (fun s => parted_r rfl) rfl rfl
theorem lineR_1 : ∃ x, LineR oL1 [121] x := EP.topR (P := [108, 101, 116, 32, 121, 32, 61, 32]) (A := [49]) (R := [59]) (b := ⟨4, 0, [108, 101, 116], 0⟩) (m := ⟨1, 4, [121], 0⟩) (w := ⟨5, 6, [61], 0⟩) (l := []) (v := ⟨5, 0, [59], 0⟩) (c := 59) (Lp.of rfl (by decide)) rfl rfl (by decide) rfl (fun r => parted_l (c := 32) rfl rfl) (((AP.leaf (s := [49]) (t := ⟨3, 0, [], 1⟩) (Lp.of rfl (by decide)) (by decide)).ep).mono (by omega)) (Lp.of rfl (by decide)) rfl (fun s => parted_r rfl) rfl rfl
theorem lineR_2 (xs : List Nat) (hx : ∀ x ∈ xs, x ≤ 255) : ∃ x, LineR (oL2 xs) [102] x := EP.topR (P := [108, 101, 116, 32, 102, 32, 120, 32, 61, 32]) (A := exprT 8 xs) (R := [59]) (b := ⟨4, 0, [108, 101, 116], 0⟩) (m := ⟨1, 4, [102], 0⟩) (w := ⟨5, 8, [61], 0⟩) (l := [⟨1, 6, [120], 0⟩]) (v := ⟨5, 0, [59], 0⟩) (c := 59) (Lp.of rfl (by decide)) rfl rfl (by decide) rfl (fun r => parted_l (c := 32) rfl rfl) (txt_ep 8 xs hx).1 (Lp.of rfl (by decide)) rfl (fun s => parted_r rfl) rfl rfl
theorem lineR_3 : ∃ x, LineR oL3 [103] x := EP.topR (P := [108, 101, 116, 32, 103, 32, 61, 32]) (A := [102, 32, 120]) (R := [59]) (b := ⟨4, 0, [108, 101, 116], 0⟩) (m := ⟨1, 4, [103], 0⟩) (w := ⟨5, 6, [61], 0⟩) (l := []) (v := ⟨5, 0, [59], 0⟩) (c := 59) (Lp.of rfl (by decide)) rfl rfl (by decide) rfl (fun r => parted_l (c := 32) rfl rfl) (ep_fx.mono (by omega)) (Lp.of rfl (by decide)) rfl (fun s => parted_r rfl) rfl rfl
theorem lineR_4 : ∃ x, LineR oL4 [105, 100] x := EP.topR (P := [108, 101, 116, 32, 105, 100, 32, 120, 32, 61, 32]) (A := [120]) (R := [59]) (b := ⟨4, 0, [108, 101, 116], 0⟩) (m := ⟨1, 4, [105, 100], 0⟩) (w := ⟨5, 9, [61], 0⟩) (l := [⟨1, 7, [120], 0⟩]) (v := ⟨5, 0, [59], 0⟩) (c := 59) (Lp.of rfl (by decide)) rfl rfl (by decide) rfl (fun r => parted_l (c := 32) rfl rfl) (ap_x.ep.mono (by omega)) (Lp.of rfl (by decide)) rfl (fun s => parted_r rfl) rfl rfl
def oA (xs : List Nat) (k : Nat) : By := headsT ++ ((List.range k).map fun i => (oLs xs).getD i []).flatten
def oB (xs : List Nat) (t k : Nat) : By := headsT ++ ((List.range k).map fun i => (oLs xs).getD ((i * 2 + t) % 5) []).flatten
theorem oA_succ (xs : List Nat) (k : Nat) : oA xs (k + 1) = oA xs k ++ (oLs xs).getD k [] := by
  unfold oA; rw [List.range_succ, List.map_append, List.flatten_append, List.append_assoc]; simp
theorem oB_succ (xs : List Nat) (t k : Nat) : oB xs t (k + 1) = oB xs t k ++ (oLs xs).getD ((k * 2 + t) % 5) [] := by
  unfold oB; rw [List.range_succ, List.map_append, List.flatten_append, List.append_assoc]; simp
theorem oB_mod (xs : List Nat) (t : Nat) : oB xs t 5 = oB xs (t % 5) 5 := by
  unfold oB
  congr 3
  funext i
  have : (i * 2 + t) % 5 = (i * 2 + t % 5) % 5 := by omega
  rw [this]
theorem oA_eq (xs : List Nat) : oA xs 5 = headsT ++ [oL0, oL1, oL2 xs, oL3, oL4].flatten := congrArg (fun l => headsT ++ List.flatten l) (show (List.range 5).map (fun i => (oLs xs).getD i []) = [oL0, oL1, oL2 xs, oL3, oL4] from rfl)
theorem oB_eq0 (xs : List Nat) : oB xs 0 5 = headsT ++ [oL0, oL2 xs, oL4, oL1, oL3].flatten := congrArg (fun l => headsT ++ List.flatten l) (show (List.range 5).map (fun i => (oLs xs).getD ((i * 2 + 0) % 5) []) = [oL0, oL2 xs, oL4, oL1, oL3] from rfl)
theorem oB_eq1 (xs : List Nat) : oB xs 1 5 = headsT ++ [oL1, oL3, oL0, oL2 xs, oL4].flatten := congrArg (fun l => headsT ++ List.flatten l) (show (List.range 5).map (fun i => (oLs xs).getD ((i * 2 + 1) % 5) []) = [oL1, oL3, oL0, oL2 xs, oL4] from rfl)
theorem oB_eq2 (xs : List Nat) : oB xs 2 5 = headsT ++ [oL2 xs, oL4, oL1, oL3, oL0].flatten := congrArg (fun l => headsT ++ List.flatten l) (show (List.range 5).map (fun i => (oLs xs).getD ((i * 2 + 2) % 5) []) = [oL2 xs, oL4, oL1, oL3, oL0] from rfl)
theorem oB_eq3 (xs : List Nat) : oB xs 3 5 = headsT ++ [oL3, oL0, oL2 xs, oL4, oL1].flatten := congrArg (fun l => headsT ++ List.flatten l) (show (List.range 5).map (fun i => (oLs xs).getD ((i * 2 + 3) % 5) []) = [oL3, oL0, oL2 xs, oL4, oL1] from rfl)
theorem oB_eq4 (xs : List Nat) : oB xs 4 5 = headsT ++ [oL4, oL1, oL3, oL0, oL2 xs].flatten := congrArg (fun l => headsT ++ List.flatten l) (show (List.range 5).map (fun i => (oLs xs).getD ((i * 2 + 4) % 5) []) = [oL4, oL1, oL3, oL0, oL2 xs] from rfl)
theorem same_lines {ls ms : List (By × By × Ex)} (h1 : ∀ l, l ∈ ls ↔ l ∈ ms) (h2 : (lsN ls).Nodup ↔ (lsN ms).Nodup) (h : ∀ l ∈ ls, LineR l.1 l.2.1 l.2.2) : (chkL (headsT ++ (ls.map Prod.fst).flatten)).1 = 0 ↔ (chkL (headsT ++ (ms.map Prod.fst).flatten)).1 = 0 := by
  rw [read_fact ls h, read_fact ms (fun l hl => h l ((h1 l).2 hl)), h2]
  have hb : BdEq (lsN ls) (lsN ms) := fun s => by
    unfold lsN
    simp only [List.mem_map]
    exact ⟨fun ⟨l, a, b⟩ => ⟨l, (h1 l).1 a, b⟩, fun ⟨l, a, b⟩ => ⟨l, (h1 l).2 a, b⟩⟩
  constructor
  · rintro ⟨a, b, c⟩
    exact ⟨fun l hl => a l ((h1 l).2 hl), b, fun l hl => by rw [← Ex.wr_eq (fun _ => Iff.rfl) l.2.2 hb]; exact c l ((h1 l).2 hl)⟩
  · rintro ⟨a, b, c⟩
    exact ⟨fun l hl => a l ((h1 l).1 hl), b, fun l hl => by rw [Ex.wr_eq (fun _ => Iff.rfl) l.2.2 hb]; exact c l ((h1 l).1 hl)⟩
theorem order_fact (xs : List Nat) (hx : ∀ x ∈ xs, x ≤ 255) (t : Nat) : (chkL (oA xs 5)).1 = 0 ↔ (chkL (oB xs t 5)).1 = 0 := by
  rw [oB_mod]
  have ht : t % 5 < 5 := Nat.mod_lt _ (by omega)
  obtain ⟨x0, h0⟩ := lineR_0
  obtain ⟨x1, h1⟩ := lineR_1
  obtain ⟨x2, h2⟩ := lineR_2 xs hx
  obtain ⟨x3, h3⟩ := lineR_3
  obtain ⟨x4, h4⟩ := lineR_4
  have hall : ∀ l ∈ [(oL0, [120], x0), (oL1, [121], x1), (oL2 xs, [102], x2), (oL3, [103], x3), (oL4, [105, 100], x4)], LineR l.1 l.2.1 l.2.2 := fun l hl => by
    simp only [List.mem_cons, List.not_mem_nil, or_false] at hl
    rcases hl with rfl | rfl | rfl | rfl | rfl
    · exact h0
    · exact h1
    · exact h2
    · exact h3
    · exact h4
  have h5 : t % 5 = 0 ∨ t % 5 = 1 ∨ t % 5 = 2 ∨ t % 5 = 3 ∨ t % 5 = 4 := by omega
  rcases h5 with e | e | e | e | e
  · rw [e, oA_eq, oB_eq0]
    have := same_lines (ms := [(oL0, [120], x0), (oL2 xs, [102], x2), (oL4, [105, 100], x4), (oL1, [121], x1), (oL3, [103], x3)]) (fun l => by simp only [List.mem_cons, List.not_mem_nil, or_false]; constructor <;> (rintro (q | q | q | q | q) <;> simp [q])) (by unfold lsN; simp only [List.map_cons, List.map_nil]; exact ⟨fun _ => by decide, fun _ => by decide⟩) hall
    simp only [List.map_cons, List.map_nil] at this
    exact this
  · rw [e, oA_eq, oB_eq1]
    have := same_lines (ms := [(oL1, [121], x1), (oL3, [103], x3), (oL0, [120], x0), (oL2 xs, [102], x2), (oL4, [105, 100], x4)]) (fun l => by simp only [List.mem_cons, List.not_mem_nil, or_false]; constructor <;> (rintro (q | q | q | q | q) <;> simp [q])) (by unfold lsN; simp only [List.map_cons, List.map_nil]; exact ⟨fun _ => by decide, fun _ => by decide⟩) hall
    simp only [List.map_cons, List.map_nil] at this
    exact this
  · rw [e, oA_eq, oB_eq2]
    have := same_lines (ms := [(oL2 xs, [102], x2), (oL4, [105, 100], x4), (oL1, [121], x1), (oL3, [103], x3), (oL0, [120], x0)]) (fun l => by simp only [List.mem_cons, List.not_mem_nil, or_false]; constructor <;> (rintro (q | q | q | q | q) <;> simp [q])) (by unfold lsN; simp only [List.map_cons, List.map_nil]; exact ⟨fun _ => by decide, fun _ => by decide⟩) hall
    simp only [List.map_cons, List.map_nil] at this
    exact this
  · rw [e, oA_eq, oB_eq3]
    have := same_lines (ms := [(oL3, [103], x3), (oL0, [120], x0), (oL2 xs, [102], x2), (oL4, [105, 100], x4), (oL1, [121], x1)]) (fun l => by simp only [List.mem_cons, List.not_mem_nil, or_false]; constructor <;> (rintro (q | q | q | q | q) <;> simp [q])) (by unfold lsN; simp only [List.map_cons, List.map_nil]; exact ⟨fun _ => by decide, fun _ => by decide⟩) hall
    simp only [List.map_cons, List.map_nil] at this
    exact this
  · rw [e, oA_eq, oB_eq4]
    have := same_lines (ms := [(oL4, [105, 100], x4), (oL1, [121], x1), (oL3, [103], x3), (oL0, [120], x0), (oL2 xs, [102], x2)]) (fun l => by simp only [List.mem_cons, List.not_mem_nil, or_false]; constructor <;> (rintro (q | q | q | q | q) <;> simp [q])) (by unfold lsN; simp only [List.map_cons, List.map_nil]; exact ⟨fun _ => by decide, fun _ => by decide⟩) hall
    simp only [List.map_cons, List.map_nil] at this
    exact this
theorem oB_len (xs : List Nat) (t : Nat) : (oB xs t 5).length = (oA xs 5).length := by
  rw [oB_mod]
  have h5 : t % 5 = 0 ∨ t % 5 = 1 ∨ t % 5 = 2 ∨ t % 5 = 3 ∨ t % 5 = 4 := by have := Nat.mod_lt t (show 5 > 0 by omega); omega
  rcases h5 with e | e | e | e | e
  · rw [e, oA_eq, oB_eq0]; simp only [List.flatten_cons, List.flatten_nil, List.length_append, List.length_nil]; omega
  · rw [e, oA_eq, oB_eq1]; simp only [List.flatten_cons, List.flatten_nil, List.length_append, List.length_nil]; omega
  · rw [e, oA_eq, oB_eq2]; simp only [List.flatten_cons, List.flatten_nil, List.length_append, List.length_nil]; omega
  · rw [e, oA_eq, oB_eq3]; simp only [List.flatten_cons, List.flatten_nil, List.length_append, List.length_nil]; omega
  · rw [e, oA_eq, oB_eq4]; simp only [List.flatten_cons, List.flatten_nil, List.length_append, List.length_nil]; omega

end Go.Proofs.Ytjfogodfpmfhhaa

namespace Go.Proofs.Ytjfogodfpmfhhaa
open Go.RowKit Go.Maps
set_option linter.unusedVariables false
set_option linter.unusedSimpArgs false

/-- What check tells of any text. -/
def chkA (s : By) : Int × Int := if s.length ≤ 65536 then chkL s else (-1, 0)
set_option maxRecDepth 100000 in
set_option maxHeartbeats 4000000 in
theorem k_checkA (s : By) (w : World) {E A : Int} (hE : chkA s = (E, A)) {z : ByteArray} (hz : strB s = z) :
    Calls Try.prog 33 #[.string z] w fun e w' => e = .returned (.tuple #[.int .i64 E, .int .i64 A]) ∧ Below w.heap.size w w' := by
  unfold chkA at hE
  by_cases hs : s.length ≤ 65536
  · rw [if_pos hs] at hE
    exact k_check s w hs hE hz
  · rw [if_neg hs] at hE
    obtain ⟨rfl, rfl⟩ : E = -1 ∧ A = 0 := by simpa [eq_comm] using hE
    have HY := Lib.hid (fun w => y_ParseLong z w (by rw [← hz, strB_size]; omega))
    clear hE hz hs
    go_enter Try.func33, Try.ntmps33
    go_wp2_with (go_at_call 22; (with_reducible refine (HY.out _).mono ?_); rintro e w3 ⟨a, b, rfl, hv3, hb3⟩; obtain ⟨a1, a2, c1, c2, hab, _, _⟩ := hv3.pgp; simp only [Value.agg.injEq, Array.mk.injEq, List.cons.injEq, and_true] at hab; obtain ⟨rfl, rfl⟩ := hab; have HB3 := Lib.hid hb3; clear hv3 hb3 HY)
    refine bodyPost_ret (v := .tuple #[.int .i64 (-1), .int .i64 0]) (by simp only [results, Try.results33]; go_simp <;> rfl) rfl ⟨rfl, HB3.out.alloc HB3.out.size _⟩
theorem orderA (xs : List Nat) (hx : ∀ x ∈ xs, x ≤ 255) (t : Nat) : (chkA (oA xs 5)).1 = 0 ↔ (chkA (oB xs t 5)).1 = 0 := by
  unfold chkA
  rw [oB_len]
  split
  · exact order_fact xs hx t
  · rfl
theorem oLs_len (xs : List Nat) (hx : ∀ x ∈ xs, x ≤ 255) (j : Nat) : ((oLs xs).getD j []).length ≤ 4000000 := by
  have h := (txt_len 8 xs hx).1
  have h2 : (oL2 xs).length ≤ 4000000 := by
    unfold oL2
    rw [List.length_append, List.length_append]
    simp only [List.length_cons, List.length_nil]
    omega
  match j with
  | 0 => simp [oLs, oL0]
  | 1 => simp [oLs, oL1]
  | 2 => simpa [oLs] using h2
  | 3 => simp [oLs, oL3]
  | 4 => simp [oLs, oL4]
  | j + 5 => simp [oLs]
theorem oA_len (xs : List Nat) (hx : ∀ x ∈ xs, x ≤ 255) : ∀ k, (oA xs k).length ≤ 200 + k * 4000000
  | 0 => by simp [oA, headsT]
  | k + 1 => by
    rw [oA_succ, List.length_append]
    have := oA_len xs hx k
    have := oLs_len xs hx k
    omega
theorem oB_len2 (xs : List Nat) (hx : ∀ x ∈ xs, x ≤ 255) (t : Nat) : ∀ k, (oB xs t k).length ≤ 200 + k * 4000000
  | 0 => by simp [oB, headsT]
  | k + 1 => by
    rw [oB_succ, List.length_append]
    have := oB_len2 xs hx t k
    have := oLs_len xs hx ((k * 2 + t) % 5)
    omega
theorem run_cat {P : Program} {a b c : By} (h : c = a ++ b) (hl : a.length + b.length ≤ 9000000000000000000) (W : World) : Sem.run P (Op.stringOp .add (strB a) (strB b)) W = .ok (.string (strB c)) W := by
  subst h
  rw [← strB_app]
  exact run_string_add_sum W (strB a) (strB b) (by rw [strB_size, strB_size]; omega)

set_option maxRecDepth 100000 in
set_option maxHeartbeats 8000000 in
theorem order_law (a : Option Addr) (l c : Nat) (xs : List Nat) (t : Nat) (w : World) (h : RB w a l c xs) (ht : t < 256) :
    Calls Try.prog 10 #[.slice a l c, .int .u8 (t : Int)] w fun e w' => e = .returned (.bool true) ∧ Below w.heap.size w w' := by
  have hcap := h.cap
  have hsm := h.small
  have hx := h.le
  have H4 := Lib.hid (fun (w' : World) => s_awake w')
  by_cases hl : 40 < l
  · clear h hx
    go_enter Try.func10, Try.ntmps10
    go_wp2_with (go_at_call 29; (with_reducible refine (H4.out _).mono ?_); rintro e w7 ⟨rfl, hb7⟩; have HB7 := Lib.hid hb7; clear hb7)
    go_ret
    exact ⟨rfl, HB7.out⟩
  · have hl2 : l ≤ 40 := by omega
    have HE := Lib.hid (fun (w' : World) (hw : Below w.heap.size w w') => t_Expr a l c xs w' (h.under hw))
    obtain ⟨Z, hZ⟩ : ∃ Z, strB headsT = Z := ⟨_, rfl⟩
    have HH := Lib.hid (fun (w' : World) => k_heads w' hZ)
    have HH2 := HH
    obtain ⟨EX, hEX⟩ : ∃ EX, strB (exprT 8 xs) = EX := ⟨_, rfl⟩
    rw [hEX] at HE
    have hel := (txt_len 8 xs hx).1
    obtain ⟨M, hM⟩ : ∃ M, strB ([108, 101, 116, 32, 102, 32, 120, 32, 61, 32] ++ exprT 8 xs) = M := ⟨_, rfl⟩
    obtain ⟨L2, hL2⟩ : ∃ L2, strB (oL2 xs) = L2 := ⟨_, rfl⟩
    have T1 : ∀ W, Sem.run Try.prog (Op.stringOp .add ⟨#[108, 101, 116, 32, 102, 32, 120, 32, 61, 32]⟩ EX) W = .ok (.string M) W := fun W => by
      rw [← hEX, ← hM]
      exact run_cat (a := [108, 101, 116, 32, 102, 32, 120, 32, 61, 32]) rfl (by simp only [List.length_cons, List.length_nil]; omega) W
    have T2 : ∀ W, Sem.run Try.prog (Op.stringOp .add M ⟨#[59]⟩) W = .ok (.string L2) W := fun W => by
      rw [← hM, ← hL2]
      exact run_cat (b := [59]) rfl (by rw [List.length_append]; simp only [List.length_cons, List.length_nil]; omega) W
    have hcell : ∀ (w1 : World) (j : Nat), j < 5 → (w1.alloc (.cells #[.string ⟨#[108, 101, 116, 32, 120, 32, 61, 32, 121, 59]⟩, .string ⟨#[108, 101, 116, 32, 121, 32, 61, 32, 49, 59]⟩, .string L2, .string ⟨#[108, 101, 116, 32, 103, 32, 61, 32, 102, 32, 120, 59]⟩, .string ⟨#[108, 101, 116, 32, 105, 100, 32, 120, 32, 61, 32, 120, 59]⟩] 9)).cell? ⟨w1.heap.size, j, none⟩ = some (.string (strB ((oLs xs).getD j []))) := fun w1 j hj => by
      have hb := (Box.new w1 9 [.string ⟨#[108, 101, 116, 32, 120, 32, 61, 32, 121, 59]⟩, .string ⟨#[108, 101, 116, 32, 121, 32, 61, 32, 49, 59]⟩, .string L2, .string ⟨#[108, 101, 116, 32, 103, 32, 61, 32, 102, 32, 120, 59]⟩, .string ⟨#[108, 101, 116, 32, 105, 100, 32, 120, 32, 61, 32, 120, 59]⟩]).cell j
      have h5 : j = 0 ∨ j = 1 ∨ j = 2 ∨ j = 3 ∨ j = 4 := by omega
      rw [← hL2] at hb ⊢
      rcases h5 with rfl | rfl | rfl | rfl | rfl <;> exact hb
    have HCELL := Lib.hid hcell
    have HXS := Lib.hid hx
    have HZ := Lib.hid hZ
    clear h hx hEX hM hL2 hel hcell hl hZ
    go_enter Try.func10, Try.ntmps10
    go_wp2_with (first
      | (go_at_call 15; (with_reducible refine (HE.out _ (Below.refl _ _)).mono ?_); rintro e w1 ⟨rfl, hb1⟩; have HB1 := Lib.hid hb1; have HC1 := Lib.hid (HCELL.out w1); clear hb1)
      | (go_at_call 32; (with_reducible refine (HH.out _).mono ?_); clear HH; rintro e w2 ⟨rfl, hb2⟩; have HB2 := Lib.hid hb2; clear hb2)
      | (go_at_call 32; (with_reducible refine (HH2.out _).mono ?_); clear HH2; rintro e w3 ⟨rfl, hb3⟩; have HB3 := Lib.hid hb3; clear hb3))
    have HD : Hid (Below w.heap.size w w3) := by
      have h1 := HB1.out.alloc HB1.out.size (.cells #[.string ⟨#[108, 101, 116, 32, 120, 32, 61, 32, 121, 59]⟩, .string ⟨#[108, 101, 116, 32, 121, 32, 61, 32, 49, 59]⟩, .string L2, .string ⟨#[108, 101, 116, 32, 103, 32, 61, 32, 102, 32, 120, 59]⟩, .string ⟨#[108, 101, 116, 32, 105, 100, 32, 120, 32, 61, 32, 120, 59]⟩] 9)
      have h2 := h1.trans (HB2.out.mono h1.size)
      exact h2.trans (HB3.out.mono h2.size)
    have hw1 : w1.heap.size < w3.heap.size := by have h1 := HB2.out.size; have h2 := HB3.out.size; rw [World.size_alloc] at h1; omega
    have HC3 : Hid (∀ j < 5, w3.cell? ⟨w1.heap.size, j, none⟩ = some (.string (strB ((oLs xs).getD j [])))) := by
      intro j hj
      have h1 := HC1.out j hj
      have h2 := (HB2.out.cell (p := ⟨w1.heap.size, j, none⟩) (by simp)).trans h1
      exact (HB3.out.cell (p := ⟨w1.heap.size, j, none⟩) (show w1.heap.size < _ by have h1 := HB2.out.size; rw [World.size_alloc] at h1; omega)).trans h2
    have HZ0 : Hid (Z = strB (oA xs 0)) := by show _ = _; rw [← HZ.out]; unfold oA; simp
    have HZ1 : Hid (Z = strB (oB xs t 0)) := by show _ = _; rw [← HZ.out]; unfold oB; simp
    obtain ⟨g, hg⟩ : ∃ g, w1.heap.size = g := ⟨_, rfl⟩
    rw [hg] at hw1 HC3
    try rw [hg]
    clear hg HC1 HCELL HB1 HB2 HB3 HE
    go_loopw [6, 7, 8] (fun va vb iv wr => ∃ k : Nat, k ≤ 5 ∧ iv = .int .i64 (k : Int) ∧ va = .string (strB (oA xs k)) ∧ vb = .string (strB (oB xs t k)) ∧ wr = w3) (fun _ _ iv _ => 5 - (intOf iv).toNat)
    case atStart => exact ⟨0, Nat.zero_le _, rfl, by rw [← HZ0.out], by rw [← HZ1.out], rfl⟩
    case round =>
      obtain ⟨k, hk, rfl, rfl, rfl, rfl⟩ := hrel
      have hA := oA_len xs HXS.out k
      have hB := oB_len2 xs HXS.out t k
      by_cases hlt : k < 5
      · have hLk := oLs_len xs HXS.out k
        obtain ⟨r, hr⟩ : ∃ r, (k * 2 + t) % 5 = r := ⟨_, rfl⟩
        have hr5 : r < 5 := by omega
        have hLr := oLs_len xs HXS.out r
        have er : ((k : Int) * 2 + (t : Int)).tmod 5 = (r : Int) := by rw [Int.tmod_eq_emod_of_nonneg (by omega)]; omega
        have hkk : (k : Int) < 5 := by omega
        have hrr : (r : Int) < 5 := by omega
        have c1 := HC3.out k hlt
        have c2 := HC3.out r hr5
        have hA2 := oA_succ xs k
        have hB2 := oB_succ xs t k
        rw [hr] at hB2
        have T3 := run_cat (P := Try.prog) hA2 (by omega)
        have T4 := run_cat (P := Try.prog) hB2 (by omega)
        have i0 : ∀ W, Sem.run Try.prog (Instr.indexAt 53 (.slice (some ⟨g, 0, none⟩) 5 5) (.int .i64 (k : Int))) W = .ok (.pointer (some ⟨g, k, none⟩)) W := fun W => by go_simp
        have i1 : ∀ W, Sem.run Try.prog (Instr.indexAt 53 (.slice (some ⟨g, 0, none⟩) 5 5) (.int .i64 (r : Int))) W = .ok (.pointer (some ⟨g, r, none⟩)) W := fun W => by go_simp
        obtain ⟨SA, hSA⟩ : ∃ SA, strB (oA xs k) = SA := ⟨_, rfl⟩
        obtain ⟨SB, hSB⟩ : ∃ SB, strB (oB xs t k) = SB := ⟨_, rfl⟩
        obtain ⟨SA2, hSA2⟩ : ∃ SA2, strB (oA xs (k + 1)) = SA2 := ⟨_, rfl⟩
        obtain ⟨SB2, hSB2⟩ : ∃ SB2, strB (oB xs t (k + 1)) = SB2 := ⟨_, rfl⟩
        obtain ⟨LK, hLK⟩ : ∃ LK, strB ((oLs xs).getD k []) = LK := ⟨_, rfl⟩
        obtain ⟨LR, hLR⟩ : ∃ LR, strB ((oLs xs).getD r []) = LR := ⟨_, rfl⟩
        rw [hSA, hSA2, hLK] at T3
        rw [hSB, hSB2, hLR] at T4
        rw [hLK] at c1
        rw [hLR] at c2
        rw [hSA, hSB]
        have HA9 := Lib.hid hSA2
        have HB9 := Lib.hid hSB2
        clear hA hB hLk hLr hA2 hB2 hSA hSB hSA2 hSB2 hLK hLR hr
        go_wp2_with fail
        go_roundw
        case rel => exact ⟨k + 1, by omega, by go_num, by rw [HA9.out], by rw [HB9.out], trivial⟩
        case measure => simp [intOf]; omega
      · have hk5 : k = 5 := by omega
        subst hk5
        obtain ⟨EA, hEA⟩ : ∃ EA, chkA (oA xs 5) = EA := ⟨_, rfl⟩
        obtain ⟨EB, hEB⟩ : ∃ EB, chkA (oB xs t 5) = EB := ⟨_, rfl⟩
        have hab := orderA xs HXS.out t
        rw [hEA, hEB] at hab
        obtain ⟨ea, aa⟩ := EA
        obtain ⟨eb, ab⟩ := EB
        dsimp only at hab
        have H1 := Lib.hid (fun (w' : World) => k_checkA (oA xs 5) w' hEA rfl)
        have H2 := Lib.hid (fun (w' : World) => k_checkA (oB xs t 5) w' hEB rfl)
        obtain ⟨SA, hSA⟩ : ∃ SA, strB (oA xs 5) = SA := ⟨_, rfl⟩
        obtain ⟨SB, hSB⟩ : ∃ SB, strB (oB xs t 5) = SB := ⟨_, rfl⟩
        rw [hSA] at H1
        rw [hSB] at H2
        rw [hSA, hSB]
        have hbb : (ea == 0) = (eb == 0) := by
          by_cases q : ea = 0
          · have := hab.1 q; simp [q, this]
          · have : ¬ eb = 0 := fun z => q (hab.2 z)
            rw [beq_false_of_ne q, beq_false_of_ne this]
        clear hA hB hEA hEB hab hSA hSB hlt
        · go_wp2_with (first
            | (go_at_call 33; (with_reducible refine (H1.out _).mono ?_); rintro e w4 ⟨rfl, hb4⟩; have HB4 := Lib.hid hb4; clear hb4)
            | (go_at_call 33; (with_reducible refine (H2.out _).mono ?_); rintro e w5 ⟨rfl, hb5⟩; have HB5 := Lib.hid (HB4.out.trans (hb5.mono HB4.out.size)); clear hb5)
            | (go_at_call 29; (with_reducible refine (H4.out _).mono ?_); rintro e w6 ⟨rfl, hb6⟩; have HB6 := Lib.hid (HB5.out.trans (hb6.mono HB5.out.size)); clear hb6))
          go_ret
          exact ⟨rfl, HD.out.trans (HB6.out.mono HD.out.size)⟩

end Go.Proofs.Ytjfogodfpmfhhaa

namespace Go.Proofs.Ytjfogodfpmfhhaa
open Go.RowKit Go.WideShapes Go.ChangeShapes
set_option linter.unusedVariables false

theorem RB_of_trod {H : Type} {enc : TypeId × Value → H} {P : Program} {w : World} {t e : TypeId} {fuel : Nat} {cs : List Value} {x : DataW H × List MemPlace} {a : Option Addr} {len cap : Nat}
    (ht : P.underlying t = some (.slice e)) (he : P.underlying e = some (.int .u8)) (hc : P.cellsOf e = 1) (h : DataW.trod enc P w 0 (fun _ => true) true fuel t cs = some x) (hcs : cs = [.slice a len cap]) :
    ∃ xs, RB w a len cap xs := by
  subst hcs
  rcases open_ints ht he hc h with ⟨hcs, _⟩ | ⟨y, l, c, zs, hcs, _, hl, hm, hz, _, hcell, hwz⟩
  · simp at hcs
    obtain ⟨rfl, rfl, rfl⟩ := hcs
    exact ⟨[], ⟨rfl, .inl rfl⟩, fun x hx => by simp at hx, Nat.le_refl _, by omega⟩
  · simp at hcs
    obtain ⟨rfl, rfl, rfl⟩ := hcs
    have hz : zs.length = cap := by simpa using hz
    have hr := RowF.of_cells (f := Value.int .u8) (d := (0 : Int)) hl hz hcell
    have hb : ∀ i, i < len → 0 ≤ (zs.take len).getD i 0 ∧ (zs.take len).getD i 0 ≤ 255 := fun i hi => by
      have : (zs.take len).getD i 0 = zs[i]'(by omega) := by simp [List.getD, hi, show i < zs.length by omega]
      rw [this]
      exact bounds_u8 (hwz _ (List.getElem_mem _))
    obtain ⟨h1, h2⟩ := hr
    have e : ∀ i, i < len → ((zs.take len).map Int.toNat).getD i 0 = ((zs.take len).getD i 0).toNat := fun i hi => by
      simp [List.getD, hi, show i < zs.length by omega]
    refine ⟨(zs.take len).map Int.toNat, ⟨by simpa using h1, ?_⟩, fun x hx => ?_, hl, by unfold maxLen at hm; omega⟩
    · rcases h2 with h2 | ⟨b, off, e1, hb1, hh, hcl⟩
      · exact .inl h2
      · exact .inr ⟨b, off, e1, hb1, hh, fun i hi => by rw [hcl i hi, e i hi]; dsimp only; rw [Int.toNat_of_nonneg (hb i hi).1]⟩
    · obtain ⟨y, hy, rfl⟩ := List.mem_map.1 hx
      have := bounds_u8 (hwz _ (List.mem_of_mem_take hy))
      omega

end Go.Proofs.Ytjfogodfpmfhhaa
