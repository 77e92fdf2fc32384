/- More tokens behind: what is read of the front stays as it was. No program. More tokens behind a whole program: it goes on with them. No program is walked. Texts that may not stand behind a program: where it can go on no more. No program is walked. Package parse's Parse at a text that is too long. -/
import Derived.Test.YteiailpmieihnaaZB
import Derived.Test.YteiailpmieihnaaZG
import Derived.Test.YteiailpmieihnaaZJ
import Derived.Test.YteiailpmieihnaaZI
namespace Go.Proofs.Yteiailpmieihnaa
set_option linter.unusedVariables false
set_option linter.unusedSectionVars false
set_option linter.unusedSimpArgs false

/-- Tokens behind the reader's. -/
def PS.plus (σ : PS) (r : List Tk) : PS := ⟨σ.ts ++ r, σ.st, σ.at_⟩
/-- A reader that went on without a stop, and has not come to the end, tells the same with more behind. -/
def Ext {A : Type} (X Y : PS → A × PS) : Prop := ∀ (σ : PS) (r : List Tk), (X σ).2.ts ≠ [] → Y (σ.plus r) = ((X σ).1, (X σ).2.plus r)
theorem plus_next {σ : PS} {r : List Tk} (h : σ.ts ≠ []) : (σ.plus r).next = σ.next := by
  obtain ⟨ts, st, at_⟩ := σ
  cases ts with
  | nil => exact absurd rfl h
  | cons t ts => rfl
theorem plus_sees {σ : PS} {r : List Tk} (h : σ.ts ≠ []) (s : Srt) : (σ.plus r).sees s = σ.sees s := by unfold PS.sees; rw [plus_next h]
theorem plus_head {σ : PS} {r : List Tk} (h : σ.ts ≠ []) : (σ.plus r).head = σ.head := by
  obtain ⟨ts, st, at_⟩ := σ
  cases ts with
  | nil => exact absurd rfl h
  | cons t ts => rfl
theorem plus_tail {σ : PS} {r : List Tk} (h : σ.ts ≠ []) : (σ.plus r).tail = σ.tail.plus r := by
  obtain ⟨ts, st, at_⟩ := σ
  cases ts with
  | nil => exact absurd rfl h
  | cons t ts => rfl
theorem ne_of_tail {σ : PS} (h : σ.tail.ts ≠ []) : σ.ts ≠ [] := by
  obtain ⟨ts, st, at_⟩ := σ
  intro e
  apply h
  show ts.tail = []
  rw [show ts = [] from e]; rfl
/-- take that did not stop: there was such a token. -/
theorem take_sees {En : Nat} {σ : PS} {s : Srt} (hk : σ.st = true → σ.ts = []) (h : (σ.take En s).2.ts ≠ []) : σ.sees s = true ∧ σ.ts ≠ [] := by
  unfold PS.take at h
  by_cases hs : σ.sees s = true
  · rw [if_pos hs] at h; exact ⟨hs, ne_of_tail h⟩
  · rw [if_neg hs] at h; exact absurd (stop_lt hk) h
/-- A reader's state is sound: what has stopped has nothing left. -/
def PS.ok (σ : PS) : Prop := σ.st = true → σ.ts = []
theorem take_ok {En : Nat} {σ : PS} {s : Srt} (h : σ.ok) : (σ.take En s).2.ok := by
  unfold PS.take
  split
  · intro e
    show σ.ts.tail = []
    rw [h e]; rfl
  · intro _; exact stop_lt h
theorem take_ext {En En' : Nat} {σ : PS} {s : Srt} {r : List Tk} (hk : σ.ok) (h : (σ.take En s).2.ts ≠ []) : (σ.plus r).take En' s = ((σ.take En s).1, (σ.take En s).2.plus r) := by
  obtain ⟨h1, h2⟩ := take_sees hk h
  unfold PS.take
  rw [plus_sees h2, if_pos h1, if_pos h1, plus_head h2, plus_tail h2]
theorem names_ok {σ : PS} (h : σ.ok) : σ.names.2.ok := by
  intro e
  show (namesL σ.ts).2 = []
  rw [h e]; rfl
theorem namesL_ext : ∀ (l r : List Tk), (namesL l).2 ≠ [] → namesL (l ++ r) = ((namesL l).1, (namesL l).2 ++ r)
  | [], r, h => absurd rfl h
  | t :: l, r, h => by
    rw [List.cons_append, namesL, namesL]
    by_cases hs : srt t = sName
    · rw [if_pos hs, if_pos hs]
      rw [namesL, if_pos hs] at h
      rw [namesL_ext l r h]
    · rw [if_neg hs, if_neg hs]; rfl
theorem names_ext {σ : PS} {r : List Tk} (h : σ.names.2.ts ≠ []) : (σ.plus r).names = (σ.names.1, σ.names.2.plus r) := by
  unfold PS.names PS.plus
  dsimp only
  rw [namesL_ext σ.ts r h]

/-! ### What is sound stays sound -/
def Okp {A : Type} (X : PS → A × PS) : Prop := ∀ σ : PS, σ.ok → (X σ).2.ok
theorem tail_ok {σ : PS} (h : σ.ok) : σ.tail.ok := by
  intro e
  show σ.ts.tail = []
  rw [h e]; rfl
theorem stop_ok {En : Nat} {σ : PS} (h : σ.ok) : (σ.stop En).ok := fun _ => stop_lt h
theorem rowsL_ok {A : Type} {sep : Srt} {most : Nat} {one : PS → A × PS} (h : Okp one) : ∀ (f : Nat) (l : List A), Okp (rowsL sep most one f l)
  | 0, l => fun σ hs => hs
  | f + 1, l => fun σ hs => by
    unfold rowsL; split
    · exact rowsL_ok h f _ _ (h _ (tail_ok hs))
    · exact hs
theorem rowsF_ok {A : Type} {sep : Srt} {most : Nat} {one : PS → A × PS} (h : Okp one) : Okp (rowsF sep most one) := fun σ hs => rowsL_ok h _ _ _ (h σ hs)
theorem bracketF_ok {A : Type} {En : Nat} {one : PS → A × PS} (h : Okp one) : Okp (bracketF En one) := fun σ hs => take_ok (rowsF_ok h _ (take_ok hs))
theorem atomTypeF_ok {En : Nat} {vs : List By} {T : PS → Ty × PS} (h : Okp T) : Okp (atomTypeF En vs T) := fun σ hs => by
  unfold atomTypeF
  split
  · exact take_ok hs
  · split
    · exact take_ok hs
    · split
      · exact bracketF_ok h σ hs
      · exact stop_ok hs
theorem atomTypesL_ok {En : Nat} {vs : List By} {T : PS → Ty × PS} (h : Okp T) : ∀ (f : Nat) (l : List Ty), Okp (atomTypesL En vs T f l)
  | 0, l => fun σ hs => hs
  | f + 1, l => fun σ hs => by
    unfold atomTypesL; split
    · exact atomTypesL_ok h f _ _ (atomTypeF_ok h σ hs)
    · exact hs
theorem leftTypeF_ok {En : Nat} {vs : List By} {T : PS → Ty × PS} (h : Okp T) : Okp (leftTypeF En vs T) := fun σ hs => by
  unfold leftTypeF; split
  · exact atomTypesL_ok h _ _ _ (take_ok hs)
  · exact atomTypeF_ok h σ hs
theorem typF_ok (En : Nat) (vs : List By) : ∀ n, Okp (typF En vs n)
  | 0 => fun σ hs => hs
  | n + 1 => fun σ hs => by
    show (typStep En vs (typF En vs n) σ).2.ok
    unfold typStep; split
    · exact typF_ok En vs n _ (tail_ok (leftTypeF_ok (typF_ok En vs n) σ hs))
    · exact leftTypeF_ok (typF_ok En vs n) σ hs
theorem conF_ok (En : Nat) (vs : List By) (n : Nat) : Okp (conF En vs n) := fun σ hs => atomTypesL_ok (typF_ok En vs n) _ _ _ (take_ok hs)
section
variable {En : Nat} {X : PS → Ex × PS} (h : Okp X)
include h
theorem lamF_ok : Okp (lamF En X) := fun σ hs => h _ (take_ok (names_ok (take_ok (take_ok hs))))
theorem bindF_ok : Okp (bindF En X) := fun σ hs => h _ (take_ok (names_ok (take_ok hs)))
theorem letF_ok : Okp (letF En X) := fun σ hs => h _ (take_ok (bindF_ok h _ (take_ok hs)))
theorem choiceF_ok : Okp (choiceF En X) := fun σ hs => h _ (take_ok (h _ (take_ok (h _ (take_ok hs)))))
theorem altF_ok : Okp (altF En X) := fun σ hs => h _ (take_ok (names_ok (take_ok hs)))
theorem casesF_ok : Okp (casesF En X) := fun σ hs => take_ok (rowsF_ok (altF_ok h) _ (take_ok (take_ok (h _ (take_ok hs)))))
theorem tupleF_ok : Okp (tupleF En X) := fun σ hs => bracketF_ok h σ hs
theorem atomF_ok : Okp (atomF En X) := fun σ hs => by
  unfold atomF; split
  · exact tail_ok hs
  · split
    · exact tupleF_ok h σ hs
    · exact stop_ok hs
theorem appL_ok : ∀ (f : Nat) (e : Ex), Okp (appL En X f e)
  | 0, e => fun σ hs => hs
  | f + 1, e => fun σ hs => by
    unfold appL; split
    · exact appL_ok f _ _ (atomF_ok h σ hs)
    · exact hs
theorem appF_ok : Okp (appF En X) := fun σ hs => appL_ok h _ _ _ (atomF_ok h σ hs)
theorem exprStep_ok : Okp (exprStep En X) := fun σ hs => by
  unfold exprStep; split
  · exact lamF_ok h σ hs
  · split
    · exact letF_ok h σ hs
    · split
      · exact choiceF_ok h σ hs
      · split
        · exact casesF_ok h σ hs
        · exact appF_ok h σ hs
end
theorem exprF_ok (En : Nat) : ∀ n, Okp (exprF En n)
  | 0 => fun σ hs => hs
  | n + 1 => exprStep_ok (exprF_ok En n)

/-! ### With more behind -/
theorem plus_seesType {σ : PS} {r : List Tk} (h0 : σ.ts ≠ []) : (σ.plus r).seesType = σ.seesType := by
  unfold PS.seesType; simp only [plus_sees h0]
/-- On fewer tokens than B: what X tells without coming to the end, Y tells with r behind. -/
def ExtB (B : Nat) (r : List Tk) {A : Type} (X Y : PS → A × PS) : Prop := ∀ σ : PS, σ.ok → σ.ts.length < B → (X σ).2.ts ≠ [] → Y (σ.plus r) = ((X σ).1, (X σ).2.plus r)
theorem back {A : Type} {X : PS → A × PS} (h : Dec X) {σ : PS} (hn : (X σ).2.ts ≠ []) : σ.ts ≠ [] := by
  intro e
  have := h σ
  rw [e] at this
  exact hn (List.eq_nil_of_length_eq_zero (by simpa using this))
theorem back_take {En : Nat} {σ : PS} {s : Srt} (hn : (σ.take En s).2.ts ≠ []) : σ.ts ≠ [] := back (X := fun σ => σ.take En s) (fun σ => take_len En σ s) hn
theorem back_names {σ : PS} (hn : σ.names.2.ts ≠ []) : σ.ts ≠ [] := back (X := PS.names) names_len hn
theorem take_short {En : Nat} {σ : PS} {s : Srt} (hk : σ.ok) (h0 : s.k ≠ 0) (hn : (σ.take En s).2.ts ≠ []) : (σ.take En s).2.ts.length < σ.ts.length := take_lt (take_sees hk hn).1 h0
section
variable {A : Type} {B : Nat} {r : List Tk} {sep : Srt} {most : Nat} {one two : PS → A × PS} (hd : Dec one) (ho : Okp one) (hx : ExtB B r one two)
include hd ho hx
theorem rowsL_ext : ∀ (f g : Nat) (l : List A) (σ : PS), σ.ok → σ.ts.length < B → σ.ts.length ≤ f → σ.ts.length + r.length ≤ g → (rowsL sep most one f l σ).2.ts ≠ [] →
    rowsL sep most two g l (σ.plus r) = ((rowsL sep most one f l σ).1, (rowsL sep most one f l σ).2.plus r)
  | 0, g, l, σ, hk, hB, hf, hg, hn => absurd (List.eq_nil_of_length_eq_zero (show σ.ts.length = 0 by omega) : σ.ts = []) hn
  | f + 1, g, l, σ, hk, hB, hf, hg, hn => by
    have h0 : σ.ts ≠ [] := back (X := rowsL sep most one (f + 1) l) (fun τ => rowsL_len hd _ _ τ) hn
    have h1 : 0 < σ.ts.length := List.length_pos_iff.2 h0
    obtain ⟨g', rfl⟩ : ∃ g', g = g' + 1 := ⟨g - 1, by omega⟩
    rw [rowsL, rowsL, plus_sees h0]
    rw [rowsL] at hn
    by_cases hc : l.length < most ∧ σ.sees sep = true
    · rw [if_pos hc, if_pos hc]
      rw [if_pos hc] at hn
      have h2 := hd σ.tail
      rw [tail_len] at h2
      have h3 : (one σ.tail).2.ts ≠ [] := back (X := rowsL sep most one f _) (fun τ => rowsL_len hd _ _ τ) hn
      rw [plus_tail h0, hx σ.tail (tail_ok hk) (by rw [tail_len]; omega) h3]
      exact rowsL_ext f g' _ _ (ho _ (tail_ok hk)) (by omega) (by omega) (by omega) hn
    · rw [if_neg hc, if_neg hc]
theorem rowsF_ext : ExtB B r (rowsF sep most one) (rowsF sep most two) := fun σ hk hB hn => by
  have h3 : (one σ).2.ts ≠ [] := back (X := rowsL sep most one (one σ).2.ts.length [(one σ).1]) (fun τ => rowsL_len hd _ _ τ) hn
  unfold rowsF
  rw [hx σ hk hB h3]
  have h2 := hd σ
  refine rowsL_ext hd ho hx _ _ _ _ (ho σ hk) (by omega) (Nat.le_refl _) ?_ hn
  show _ ≤ ((one σ).2.ts ++ r).length
  rw [List.length_append]
  exact Nat.le_refl _
theorem bracketF_ext {En En' : Nat} : ExtB (B + 1) r (bracketF En one) (bracketF En' two) := fun σ hk hB hn => by
  have n3 : ((rowsF (sS tComma) maxTup one (σ.take En (sS tLpar)).2).2.take En (sS tRpar)).2.ts ≠ [] := hn
  have n2 := back_take n3
  have n1 := back (X := rowsF (sS tComma) maxTup one) (fun τ => rowsF_len hd τ) n2
  have l1 := take_short hk (by decide) n1
  unfold bracketF
  rw [take_ext (En' := En') hk n1, rowsF_ext hd ho hx _ (take_ok hk) (by omega) n2, take_ext (En' := En') (rowsF_ok ho _ (take_ok hk)) n3]
end
theorem plus_len (σ : PS) (r : List Tk) : (σ.plus r).ts.length = σ.ts.length + r.length := by
  show (σ.ts ++ r).length = _
  rw [List.length_append]
section
variable {B : Nat} {r : List Tk} {En En' : Nat} {vs : List By} {T U : PS → Ty × PS} (hd : Dec T) (ho : Okp T) (hx : ExtB B r T U)
include hd ho hx
theorem atomTypeF_ext : ExtB (B + 1) r (atomTypeF En vs T) (atomTypeF En' vs U) := fun σ hk hB hn => by
  have h0 : σ.ts ≠ [] := back (X := atomTypeF En vs T) (fun τ => atomTypeF_len hd τ) hn
  unfold atomTypeF at hn ⊢
  simp only [plus_sees h0]
  split
  · rename_i h1
    rw [if_pos h1] at hn
    show (varTy vs ((σ.plus r).take En' sName).1.s, _) = _
    unfold variableF at hn ⊢
    rw [take_ext (En' := En') hk hn]
  · rename_i h1
    rw [if_neg h1] at hn
    split
    · rename_i h2
      rw [if_pos h2] at hn
      rw [take_ext (En' := En') hk hn]
    · rename_i h2
      rw [if_neg h2] at hn
      split
      · rename_i h3
        rw [if_pos h3] at hn
        unfold tupleTypeF
        rw [bracketF_ext (En := En) (En' := En') hd ho hx σ hk hB hn]
      · rename_i h3
        rw [if_neg h3] at hn
        exact absurd (stop_lt hk) hn
theorem atomTypesL_ext : ∀ (f g : Nat) (l : List Ty) (σ : PS), σ.ok → σ.ts.length < B + 1 → σ.ts.length ≤ f → σ.ts.length + r.length ≤ g → (atomTypesL En vs T f l σ).2.ts ≠ [] →
    atomTypesL En' vs U g l (σ.plus r) = ((atomTypesL En vs T f l σ).1, (atomTypesL En vs T f l σ).2.plus r)
  | 0, g, l, σ, hk, hB, hf, hg, hn => absurd (List.eq_nil_of_length_eq_zero (show σ.ts.length = 0 by omega) : σ.ts = []) hn
  | f + 1, g, l, σ, hk, hB, hf, hg, hn => by
    have h0 : σ.ts ≠ [] := back (X := atomTypesL En vs T (f + 1) l) (fun τ => atomTypesL_len hd _ _ τ) hn
    have h1 : 0 < σ.ts.length := List.length_pos_iff.2 h0
    obtain ⟨g', rfl⟩ : ∃ g', g = g' + 1 := ⟨g - 1, by omega⟩
    rw [atomTypesL, atomTypesL, plus_seesType h0]
    rw [atomTypesL] at hn
    by_cases hc : σ.seesType = true
    · rw [if_pos hc, if_pos hc]
      rw [if_pos hc] at hn
      have h2 := atomTypeF_lt (En := En) (vs := vs) hd hc
      have h3 : (atomTypeF En vs T σ).2.ts ≠ [] := back (X := atomTypesL En vs T f _) (fun τ => atomTypesL_len hd _ _ τ) hn
      rw [atomTypeF_ext (En := En) (En' := En') hd ho hx σ hk hB h3]
      exact atomTypesL_ext f g' _ _ (atomTypeF_ok ho σ hk) (by omega) (by omega) (by omega) hn
    · rw [if_neg hc, if_neg hc]
theorem atomTypesF_ext : ExtB (B + 1) r (atomTypesF En vs T) (atomTypesF En' vs U) := fun σ hk hB hn =>
  atomTypesL_ext hd ho hx _ _ _ _ hk hB (Nat.le_refl _) (by rw [plus_len]; exact Nat.le_refl _) hn
theorem leftTypeF_ext : ExtB (B + 1) r (leftTypeF En vs T) (leftTypeF En' vs U) := fun σ hk hB hn => by
  have h0 : σ.ts ≠ [] := back (X := leftTypeF En vs T) (fun τ => leftTypeF_len hd τ) hn
  unfold leftTypeF at hn ⊢
  simp only [plus_sees h0]
  split
  · rename_i h1
    rw [if_pos h1] at hn
    have n1 : (σ.take En sCon).2.ts ≠ [] := back (X := atomTypesF En vs T) (fun τ => atomTypesL_len hd _ _ τ) hn
    have l1 := take_len En σ sCon
    rw [take_ext (En' := En') hk n1, atomTypesF_ext (En := En) (En' := En') hd ho hx _ (take_ok hk) (by omega) hn]
  · rename_i h1
    rw [if_neg h1] at hn
    exact atomTypeF_ext hd ho hx σ hk hB hn
theorem typStep_ext : ExtB (B + 1) r (typStep En vs T) (typStep En' vs U) := fun σ hk hB hn => by
  have nl : (leftTypeF En vs T σ).2.ts ≠ [] := by
    unfold typStep at hn
    split at hn
    · exact ne_of_tail (back hd hn)
    · exact hn
  have ll := leftTypeF_len (En := En) (vs := vs) hd σ
  unfold typStep at hn ⊢
  rw [leftTypeF_ext (En := En) (En' := En') hd ho hx σ hk hB nl]
  simp only [plus_sees nl]
  split
  · rename_i h1
    rw [if_pos h1] at hn
    have l2 : 0 < (leftTypeF En vs T σ).2.ts.length := List.length_pos_iff.2 nl
    rw [plus_tail nl, hx _ (tail_ok (leftTypeF_ok ho σ hk)) (by rw [tail_len]; omega) hn]
  · rfl
end
theorem typF_ext {En En' : Nat} {vs : List By} {r : List Tk} : ∀ n m, n + r.length ≤ m → ExtB n r (typF En vs n) (typF En' vs m)
  | 0, m, h => fun σ hk hB hn => by omega
  | n + 1, m, h => by
    obtain ⟨m', rfl⟩ : ∃ m', m = m' + 1 := ⟨m - 1, by omega⟩
    exact typStep_ext (typF_len En vs n) (typF_ok En vs n) (typF_ext n m' (by omega))

theorem conF_ext {En En' : Nat} {vs : List By} {r : List Tk} {n m : Nat} (hnm : n + r.length ≤ m) : ExtB n r (conF En vs n) (conF En' vs m) := fun σ hk hB hn => by
  have n1 : (σ.take En sCon).2.ts ≠ [] := back (X := atomTypesF En vs (typF En vs n)) (fun τ => atomTypesL_len (typF_len En vs n) _ _ τ) hn
  have l1 := take_len En σ sCon
  unfold conF at hn ⊢
  rw [take_ext (En' := En') hk n1, atomTypesF_ext (En := En) (En' := En') (typF_len En vs n) (typF_ok En vs n) (typF_ext n m hnm) _ (take_ok hk) (by omega) hn]

/-! ### Expressions -/
section
variable {B : Nat} {r : List Tk} {En En' : Nat} {X Y : PS → Ex × PS} (hd : Dec X) (ho : Okp X) (hx : ExtB B r X Y)
include hd ho hx
theorem bindF_ext : ExtB (B + 1) r (bindF En X) (bindF En' Y) := fun σ hk hB hn => by
  have n3 : ((σ.take En sName).2.names.2.take En (sS tEq)).2.ts ≠ [] := back hd hn
  have n2 := back_take n3
  have n1 := back_names n2
  have l1 := take_short hk (by decide) n1
  have l2 := names_len (σ.take En sName).2
  have l3 := take_len En (σ.take En sName).2.names.2 (sS tEq)
  unfold bindF at hn ⊢
  dsimp only at hn ⊢
  rw [take_ext (En' := En') hk n1]
  dsimp only
  rw [names_ext n2]
  dsimp only
  rw [take_ext (En' := En') (names_ok (take_ok hk)) n3]
  dsimp only
  rw [hx _ (take_ok (names_ok (take_ok hk))) (by omega) hn]
theorem lamF_ext : ExtB (B + 1) r (lamF En X) (lamF En' Y) := fun σ hk hB hn => by
  have n4 : ((((σ.take En (sS tBack)).2.take En sName).2.names.2).take En (sS tArrow)).2.ts ≠ [] := back hd hn
  have n3 := back_take n4
  have n2 := back_names n3
  have n1 := back_take n2
  have l0 := take_short hk (by decide) n1
  have l1 := take_len En (σ.take En (sS tBack)).2 sName
  have l2 := names_len ((σ.take En (sS tBack)).2.take En sName).2
  have l3 := take_len En ((σ.take En (sS tBack)).2.take En sName).2.names.2 (sS tArrow)
  unfold lamF at hn ⊢
  dsimp only at hn ⊢
  rw [take_ext (En' := En') hk n1]
  dsimp only
  rw [take_ext (En' := En') (take_ok hk) n2]
  dsimp only
  rw [names_ext n3]
  dsimp only
  rw [take_ext (En' := En') (names_ok (take_ok (take_ok hk))) n4]
  dsimp only
  rw [hx _ (take_ok (names_ok (take_ok (take_ok hk)))) (by omega) hn]
theorem altF_ext : ExtB (B + 1) r (altF En X) (altF En' Y) := fun σ hk hB hn => by
  have n3 : ((σ.take En sCon).2.names.2.take En (sS tArrow)).2.ts ≠ [] := back hd hn
  have n2 := back_take n3
  have n1 := back_names n2
  have l1 := take_short hk (by decide) n1
  have l2 := names_len (σ.take En sCon).2
  have l3 := take_len En (σ.take En sCon).2.names.2 (sS tArrow)
  unfold altF at hn ⊢
  dsimp only at hn ⊢
  rw [take_ext (En' := En') hk n1]
  dsimp only
  rw [names_ext n2]
  dsimp only
  rw [take_ext (En' := En') (names_ok (take_ok hk)) n3]
  dsimp only
  rw [hx _ (take_ok (names_ok (take_ok hk))) (by omega) hn]
theorem letF_ext : ExtB (B + 1) r (letF En X) (letF En' Y) := fun σ hk hB hn => by
  have n3 : ((bindF En X (σ.take En (sW tLet)).2).2.take En (sW tIn)).2.ts ≠ [] := back hd hn
  have n2 := back_take n3
  have n1 := back (X := bindF En X) (fun τ => bindF_len hd τ) n2
  have l1 := take_short hk (by decide) n1
  have l2 := bindF_len (En := En) hd (σ.take En (sW tLet)).2
  have l3 := take_len En (bindF En X (σ.take En (sW tLet)).2).2 (sW tIn)
  unfold letF at hn ⊢
  dsimp only at hn ⊢
  rw [take_ext (En' := En') hk n1]
  dsimp only
  rw [bindF_ext (En := En) (En' := En') hd ho hx _ (take_ok hk) (by omega) n2]
  dsimp only
  rw [take_ext (En' := En') (bindF_ok ho _ (take_ok hk)) n3]
  dsimp only
  rw [hx _ (take_ok (bindF_ok ho _ (take_ok hk))) (by omega) hn]
theorem choiceF_ext : ExtB (B + 1) r (choiceF En X) (choiceF En' Y) := fun σ hk hB hn => by
  have n5 : ((X ((X (σ.take En (sW tIf)).2).2.take En (sW tThen)).2).2.take En (sW tElse)).2.ts ≠ [] := back hd hn
  have n4 := back_take n5
  have n3 := back hd n4
  have n2 := back_take n3
  have n1 := back hd n2
  have l1 := take_short hk (by decide) n1
  have l2 := hd (σ.take En (sW tIf)).2
  have l3 := take_len En (X (σ.take En (sW tIf)).2).2 (sW tThen)
  have l4 := hd ((X (σ.take En (sW tIf)).2).2.take En (sW tThen)).2
  have l5 := take_len En (X ((X (σ.take En (sW tIf)).2).2.take En (sW tThen)).2).2 (sW tElse)
  have o1 := take_ok (En := En) (s := sW tIf) hk
  have o2 := ho _ o1
  have o3 := take_ok (En := En) (s := sW tThen) o2
  have o4 := ho _ o3
  have o5 := take_ok (En := En) (s := sW tElse) o4
  unfold choiceF at hn ⊢
  dsimp only at hn ⊢
  rw [take_ext (En' := En') hk n1]
  dsimp only
  rw [hx _ o1 (by omega) n2]
  dsimp only
  rw [take_ext (En' := En') o2 n3]
  dsimp only
  rw [hx _ o3 (by omega) n4]
  dsimp only
  rw [take_ext (En' := En') o4 n5]
  dsimp only
  rw [hx _ o5 (by omega) hn]
theorem casesF_ext : ExtB (B + 1) r (casesF En X) (casesF En' Y) := fun σ hk hB hn => by
  have n5 : ((rowsF (sS tSemi) many (altF En X) ((((X (σ.take En (sW tCase)).2).2.take En (sW tOf)).2).take En (sS tLcur)).2).2.take En (sS tRcur)).2.ts ≠ [] := hn
  have n4 := back_take n5
  have n3 := back (X := rowsF (sS tSemi) many (altF En X)) (fun τ => rowsF_len (altF_len hd) τ) n4
  have n2 := back_take n3
  have n1 := back_take n2
  have n0 := back hd n1
  have l1 := take_short hk (by decide) n0
  have l2 := hd (σ.take En (sW tCase)).2
  have l3 := take_len En (X (σ.take En (sW tCase)).2).2 (sW tOf)
  have l4 := take_len En ((X (σ.take En (sW tCase)).2).2.take En (sW tOf)).2 (sS tLcur)
  have o1 := take_ok (En := En) (s := sW tCase) hk
  have o2 := ho _ o1
  have o3 := take_ok (En := En) (s := sW tOf) o2
  have o4 := take_ok (En := En) (s := sS tLcur) o3
  have o5 := rowsF_ok (sep := sS tSemi) (most := many) (altF_ok (En := En) ho) _ o4
  unfold casesF at hn ⊢
  dsimp only at hn ⊢
  rw [take_ext (En' := En') hk n0]
  dsimp only
  rw [hx _ o1 (by omega) n1]
  dsimp only
  rw [take_ext (En' := En') o2 n2]
  dsimp only
  rw [take_ext (En' := En') o3 n3]
  dsimp only
  rw [rowsF_ext (altF_len hd) (altF_ok ho) (altF_ext (En := En) (En' := En') hd ho hx) _ o4 (by omega) n4]
  dsimp only
  rw [take_ext (En' := En') o5 n5]
theorem tupleF_ext : ExtB (B + 1) r (tupleF En X) (tupleF En' Y) := fun σ hk hB hn => by
  unfold tupleF
  rw [bracketF_ext (En := En) (En' := En') hd ho hx σ hk hB hn]
theorem atomF_ext : ExtB (B + 1) r (atomF En X) (atomF En' Y) := fun σ hk hB hn => by
  have h0 : σ.ts ≠ [] := back (X := atomF En X) (fun τ => atomF_len hd τ) hn
  unfold atomF at hn ⊢
  rw [plus_next h0]
  split
  · rename_i h1
    rw [if_pos h1] at hn
    rw [plus_head h0, plus_tail h0]
  · rename_i h1
    rw [if_neg h1] at hn
    split
    · rename_i h2
      rw [if_pos h2] at hn
      exact tupleF_ext hd ho hx σ hk hB hn
    · rename_i h2
      rw [if_neg h2] at hn
      exact absurd (stop_lt hk) hn
theorem appL_ext : ∀ (f g : Nat) (e : Ex) (σ : PS), σ.ok → σ.ts.length < B + 1 → σ.ts.length ≤ f → σ.ts.length + r.length ≤ g → (appL En X f e σ).2.ts ≠ [] →
    appL En' Y g e (σ.plus r) = ((appL En X f e σ).1, (appL En X f e σ).2.plus r)
  | 0, g, e, σ, hk, hB, hf, hg, hn => absurd (List.eq_nil_of_length_eq_zero (show σ.ts.length = 0 by omega) : σ.ts = []) hn
  | f + 1, g, e, σ, hk, hB, hf, hg, hn => by
    have h0 : σ.ts ≠ [] := back (X := appL En X (f + 1) e) (fun τ => appL_len hd _ _ τ) hn
    have h1 : 0 < σ.ts.length := List.length_pos_iff.2 h0
    obtain ⟨g', rfl⟩ : ∃ g', g = g' + 1 := ⟨g - 1, by omega⟩
    have hsa : (σ.plus r).seesAtom = σ.seesAtom := by unfold PS.seesAtom; rw [plus_next h0]
    rw [appL, appL, hsa]
    rw [appL] at hn
    by_cases hc : σ.seesAtom = true
    · rw [if_pos hc, if_pos hc]
      rw [if_pos hc] at hn
      have h2 := atomF_lt (En := En) hd hc
      have h3 : (atomF En X σ).2.ts ≠ [] := back (X := appL En X f _) (fun τ => appL_len hd _ _ τ) hn
      rw [atomF_ext (En := En) (En' := En') hd ho hx σ hk hB h3]
      exact appL_ext f g' _ _ (atomF_ok ho σ hk) (by omega) (by omega) (by omega) hn
    · rw [if_neg hc, if_neg hc]
theorem appF_ext : ExtB (B + 1) r (appF En X) (appF En' Y) := fun σ hk hB hn => by
  have h3 : (atomF En X σ).2.ts ≠ [] := back (X := appL En X (atomF En X σ).2.ts.length (atomF En X σ).1) (fun τ => appL_len hd _ _ τ) hn
  have l1 := atomF_len (En := En) hd σ
  unfold appF
  rw [atomF_ext (En := En) (En' := En') hd ho hx σ hk hB h3]
  exact appL_ext hd ho hx _ _ _ _ (atomF_ok ho σ hk) (by omega) (Nat.le_refl _) (by rw [plus_len]; exact Nat.le_refl _) hn
theorem exprStep_ext : ExtB (B + 1) r (exprStep En X) (exprStep En' Y) := fun σ hk hB hn => by
  have h0 : σ.ts ≠ [] := back (X := exprStep En X) (exprStep_len hd) hn
  unfold exprStep at hn ⊢
  rw [plus_next h0]
  split
  · rename_i h1
    rw [if_pos h1] at hn
    exact lamF_ext hd ho hx σ hk hB hn
  · rename_i h1
    rw [if_neg h1] at hn
    split
    · rename_i h2
      rw [if_pos h2] at hn
      exact letF_ext hd ho hx σ hk hB hn
    · rename_i h2
      rw [if_neg h2] at hn
      split
      · rename_i h3
        rw [if_pos h3] at hn
        exact choiceF_ext hd ho hx σ hk hB hn
      · rename_i h3
        rw [if_neg h3] at hn
        split
        · rename_i h4
          rw [if_pos h4] at hn
          exact casesF_ext hd ho hx σ hk hB hn
        · rename_i h4
          rw [if_neg h4] at hn
          exact appF_ext hd ho hx σ hk hB hn
end
theorem exprF_ext {En En' : Nat} {r : List Tk} : ∀ n m, n + r.length ≤ m → ExtB n r (exprF En n) (exprF En' m)
  | 0, m, h => fun σ hk hB hn => by omega
  | n + 1, m, h => by
    obtain ⟨m', rfl⟩ : ∃ m', m = m' + 1 := ⟨m - 1, by omega⟩
    exact exprStep_ext (exprF_len En n) (exprF_ok En n) (exprF_ext n m' (by omega))

end Go.Proofs.Yteiailpmieihnaa

namespace Go.Proofs.Yteiailpmieihnaa
set_option linter.unusedVariables false

theorem take_fin {En En' : Nat} {σ : PS} {s : Srt} {r : List Tk} (h0 : s.k ≠ 0) (h : (σ.take En s).2.st = false) : σ.ts ≠ [] ∧ (σ.plus r).take En' s = ((σ.take En s).1, (σ.take En s).2.plus r) := by
  have hs : σ.sees s = true := by
    by_cases hs : σ.sees s = true
    · exact hs
    · unfold PS.take at h
      rw [if_neg hs] at h
      exfalso
      have h : (σ.stop En).st = false := h
      unfold PS.stop at h
      split at h
      · rename_i e; rw [e] at h; cases h
      · cases h
  have hn : σ.ts ≠ [] := List.length_pos_iff.1 (sees_pos hs h0)
  refine ⟨hn, ?_⟩
  unfold PS.take
  rw [plus_sees hn, if_pos hs, if_pos hs, plus_head hn, plus_tail hn]
theorem dataF_ext {En En' n m : Nat} {r : List Tk} (hnm : n + r.length ≤ m) {σ : PS} (hk : σ.ok) (hB : σ.ts.length < n) (hst : (dataF En n σ).2.st = false) :
    dataF En' m (σ.plus r) = ((dataF En n σ).1, (dataF En n σ).2.plus r) ∧ (dataF En n σ).2.ok := by
  obtain ⟨a, ha⟩ : ∃ a, σ.take En (sW tData) = a := ⟨_, rfl⟩
  obtain ⟨b, hb⟩ : ∃ b, a.2.take En sCon = b := ⟨_, rfl⟩
  obtain ⟨q, hq⟩ : ∃ q, b.2.names = q := ⟨_, rfl⟩
  obtain ⟨c, hc⟩ : ∃ c, q.2.take En (sS tEq) = c := ⟨_, rfl⟩
  obtain ⟨R, hR⟩ : ∃ R, rowsF (sS tBar) many (conF En q.1 n) c.2 = R := ⟨_, rfl⟩
  have e : dataF En n σ = (⟨b.1.s, b.1.p, q.1, R.1⟩, (R.2.take En (sS tSemi)).2) := by
    unfold dataF
    simp only [ha, hb, hq, hc, hR]
  rw [e] at hst ⊢
  obtain ⟨n5, e5⟩ := take_fin (En' := En') (r := r) (by decide) hst
  have hcl := conF_len En q.1 n
  have o1 : a.2.ok := ha ▸ take_ok hk
  have o2 : b.2.ok := hb ▸ take_ok o1
  have o3 : q.2.ok := hq ▸ names_ok o2
  have o4 : c.2.ok := hc ▸ take_ok o3
  have o5 : R.2.ok := hR ▸ rowsF_ok (conF_ok En q.1 n) _ o4
  have n4 : c.2.ts ≠ [] := back (X := rowsF (sS tBar) many (conF En q.1 n)) (fun τ => rowsF_len hcl τ) (by rw [hR]; exact n5)
  have n3 : q.2.ts ≠ [] := back_take (En := En) (s := sS tEq) (by rw [hc]; exact n4)
  have n2 : b.2.ts ≠ [] := back_names (by rw [hq]; exact n3)
  have n1 : a.2.ts ≠ [] := back_take (En := En) (s := sCon) (by rw [hb]; exact n2)
  have l1 : a.2.ts.length ≤ σ.ts.length := ha ▸ take_len En σ (sW tData)
  have l2 : b.2.ts.length ≤ a.2.ts.length := hb ▸ take_len En a.2 sCon
  have l3 : q.2.ts.length ≤ b.2.ts.length := hq ▸ names_len b.2
  have l4 : c.2.ts.length ≤ q.2.ts.length := hc ▸ take_len En q.2 (sS tEq)
  have ha' := take_ext (En' := En') (r := r) hk (by rw [ha]; exact n1 : (σ.take En (sW tData)).2.ts ≠ [])
  rw [ha] at ha'
  have hb' := take_ext (En' := En') (r := r) o1 (by rw [hb]; exact n2 : (a.2.take En sCon).2.ts ≠ [])
  rw [hb] at hb'
  have hq' := names_ext (r := r) (by rw [hq]; exact n3 : b.2.names.2.ts ≠ [])
  rw [hq] at hq'
  have hc' := take_ext (En' := En') (r := r) o3 (by rw [hc]; exact n4 : (q.2.take En (sS tEq)).2.ts ≠ [])
  rw [hc] at hc'
  have hR' := rowsF_ext (sep := sS tBar) (most := many) hcl (conF_ok En q.1 n) (conF_ext (En := En) (En' := En') hnm) c.2 o4 (by omega) (by rw [hR]; exact n5)
  rw [hR] at hR'
  refine ⟨?_, take_ok o5⟩
  unfold dataF
  simp only [ha', hb', hq', hc', hR', e5]
theorem topF_ext {En En' n m : Nat} {r : List Tk} (hnm : n + r.length ≤ m) {σ : PS} (hk : σ.ok) (hB : σ.ts.length < n) (hst : (topF En n σ).2.st = false) :
    topF En' m (σ.plus r) = ((topF En n σ).1, (topF En n σ).2.plus r) ∧ (topF En n σ).2.ok := by
  obtain ⟨a, ha⟩ : ∃ a, σ.take En (sW tLet) = a := ⟨_, rfl⟩
  obtain ⟨b, hb⟩ : ∃ b, bindF En (exprF En n) a.2 = b := ⟨_, rfl⟩
  have e : topF En n σ = (b.1, (b.2.take En (sS tSemi)).2) := by
    unfold topF
    simp only [ha, hb]
  rw [e] at hst ⊢
  obtain ⟨n2, e2⟩ := take_fin (En' := En') (r := r) (by decide) hst
  have o1 : a.2.ok := ha ▸ take_ok hk
  have o2 : b.2.ok := hb ▸ bindF_ok (exprF_ok En n) _ o1
  have n1 : a.2.ts ≠ [] := back (X := bindF En (exprF En n)) (fun τ => bindF_len (exprF_len En n) τ) (by rw [hb]; exact n2)
  have l1 : a.2.ts.length ≤ σ.ts.length := ha ▸ take_len En σ (sW tLet)
  have ha' := take_ext (En' := En') (r := r) hk (by rw [ha]; exact n1 : (σ.take En (sW tLet)).2.ts ≠ [])
  rw [ha] at ha'
  have hb' := bindF_ext (En := En) (En' := En') (exprF_len En n) (exprF_ok En n) (exprF_ext (En := En) (En' := En') n m hnm) a.2 o1 (by omega) (by rw [hb]; exact n2)
  rw [hb] at hb'
  refine ⟨?_, take_ok o2⟩
  unfold topF
  simp only [ha', hb', e2]
theorem dataF_okp {En n : Nat} {σ : PS} (hk : σ.ok) : (dataF En n σ).2.ok := by
  obtain ⟨a, ha⟩ : ∃ a, σ.take En (sW tData) = a := ⟨_, rfl⟩
  obtain ⟨b, hb⟩ : ∃ b, a.2.take En sCon = b := ⟨_, rfl⟩
  obtain ⟨q, hq⟩ : ∃ q, b.2.names = q := ⟨_, rfl⟩
  obtain ⟨c, hc⟩ : ∃ c, q.2.take En (sS tEq) = c := ⟨_, rfl⟩
  obtain ⟨R, hR⟩ : ∃ R, rowsF (sS tBar) many (conF En q.1 n) c.2 = R := ⟨_, rfl⟩
  have e : dataF En n σ = (⟨b.1.s, b.1.p, q.1, R.1⟩, (R.2.take En (sS tSemi)).2) := by
    unfold dataF
    simp only [ha, hb, hq, hc, hR]
  rw [e]
  have o1 : a.2.ok := ha ▸ take_ok hk
  have o2 : b.2.ok := hb ▸ take_ok o1
  have o3 : q.2.ok := hq ▸ names_ok o2
  have o4 : c.2.ok := hc ▸ take_ok o3
  exact take_ok (hR ▸ rowsF_ok (conF_ok En q.1 n) _ o4)
theorem topF_okp {En n : Nat} {σ : PS} (hk : σ.ok) : (topF En n σ).2.ok := by
  obtain ⟨a, ha⟩ : ∃ a, σ.take En (sW tLet) = a := ⟨_, rfl⟩
  obtain ⟨b, hb⟩ : ∃ b, bindF En (exprF En n) a.2 = b := ⟨_, rfl⟩
  have e : topF En n σ = (b.1, (b.2.take En (sS tSemi)).2) := by
    unfold topF
    simp only [ha, hb]
  rw [e]
  have o1 : a.2.ok := ha ▸ take_ok hk
  exact take_ok (hb ▸ bindF_ok (exprF_ok En n) _ o1)
theorem programL_st {En n f : Nat} {p : Pg} {σ : PS} (hk : σ.ok) (h : (programL En n f p σ).2.st = false) : σ.st = false := by
  cases hs : σ.st with
  | false => rfl
  | true =>
    rw [programL_end (hk hs)] at h
    exact absurd h (by rw [show ((p, σ) : Pg × PS).2.st = σ.st from rfl, hs]; decide)
theorem programL_data_eq {En n f : Nat} {p : Pg} {σ : PS} (h0 : σ.ts ≠ []) (h1 : σ.sees (sW tData) = true) : programL En n (f + 1) p σ = programL En n f ⟨p.datas ++ [(dataF En n σ).1], p.binds⟩ (dataF En n σ).2 := by
  rw [programL, if_neg h0, if_pos h1]
theorem programL_top_eq {En n f : Nat} {p : Pg} {σ : PS} (h0 : σ.ts ≠ []) (h1 : ¬ σ.sees (sW tData) = true) : programL En n (f + 1) p σ = programL En n f ⟨p.datas, p.binds ++ [(topF En n σ).1]⟩ (topF En n σ).2 := by
  rw [programL, if_neg h0, if_neg h1]
/-- A whole program, and more behind: it goes on with what is behind. -/
theorem programL_ext {En En' n m : Nat} {r : List Tk} (hnm : n + r.length ≤ m) (f : Nat) : ∀ (g : Nat) (p : Pg) (σ : PS), σ.ok → σ.ts.length < n → σ.ts.length ≤ f → σ.ts.length + r.length ≤ g → (programL En n f p σ).2.st = false →
    ∃ g', r.length ≤ g' ∧ programL En' m g p (σ.plus r) = programL En' m g' (programL En n f p σ).1 ⟨r, false, (programL En n f p σ).2.at_⟩ := by
  induction f with
  | zero =>
    intro g p σ hk hn hf hg hst
    have hts : σ.ts = [] := List.eq_nil_of_length_eq_zero (by omega)
    have h0 := programL_st hk hst
    refine ⟨g, by omega, ?_⟩
    rw [programL_end hts]
    have e : σ.plus r = ⟨r, false, σ.at_⟩ := by unfold PS.plus; rw [hts, h0]; rfl
    rw [e]
  | succ f' ih =>
    intro g p σ hk hn hf hg hst
    have h0 := programL_st hk hst
    by_cases hts : σ.ts = []
    · refine ⟨g, by rw [hts] at hg; simpa using hg, ?_⟩
      rw [programL_end hts]
      have e : σ.plus r = ⟨r, false, σ.at_⟩ := by unfold PS.plus; rw [hts, h0]; rfl
      rw [e]
    · have hpos := List.length_pos_iff.2 hts
      obtain ⟨g1, rfl⟩ : ∃ g1, g = g1 + 1 := ⟨g - 1, by omega⟩
      have hne : (σ.plus r).ts ≠ [] := fun e => hts (List.append_eq_nil_iff.1 e).1
      by_cases hs : σ.sees (sW tData) = true
      · have e := programL_data_eq (En := En) (n := n) (f := f') (p := p) hts hs
        have e2 := programL_data_eq (En := En') (n := m) (f := g1) (p := p) hne (by rw [plus_sees hts]; exact hs)
        rw [e] at hst ⊢
        rw [e2]
        have hok := dataF_okp (En := En) (n := n) hk
        have hl := dataF_lt (En := En) (n := n) hs
        obtain ⟨τ, hτ⟩ : ∃ τ, dataF En n σ = τ := ⟨_, rfl⟩
        have hd : (dataF En n σ).2.st = false := programL_st hok hst
        have hx := (dataF_ext (En' := En') hnm hk hn hd).1
        rw [hτ] at hst hok hl hx ⊢
        rw [hx]
        exact ih g1 ⟨p.datas ++ [τ.1], p.binds⟩ τ.2 hok (by omega) (by omega) (by omega) hst
      · have e := programL_top_eq (En := En) (n := n) (f := f') (p := p) hts hs
        have e2 := programL_top_eq (En := En') (n := m) (f := g1) (p := p) hne (by rw [plus_sees hts]; exact hs)
        rw [e] at hst ⊢
        rw [e2]
        have hok := topF_okp (En := En) (n := n) hk
        have hl := topF_lt (En := En) (n := n) hts hk
        obtain ⟨τ, hτ⟩ : ∃ τ, topF En n σ = τ := ⟨_, rfl⟩
        have hd : (topF En n σ).2.st = false := programL_st hok hst
        have hx := (topF_ext (En' := En') hnm hk hn hd).1
        rw [hτ] at hst hok hl hx ⊢
        rw [hx]
        exact ih g1 ⟨p.datas, p.binds ++ [τ.1]⟩ τ.2 hok (by omega) (by omega) (by omega) hst

end Go.Proofs.Yteiailpmieihnaa

namespace Go.Proofs.Yteiailpmieihnaa
set_option linter.unusedVariables false

def badT : List By := [[120], [108, 101, 116], [108, 101, 116, 32, 88], [108, 101, 116, 32, 102], [108, 101, 116, 32, 102, 32, 61, 32], [108, 101, 116, 32, 102, 32, 61, 32, 41, 59], [100, 97, 116, 97, 32, 100], [100, 97, 116, 97, 32, 68, 32, 61, 32, 59], [100, 97, 116, 97, 32, 68, 32, 61, 32, 67, 32, 124, 59], [108, 101, 116, 32, 102, 32, 61, 32, 40, 97, 44, 32, 59], [108, 101, 116, 32, 102, 32, 61, 32, 99, 97, 115, 101, 32, 120, 32, 111, 102, 32, 123, 125, 59], [108, 101, 116, 32, 102, 32, 61, 32, 92, 32, 45, 62, 32, 120, 59], [108, 101, 116, 32, 102, 32, 61, 32, 105, 102, 32, 97, 32, 116, 104, 101, 110, 32, 98, 59], [108, 101, 116, 32, 102, 32, 61, 32, 49], [105, 110]]
def farL : List Nat := [0, 3, 4, 5, 8, 8, 5, 9, 12, 12, 19, 10, 19, 9, 0]
def okTs (l : By) : List Tk := match lexL l 0 with
  | Sum.inl _ => []
  | Sum.inr ts => ts
theorem bad_0 (c a0 x y : Nat) (p : Pg) : (programL (c + 1) (x + ((okTs (badT.getD 0 [])).length + 1)) (y + (okTs (badT.getD 0 [])).length) p ⟨(okTs (badT.getD 0 [])).map (Tk.mv c), false, a0⟩).2 = ⟨[], true, 0 + c⟩ := by cases y <;> kernel_rfl
theorem bad_1 (c a0 x y : Nat) (p : Pg) : (programL (c + 3) (x + ((okTs (badT.getD 1 [])).length + 1)) (y + (okTs (badT.getD 1 [])).length) p ⟨(okTs (badT.getD 1 [])).map (Tk.mv c), false, a0⟩).2 = ⟨[], true, c + 3⟩ := by cases y <;> kernel_rfl
theorem bad_2 (c a0 x y : Nat) (p : Pg) : (programL (c + 5) (x + ((okTs (badT.getD 2 [])).length + 1)) (y + (okTs (badT.getD 2 [])).length) p ⟨(okTs (badT.getD 2 [])).map (Tk.mv c), false, a0⟩).2 = ⟨[], true, 4 + c⟩ := by kernel_rfl
theorem bad_3 (c a0 x y : Nat) (p : Pg) : (programL (c + 5) (x + ((okTs (badT.getD 3 [])).length + 1)) (y + (okTs (badT.getD 3 [])).length) p ⟨(okTs (badT.getD 3 [])).map (Tk.mv c), false, a0⟩).2 = ⟨[], true, c + 5⟩ := by kernel_rfl
theorem bad_4 (c a0 x y : Nat) (p : Pg) : (programL (c + 8) (x + ((okTs (badT.getD 4 [])).length + 1)) (y + (okTs (badT.getD 4 [])).length) p ⟨(okTs (badT.getD 4 [])).map (Tk.mv c), false, a0⟩).2 = ⟨[], true, c + 8⟩ := by kernel_rfl
theorem bad_5 (c a0 x y : Nat) (p : Pg) : (programL (c + 10) (x + ((okTs (badT.getD 5 [])).length + 1)) (y + (okTs (badT.getD 5 [])).length) p ⟨(okTs (badT.getD 5 [])).map (Tk.mv c), false, a0⟩).2 = ⟨[], true, 8 + c⟩ := by kernel_rfl
theorem bad_6 (c a0 x y : Nat) (p : Pg) : (programL (c + 6) (x + ((okTs (badT.getD 6 [])).length + 1)) (y + (okTs (badT.getD 6 [])).length) p ⟨(okTs (badT.getD 6 [])).map (Tk.mv c), false, a0⟩).2 = ⟨[], true, 5 + c⟩ := by kernel_rfl
theorem bad_7 (c a0 x y : Nat) (p : Pg) : (programL (c + 10) (x + ((okTs (badT.getD 7 [])).length + 1)) (y + (okTs (badT.getD 7 [])).length) p ⟨(okTs (badT.getD 7 [])).map (Tk.mv c), false, a0⟩).2 = ⟨[], true, 9 + c⟩ := by kernel_rfl
theorem bad_8 (c a0 x y : Nat) (p : Pg) : (programL (c + 13) (x + ((okTs (badT.getD 8 [])).length + 1)) (y + (okTs (badT.getD 8 [])).length) p ⟨(okTs (badT.getD 8 [])).map (Tk.mv c), false, a0⟩).2 = ⟨[], true, 12 + c⟩ := by kernel_rfl
theorem bad_9 (c a0 x y : Nat) (p : Pg) : (programL (c + 13) (x + ((okTs (badT.getD 9 [])).length + 1)) (y + (okTs (badT.getD 9 [])).length) p ⟨(okTs (badT.getD 9 [])).map (Tk.mv c), false, a0⟩).2 = ⟨[], true, 12 + c⟩ := by kernel_rfl
theorem bad_10 (c a0 x y : Nat) (p : Pg) : (programL (c + 21) (x + ((okTs (badT.getD 10 [])).length + 1)) (y + (okTs (badT.getD 10 [])).length) p ⟨(okTs (badT.getD 10 [])).map (Tk.mv c), false, a0⟩).2 = ⟨[], true, 19 + c⟩ := by kernel_rfl
theorem bad_11 (c a0 x y : Nat) (p : Pg) : (programL (c + 15) (x + ((okTs (badT.getD 11 [])).length + 1)) (y + (okTs (badT.getD 11 [])).length) p ⟨(okTs (badT.getD 11 [])).map (Tk.mv c), false, a0⟩).2 = ⟨[], true, 10 + c⟩ := by kernel_rfl
theorem bad_12 (c a0 x y : Nat) (p : Pg) : (programL (c + 20) (x + ((okTs (badT.getD 12 [])).length + 1)) (y + (okTs (badT.getD 12 [])).length) p ⟨(okTs (badT.getD 12 [])).map (Tk.mv c), false, a0⟩).2 = ⟨[], true, 19 + c⟩ := by kernel_rfl
theorem bad_13 (c a0 x y : Nat) (p : Pg) : (programL (c + 9) (x + ((okTs (badT.getD 13 [])).length + 1)) (y + (okTs (badT.getD 13 [])).length) p ⟨(okTs (badT.getD 13 [])).map (Tk.mv c), false, a0⟩).2 = ⟨[], true, c + 9⟩ := by kernel_rfl
theorem bad_14 (c a0 x y : Nat) (p : Pg) : (programL (c + 2) (x + ((okTs (badT.getD 14 [])).length + 1)) (y + (okTs (badT.getD 14 [])).length) p ⟨(okTs (badT.getD 14 [])).map (Tk.mv c), false, a0⟩).2 = ⟨[], true, 0 + c⟩ := by cases y <;> kernel_rfl
theorem bad_ok : ∀ k, k < 15 → lexL (badT.getD k []) 0 = Lx.ok (okTs (badT.getD k [])) := fun k hk => by
  have e : k = 0 ∨ k = 1 ∨ k = 2 ∨ k = 3 ∨ k = 4 ∨ k = 5 ∨ k = 6 ∨ k = 7 ∨ k = 8 ∨ k = 9 ∨ k = 10 ∨ k = 11 ∨ k = 12 ∨ k = 13 ∨ k = 14 := by omega
  rcases e with rfl | rfl | rfl | rfl | rfl | rfl | rfl | rfl | rfl | rfl | rfl | rfl | rfl | rfl | rfl <;> rfl
theorem bad_all (k : Nat) (hk : k < 15) (c a0 x y : Nat) (p : Pg) : ∃ σ, (programL (c + (badT.getD k []).length) (x + ((okTs (badT.getD k [])).length + 1)) (y + (okTs (badT.getD k [])).length) p ⟨(okTs (badT.getD k [])).map (Tk.mv c), false, a0⟩).2 = σ ∧ σ.st = true ∧ σ.at_ = c + farL.getD k 0 := by
  have e : k = 0 ∨ k = 1 ∨ k = 2 ∨ k = 3 ∨ k = 4 ∨ k = 5 ∨ k = 6 ∨ k = 7 ∨ k = 8 ∨ k = 9 ∨ k = 10 ∨ k = 11 ∨ k = 12 ∨ k = 13 ∨ k = 14 := by omega
  rcases e with rfl | rfl | rfl | rfl | rfl | rfl | rfl | rfl | rfl | rfl | rfl | rfl | rfl | rfl | rfl
  · exact ⟨_, bad_0 c a0 x y p, rfl, Nat.add_comm _ _⟩
  · exact ⟨_, bad_1 c a0 x y p, rfl, rfl⟩
  · exact ⟨_, bad_2 c a0 x y p, rfl, Nat.add_comm _ _⟩
  · exact ⟨_, bad_3 c a0 x y p, rfl, rfl⟩
  · exact ⟨_, bad_4 c a0 x y p, rfl, rfl⟩
  · exact ⟨_, bad_5 c a0 x y p, rfl, Nat.add_comm _ _⟩
  · exact ⟨_, bad_6 c a0 x y p, rfl, Nat.add_comm _ _⟩
  · exact ⟨_, bad_7 c a0 x y p, rfl, Nat.add_comm _ _⟩
  · exact ⟨_, bad_8 c a0 x y p, rfl, Nat.add_comm _ _⟩
  · exact ⟨_, bad_9 c a0 x y p, rfl, Nat.add_comm _ _⟩
  · exact ⟨_, bad_10 c a0 x y p, rfl, Nat.add_comm _ _⟩
  · exact ⟨_, bad_11 c a0 x y p, rfl, Nat.add_comm _ _⟩
  · exact ⟨_, bad_12 c a0 x y p, rfl, Nat.add_comm _ _⟩
  · exact ⟨_, bad_13 c a0 x y p, rfl, rfl⟩
  · exact ⟨_, bad_14 c a0 x y p, rfl, Nat.add_comm _ _⟩
theorem Tk.mv_zero : ∀ l : List Tk, l.map (Tk.mv 0) = l
  | [] => rfl
  | t :: l => by rw [List.map_cons, Tk.mv_zero l]; rfl
/-- A text that is empty, or ends a line: what stands behind is read as if alone. -/
theorem lex_app {s : By} (hs : s = [] ∨ ∃ A, s = A ++ [10]) (B : By) {ts : List Tk} (h : lexL s 0 = Lx.ok ts) : lexL (s ++ B) 0 = ((lexL B 0).mv s.length).pre ts := by
  rcases hs with rfl | ⟨A, rfl⟩
  · have e : ts = [] := by
      have e1 : lexL [] 0 = Lx.ok [] := rfl
      rw [e1] at h
      exact (Lx.ok_inj h).symm
    subst e
    rw [List.nil_append, Lx.pre_nil]
    rcases Lx.cases (lexL B 0) with ⟨i, hi⟩ | ⟨l, hl⟩
    · rw [hi]; rfl
    · rw [hl]
      show Lx.ok l = Lx.ok (l.map (Tk.mv 0))
      rw [Tk.mv_zero]
  · have h1 := lexL_two A B []
    have h2 := lexL_two A [] []
    have g : gapL [] = [10] := rfl
    rw [g] at h1 h2
    rw [List.append_nil] at h2
    rcases Lx.cases (lexL A 0) with ⟨i, hi⟩ | ⟨l, hl⟩
    · rw [h2.1 i hi] at h
      exact (Lx.bad_ok h).elim
    · have h3 := h2.2 l hl
      rw [h] at h3
      have e1 : lexL [] 0 = Lx.ok [] := rfl
      rw [e1] at h3
      have h4 : ts = l ++ [] := Lx.ok_inj h3
      rw [List.append_nil] at h4
      rw [h1.2 l hl, h4, List.length_append]
theorem places_fact {s : By} (hs : s = [] ∨ ∃ A, s = A ++ [10]) (h0 : (parseL s).e = 0) (k : Nat) (hk : k < 15) : ∃ O, parseL (s ++ badT.getD k []) = O ∧ O.e = 4 ∧ O.at_ = ((s.length + farL.getD k 0 : Nat) : Int) := by
  rcases Lx.cases (lexL s 0) with ⟨i, hi⟩ | ⟨ts, hts⟩
  · exfalso
    unfold parseL at h0
    rw [hi] at h0
    exact absurd h0 (by show ¬ (3 = 0); decide)
  · have hp : (parseTs s.length ts).e = 0 := by
      unfold parseL at h0
      rw [hts] at h0
      exact h0
    have hst : (programF s.length (ts.length + 1) ⟨ts, false, 0⟩).2.st = false := by
      cases hc : (programF s.length (ts.length + 1) ⟨ts, false, 0⟩).2.st with
      | false => rfl
      | true =>
        unfold parseTs at hp
        dsimp only at hp
        rw [if_pos hc] at hp
        exact absurd hp (by show ¬ (4 = 0); decide)
    have hl := lex_app hs (badT.getD k []) hts
    rw [bad_ok k hk] at hl
    obtain ⟨b, hb⟩ : ∃ b, okTs (badT.getD k []) = b := ⟨_, rfl⟩
    have hall := bad_all k hk
    rw [hb] at hl hall
    have hl2 : lexL (s ++ badT.getD k []) 0 = Lx.ok (ts ++ b.map (Tk.mv s.length)) := hl
    have hlen : (s ++ badT.getD k []).length = s.length + (badT.getD k []).length := List.length_append
    have hr : (b.map (Tk.mv s.length)).length = b.length := List.length_map _
    have hx := programL_ext (En := s.length) (En' := s.length + (badT.getD k []).length) (n := ts.length + 1) (m := ts.length + (b.length + 1)) (r := b.map (Tk.mv s.length)) (by rw [hr]; omega) ts.length (ts.length + b.length) ⟨[], []⟩ ⟨ts, false, 0⟩ (fun e => nomatch e) (Nat.lt_succ_self _) (Nat.le_refl _) (by rw [hr]; exact Nat.le_refl _) hst
    obtain ⟨g', hg', hx⟩ := hx
    rw [hr] at hg'
    obtain ⟨y, rfl⟩ : ∃ y, g' = y + b.length := ⟨g' - b.length, by omega⟩
    obtain ⟨σ, hσ, h1, h2⟩ := hall s.length (programL s.length (ts.length + 1) ts.length ⟨[], []⟩ ⟨ts, false, 0⟩).2.at_ ts.length y (programL s.length (ts.length + 1) ts.length ⟨[], []⟩ ⟨ts, false, 0⟩).1
    have hF : programF (s.length + (badT.getD k []).length) (ts.length + (b.length + 1)) ⟨ts ++ b.map (Tk.mv s.length), false, 0⟩ = programL (s.length + (badT.getD k []).length) (ts.length + (b.length + 1)) (ts.length + b.length) ⟨[], []⟩ (PS.plus ⟨ts, false, 0⟩ (b.map (Tk.mv s.length))) := by
      unfold programF
      rw [List.length_append, hr]
      rfl
    have hst2 : (programF (s.length + (badT.getD k []).length) (ts.length + (b.length + 1)) ⟨ts ++ b.map (Tk.mv s.length), false, 0⟩).2 = σ := by rw [hF, hx]; exact hσ
    refine ⟨⟨⟨[], []⟩, 4, ((s.length + farL.getD k 0 : Nat) : Int)⟩, ?_, rfl, rfl⟩
    have e1 : parseL (s ++ badT.getD k []) = parseTs (s.length + (badT.getD k []).length) (ts ++ b.map (Tk.mv s.length)) := by
      unfold parseL
      rw [hl2, hlen]
      rfl
    rw [e1]
    unfold parseTs
    dsimp only
    rw [show (ts ++ b.map (Tk.mv s.length)).length + 1 = ts.length + (b.length + 1) by rw [List.length_append, hr]; omega, hst2, if_pos h1, h2]

end Go.Proofs.Yteiailpmieihnaa

namespace Go.Proofs.Yteiailpmieihnaa
open Go.RowKit Go.Maps
set_option linter.unusedVariables false
set_option linter.unusedSimpArgs false

set_option maxHeartbeats 2000000 in
theorem z_lexLong (s : ByteArray) (w : World) (hs : 65536 < s.size) : Calls Try.prog 20 #[.string s] w fun e w' => e = .returned (.tuple #[.slice none 0 0, .int .i64 1, .int .i64 0]) ∧ Below w.heap.size w w' := by
  have hl : decide ((65536 : Int) < (s.size : Int)) = true := decide_eq_true (by omega)
  have hl2 : (65536 : Int) < (s.size : Int) := by omega
  go_enter Try.func20, Try.ntmps20
  go_wp2_with fail
  exact bodyPost_ret (v := .tuple #[.slice none 0 0, .int .i64 1, .int .i64 0]) (by simp only [results, Try.results20]; go_simp) rfl ⟨rfl, Below.refl _ _⟩
set_option maxRecDepth 100000 in
set_option maxHeartbeats 4000000 in
theorem z_ParseLong (s : ByteArray) (w : World) (hs : 65536 < s.size) : Calls Try.prog 11 #[.string s] w fun e w' => ∃ v, e = .returned (.tuple #[v, .int .i64 1, .int .i64 0]) ∧ IsV (New w) w' (pgC ⟨[], []⟩) v ∧ Below w.heap.size w w' := by
  go_enter Try.func11, Try.ntmps11
  go_wp2_with (go_at_call 20; refine (z_lexLong s _ hs).mono ?_; rintro e w2 ⟨rfl, hb2⟩; have bx := (Box.new w 28 [.slice none 0 0, .slice none 0 0]).below hb2; obtain ⟨_, _, _, _⟩ := two_cells bx; have hlt := bx.lt; have HB2 := Lib.hid hb2; clear hb2 bx)
  refine bodyPost_ret (v := .tuple #[.agg #[.slice none 0 0, .slice none 0 0], .int .i64 1, .int .i64 0]) (by simp only [results, Try.results11]; go_simp <;> rfl) rfl ?_
  refine ⟨_, rfl, IsV.no_pg _ _, ?_⟩
  have h2 : Below w.heap.size w w2 := ((Below.refl _ w).alloc (Nat.le_refl _) _).trans (HB2.out.mono (by simp))
  exact (h2.setCell (p := ⟨w.heap.size, 0, none⟩) (Nat.le_refl _) _).setCell (p := ⟨w.heap.size, 1, none⟩) (Nat.le_refl _) _

end Go.Proofs.Yteiailpmieihnaa
