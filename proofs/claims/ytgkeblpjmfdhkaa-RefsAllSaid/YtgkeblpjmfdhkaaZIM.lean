/- How deep and how many what is read can be: bounded by the tokens. No program. Package parse's Parse: its contract. The texts of the law ParseDeep, and what they are read as: reckoned out, one by one. No program. The laws of parse: awake; loads of what Parse tells; ParseDeep. -/
import Derived.Test.YtgkeblpjmfdhkaaZBM
import Derived.Test.YtgkeblpjmfdhkaaZHM
import Derived.Test.YtgkeblpjmfdhkaaZGM
namespace Go.Proofs.Ytgkeblpjmfdhkaa
set_option linter.unusedVariables false
set_option linter.unusedSectionVars false
set_option linter.unusedSimpArgs false

/-- What is read is no deeper than twice the tokens that were taken, and c. -/
def Dp {A : Type} (dp : A → Nat) (c : Nat) (X : PS → A × PS) : Prop := ∀ σ, dp (X σ).1 + 2 * (X σ).2.ts.length ≤ 2 * σ.ts.length + c
theorem rowsL_dp {A : Type} {dp : A → Nat} {c : Nat} {sep : Srt} {most : Nat} {one : PS → A × PS} (h : Dec one) (hd : Dp dp c one) : ∀ (f : Nat) (l : List A) (σ : PS) (N : Nat), 2 * σ.ts.length + c ≤ N → (∀ x ∈ l, dp x + 2 * σ.ts.length ≤ N) → ∀ x ∈ (rowsL sep most one f l σ).1, dp x + 2 * (rowsL sep most one f l σ).2.ts.length ≤ N
  | 0, l, σ, N, hN, hl => hl
  | f + 1, l, σ, N, hN, hl => by
    unfold rowsL
    have h1 := h σ.tail
    have h2 := hd σ.tail
    rw [tail_len] at h1 h2
    split
    · refine rowsL_dp h hd f _ _ N (by omega) (fun x hx => ?_)
      rcases List.mem_append.1 hx with h3 | h3
      · have := hl x h3; omega
      · obtain rfl := List.mem_singleton.1 h3; omega
    · exact hl
theorem rowsF_dp {A : Type} {dp : A → Nat} {c : Nat} {sep : Srt} {most : Nat} {one : PS → A × PS} (h : Dec one) (hd : Dp dp c one) (σ : PS) : ∀ x ∈ (rowsF sep most one σ).1, dp x + 2 * (rowsF sep most one σ).2.ts.length ≤ 2 * σ.ts.length + c := by
  unfold rowsF
  have h1 := h σ
  have h2 := hd σ
  refine rowsL_dp h hd _ _ _ _ (by omega) (fun x hx => ?_)
  obtain rfl := List.mem_singleton.1 hx; exact h2
theorem rowsL_count {A : Type} {sep : Srt} {most : Nat} {one : PS → A × PS} (h : Dec one) (hs : sep.k ≠ 0) : ∀ (f : Nat) (l : List A) (σ : PS), (rowsL sep most one f l σ).1.length + (rowsL sep most one f l σ).2.ts.length ≤ l.length + σ.ts.length
  | 0, l, σ => Nat.le_refl _
  | f + 1, l, σ => by
    unfold rowsL
    have h1 := h σ.tail
    rw [tail_len] at h1
    split
    · rename_i h3
      have h4 := sees_pos h3.2 hs
      have h2 := rowsL_count (sep := sep) (most := most) h hs f (l ++ [(one σ.tail).1]) (one σ.tail).2
      rw [List.length_append, List.length_singleton] at h2; omega
    · exact Nat.le_refl _
theorem rowsF_count {A : Type} {sep : Srt} {most : Nat} {one : PS → A × PS} (h : Dec one) (hs : sep.k ≠ 0) (σ : PS) : (rowsF sep most one σ).1.length + (rowsF sep most one σ).2.ts.length ≤ 1 + σ.ts.length := by
  have h1 := rowsL_count (sep := sep) (most := most) h hs (one σ).2.ts.length [(one σ).1] (one σ).2
  have h2 := h σ
  rw [List.length_singleton] at h1
  unfold rowsF; omega
theorem namesL_sum : ∀ l : List Tk, (namesL l).1.length + (namesL l).2.length = l.length
  | [] => by simp [namesL]
  | t :: r => by
    unfold namesL; split
    · have := namesL_sum r; simp; omega
    · simp
theorem names_sum (σ : PS) : σ.names.1.length + σ.names.2.ts.length = σ.ts.length := namesL_sum σ.ts

theorem Ty.deeps_le : ∀ (l : List Ty) (N : Nat), (∀ x ∈ l, x.deep ≤ N) → Ty.deeps l ≤ N
  | [], N, _ => by simp [Ty.deeps]
  | x :: r, N, h => by
    unfold Ty.deeps
    exact Nat.max_le.2 ⟨h x (by simp), Ty.deeps_le r N fun y hy => h y (by simp [hy])⟩
theorem varTy_deep (vs : List By) (s : By) : (varTy vs s).deep = 1 := by
  unfold varTy; split <;> simp [Ty.deep, Ty.deeps]
theorem tupTy_deep (l : List Ty) (N : Nat) (h : ∀ x ∈ l, x.deep ≤ N) : (tupTy l).deep ≤ N + 1 := by
  have := Ty.deeps_le l N h
  unfold tupTy; split
  · have := h _ (List.mem_singleton.2 rfl); omega
  · simp [Ty.deep]; omega
section
variable {En : Nat} {vs : List By} {T : PS → Ty × PS} (h : Dec T) (hd : Dp Ty.deep 2 T)
include h hd
theorem tupleTypeF_dp {σ : PS} (hs : σ.sees (sS tLpar) = true) : (tupleTypeF En T σ).1.deep + 2 * (tupleTypeF En T σ).2.ts.length ≤ 2 * σ.ts.length + 1 := by
  unfold tupleTypeF bracketF
  dsimp only
  have h1 := take_lt (En := En) hs (by decide)
  have h2 := rowsF_dp (sep := sS tComma) (most := maxTup) h hd (σ.take En (sS tLpar)).2
  have h3 := rowsF_len (sep := sS tComma) (most := maxTup) h (σ.take En (sS tLpar)).2
  generalize rowsF (sS tComma) maxTup T (σ.take En (sS tLpar)).2 = r at h2 h3 ⊢
  have h4 := take_len En r.2 (sS tRpar)
  have h5 := tupTy_deep r.1 (2 * (σ.take En (sS tLpar)).2.ts.length + 2 - 2 * r.2.ts.length) (fun x hx => by have := h2 x hx; omega)
  omega
theorem atomTypeF_dp : Dp Ty.deep 1 (atomTypeF En vs T) := fun σ => by
  unfold atomTypeF
  split
  · have := take_len En σ sName
    show (varTy vs _).deep + 2 * (σ.take En sName).2.ts.length ≤ _
    rw [varTy_deep]; omega
  · split
    · have := take_len En σ sCon
      simp only [Ty.deep, Ty.deeps]; omega
    · split
      · rename_i h1; exact tupleTypeF_dp h hd h1
      · have := stop_len En σ
        simp only [Ty.zero, Ty.deep, Ty.deeps]; omega
theorem atomTypesL_dp : ∀ (f : Nat) (l : List Ty) (σ : PS) (N : Nat), 2 * σ.ts.length + 1 ≤ N → (∀ x ∈ l, x.deep + 2 * σ.ts.length ≤ N) → ∀ x ∈ (atomTypesL En vs T f l σ).1, x.deep + 2 * (atomTypesL En vs T f l σ).2.ts.length ≤ N
  | 0, l, σ, N, hN, hl => hl
  | f + 1, l, σ, N, hN, hl => by
    unfold atomTypesL
    have h1 := atomTypeF_len (En := En) (vs := vs) h σ
    have h2 := atomTypeF_dp (En := En) (vs := vs) h hd σ
    split
    · refine atomTypesL_dp f _ _ N (by omega) (fun x hx => ?_)
      rcases List.mem_append.1 hx with h3 | h3
      · have := hl x h3; omega
      · obtain rfl := List.mem_singleton.1 h3; omega
    · exact hl
theorem atomTypesF_dp (σ : PS) : ∀ x ∈ (atomTypesF En vs T σ).1, x.deep + 2 * (atomTypesF En vs T σ).2.ts.length ≤ 2 * σ.ts.length + 1 :=
  atomTypesL_dp h hd _ _ _ _ (Nat.le_refl _) (fun x hx => by simp at hx)
theorem leftTypeF_dp : Dp Ty.deep 1 (leftTypeF En vs T) := fun σ => by
  unfold leftTypeF
  split
  · rename_i h1
    have h2 := take_lt (En := En) h1 (by decide)
    have h3 := atomTypesF_dp (En := En) (vs := vs) h hd (σ.take En sCon).2
    have h4 : (atomTypesF En vs T (σ.take En sCon).2).2.ts.length ≤ (σ.take En sCon).2.ts.length := atomTypesL_len h _ _ _
    have h5 := Ty.deeps_le (atomTypesF En vs T (σ.take En sCon).2).1 (2 * (σ.take En sCon).2.ts.length + 1 - 2 * (atomTypesF En vs T (σ.take En sCon).2).2.ts.length) (fun x hx => by have := h3 x hx; omega)
    simp only [Ty.deep]; omega
  · exact atomTypeF_dp h hd σ
theorem typStep_dp : Dp Ty.deep 2 (typStep En vs T) := fun σ => by
  unfold typStep
  have h1 := leftTypeF_dp (En := En) (vs := vs) h hd σ
  have h2 := leftTypeF_len (En := En) (vs := vs) h σ
  split
  · rename_i hs
    have h3 := sees_pos hs (by decide)
    have h4 := h (leftTypeF En vs T σ).2.tail
    have h5 := hd (leftTypeF En vs T σ).2.tail
    rw [tail_len] at h4 h5
    simp only [Ty.deep, Ty.deeps]; omega
  · omega
end
theorem typF_dp (En : Nat) (vs : List By) : ∀ n, Dp Ty.deep 2 (typF En vs n)
  | 0 => fun σ => by show Ty.zero.deep + 2 * σ.ts.length ≤ _; simp [Ty.zero, Ty.deep, Ty.deeps]; omega
  | n + 1 => typStep_dp (typF_len En vs n) (typF_dp En vs n)

theorem Ex.deeps_le : ∀ (l : List Ex) (N : Nat), (∀ x ∈ l, x.deep ≤ N) → Ex.deeps l ≤ N
  | [], N, _ => by simp [Ex.deeps]
  | x :: r, N, h => by
    unfold Ex.deeps
    exact Nat.max_le.2 ⟨h x (by simp), Ex.deeps_le r N fun y hy => h y (by simp [hy])⟩
theorem Al.deeps_le : ∀ (l : List Al) (N : Nat), (∀ x ∈ l, x.deep ≤ N) → Al.deeps l ≤ N
  | [], N, _ => by simp [Al.deeps]
  | x :: r, N, h => by
    unfold Al.deeps
    exact Nat.max_le.2 ⟨h x (by simp), Al.deeps_le r N fun y hy => h y (by simp [hy])⟩
theorem lams_deep (p : Int) (b : Ex) : ∀ names : List By, (lams p names b).deep = names.length + b.deep
  | [] => by simp [lams]
  | s :: r => by
    show (Ex.mk 6 p s 0 [lams p r b] []).deep = _
    simp only [Ex.deep, Ex.deeps, Al.deeps, lams_deep p b r, List.length_cons]; omega
theorem leafE_deep (k : Nat) (t : Tk) : (leafE k t).deep = 1 := by
  unfold leafE; split <;> simp [Ex.deep, Ex.deeps, Al.deeps]
theorem tupEx_deep (p : Int) (l : List Ex) (N : Nat) (h : ∀ x ∈ l, x.deep ≤ N) : (tupEx p l).deep ≤ N + 1 := by
  have := Ex.deeps_le l N h
  unfold tupEx; split
  · have := h _ (List.mem_singleton.2 rfl); omega
  · simp [Ex.deep, Al.deeps]; omega
section
variable {En : Nat} {X : PS → Ex × PS} (h : Dec X) (hd : Dp Ex.deep 2 X)
include h hd
theorem lamF_dp {σ : PS} (hs : σ.sees (sS tBack) = true) : (lamF En X σ).1.deep + 2 * (lamF En X σ).2.ts.length ≤ 2 * σ.ts.length + 2 := by
  unfold lamF
  dsimp only
  have h1 := take_lt (En := En) hs (by decide)
  have h2 := take_len En (σ.take En (sS tBack)).2 sName
  have h3 := names_sum ((σ.take En (sS tBack)).2.take En sName).2
  have h4 := take_len En ((σ.take En (sS tBack)).2.take En sName).2.names.2 (sS tArrow)
  generalize ((σ.take En (sS tBack)).2.take En sName).2.names = m at h3 h4 ⊢
  have h5 := hd (m.2.take En (sS tArrow)).2
  rw [lams_deep, List.length_cons]; omega
theorem bindF_dp (σ : PS) : (bindF En X σ).1.body.deep + 2 * (bindF En X σ).2.ts.length ≤ 2 * σ.ts.length + 2 := by
  unfold bindF
  dsimp only
  have h2 := take_len En σ sName
  have h3 := names_sum (σ.take En sName).2
  have h4 := take_len En (σ.take En sName).2.names.2 (sS tEq)
  generalize (σ.take En sName).2.names = m at h3 h4 ⊢
  have h5 := hd (m.2.take En (sS tEq)).2
  rw [lams_deep]; omega
theorem letF_dp {σ : PS} (hs : σ.sees (sW tLet) = true) : (letF En X σ).1.deep + 2 * (letF En X σ).2.ts.length ≤ 2 * σ.ts.length + 2 := by
  unfold letF
  dsimp only
  have h1 := take_lt (En := En) hs (by decide)
  have h2 := bindF_dp (En := En) h hd (σ.take En (sW tLet)).2
  have h6 := bindF_len (En := En) h (σ.take En (sW tLet)).2
  generalize bindF En X (σ.take En (sW tLet)).2 = b at h2 h6 ⊢
  have h3 := take_len En b.2 (sW tIn)
  have h4 := hd (b.2.take En (sW tIn)).2
  have h5 := h (b.2.take En (sW tIn)).2
  simp only [Ex.deep, Ex.deeps, Al.deeps]; omega
theorem choiceF_dp {σ : PS} (hs : σ.sees (sW tIf) = true) : (choiceF En X σ).1.deep + 2 * (choiceF En X σ).2.ts.length ≤ 2 * σ.ts.length + 2 := by
  unfold choiceF
  dsimp only
  have h1 := take_lt (En := En) hs (by decide)
  have h2 := hd (σ.take En (sW tIf)).2
  have h3 := h (σ.take En (sW tIf)).2
  generalize X (σ.take En (sW tIf)).2 = x at h2 h3 ⊢
  have h4 := take_len En x.2 (sW tThen)
  have h5 := hd (x.2.take En (sW tThen)).2
  have h6 := h (x.2.take En (sW tThen)).2
  generalize X (x.2.take En (sW tThen)).2 = y at h5 h6 ⊢
  have h7 := take_len En y.2 (sW tElse)
  have h8 := hd (y.2.take En (sW tElse)).2
  have h9 := h (y.2.take En (sW tElse)).2
  simp only [Ex.deep, Ex.deeps, Al.deeps]; omega
theorem altF_dp : Dp Al.deep 2 (altF En X) := fun σ => by
  unfold altF
  dsimp only
  have h2 := take_len En σ sCon
  have h3 := names_len (σ.take En sCon).2
  have h4 := take_len En (σ.take En sCon).2.names.2 (sS tArrow)
  have h5 := hd ((σ.take En sCon).2.names.2.take En (sS tArrow)).2
  simp only [Al.deep]; omega
theorem casesF_dp {σ : PS} (hs : σ.sees (sW tCase) = true) : (casesF En X σ).1.deep + 2 * (casesF En X σ).2.ts.length ≤ 2 * σ.ts.length + 2 := by
  unfold casesF
  dsimp only
  have h1 := take_lt (En := En) hs (by decide)
  have h2 := hd (σ.take En (sW tCase)).2
  have h3 := h (σ.take En (sW tCase)).2
  generalize X (σ.take En (sW tCase)).2 = x at h2 h3 ⊢
  have h4 := take_len En x.2 (sW tOf)
  have h5 := take_len En (x.2.take En (sW tOf)).2 (sS tLcur)
  have h6 := rowsF_dp (sep := sS tSemi) (most := many) (altF_len (En := En) h) (altF_dp (En := En) h hd) ((x.2.take En (sW tOf)).2.take En (sS tLcur)).2
  have h7 := rowsF_len (sep := sS tSemi) (most := many) (altF_len (En := En) h) ((x.2.take En (sW tOf)).2.take En (sS tLcur)).2
  generalize rowsF (sS tSemi) many (altF En X) ((x.2.take En (sW tOf)).2.take En (sS tLcur)).2 = r at h6 h7 ⊢
  have h8 := take_len En r.2 (sS tRcur)
  have h9 := Al.deeps_le r.1 (2 * ((x.2.take En (sW tOf)).2.take En (sS tLcur)).2.ts.length + 2 - 2 * r.2.ts.length) (fun y hy => by have := h6 y hy; omega)
  simp only [Ex.deep, Ex.deeps]; omega
theorem tupleF_dp {σ : PS} (hs : σ.sees (sS tLpar) = true) : (tupleF En X σ).1.deep + 2 * (tupleF En X σ).2.ts.length ≤ 2 * σ.ts.length + 1 := by
  unfold tupleF bracketF
  dsimp only
  have h1 := take_lt (En := En) hs (by decide)
  have h2 := rowsF_dp (sep := sS tComma) (most := maxTup) h hd (σ.take En (sS tLpar)).2
  have h3 := rowsF_len (sep := sS tComma) (most := maxTup) h (σ.take En (sS tLpar)).2
  generalize rowsF (sS tComma) maxTup X (σ.take En (sS tLpar)).2 = r at h2 h3 ⊢
  have h4 := take_len En r.2 (sS tRpar)
  have h5 := tupEx_deep (σ.take En (sS tLpar)).1.p r.1 (2 * (σ.take En (sS tLpar)).2.ts.length + 2 - 2 * r.2.ts.length) (fun x hx => by have := h2 x hx; omega)
  omega
theorem atomF_dp : Dp Ex.deep 1 (atomF En X) := fun σ => by
  unfold atomF
  split
  · have := tail_len σ
    show (leafE (beg σ.next) σ.head).deep + 2 * σ.tail.ts.length ≤ _
    rw [leafE_deep]; omega
  · split
    · rename_i h1 h2; exact tupleF_dp h hd (sees_of ((beg_sees h2).2.2.1 rfl))
    · have := stop_len En σ
      simp only [Ex.zero, Ex.deep, Ex.deeps, Al.deeps]; omega
theorem appL_dp : ∀ (f : Nat) (e : Ex) (σ : PS) (N : Nat), 2 * σ.ts.length + 1 ≤ N → e.deep + 2 * σ.ts.length ≤ N + 1 → (appL En X f e σ).1.deep + 2 * (appL En X f e σ).2.ts.length ≤ N + 1
  | 0, e, σ, N, hN, hl => hl
  | f + 1, e, σ, N, hN, hl => by
    unfold appL
    split
    · rename_i hs
      have h1 := atomF_lt (En := En) h hs
      have h2 := atomF_dp (En := En) h hd σ
      refine appL_dp f _ _ N (by omega) ?_
      simp only [Ex.deep, Ex.deeps, Al.deeps]; omega
    · exact hl
theorem appF_dp : Dp Ex.deep 2 (appF En X) := fun σ => by
  have h1 := atomF_len (En := En) h σ
  have h2 := atomF_dp (En := En) h hd σ
  exact appL_dp h hd _ _ _ _ (by omega) (by omega)
theorem exprStep_dp : Dp Ex.deep 2 (exprStep En X) := fun σ => by
  unfold exprStep
  split
  · rename_i h1; exact lamF_dp h hd (sees_of ((beg_sees h1).1 rfl))
  · split
    · rename_i h1; exact letF_dp h hd (sees_of ((beg_sees h1).2.1 rfl))
    · split
      · rename_i h1; exact choiceF_dp h hd (sees_of ((beg_sees h1).2.2.2.1 rfl))
      · split
        · rename_i h1; exact casesF_dp h hd (sees_of ((beg_sees h1).2.2.2.2 rfl))
        · exact appF_dp h hd σ
end
theorem exprF_dp (En : Nat) : ∀ n, Dp Ex.deep 2 (exprF En n)
  | 0 => fun σ => by show Ex.zero.deep + 2 * σ.ts.length ≤ _; simp [Ex.zero, Ex.deep, Ex.deeps, Al.deeps]; omega
  | n + 1 => exprStep_dp (exprF_len En n) (exprF_dp En n)

theorem dataF_ok (En n : Nat) {σ : PS} (hs : σ.sees (sW tData) = true) : (∀ c ∈ (dataF En n σ).1.cons, ∀ t ∈ c.args, t.deep ≤ 2 * σ.ts.length + 2) ∧ (dataF En n σ).1.cons.length + (dataF En n σ).2.ts.length ≤ σ.ts.length ∧ (dataF En n σ).2.ts.length ≤ σ.ts.length := by
  unfold dataF
  dsimp only
  have h1 := take_lt (En := En) hs (by decide)
  have h2 := take_len En (σ.take En (sW tData)).2 sCon
  have h3 := names_len ((σ.take En (sW tData)).2.take En sCon).2
  have h4 := take_len En ((σ.take En (sW tData)).2.take En sCon).2.names.2 (sS tEq)
  generalize ((σ.take En (sW tData)).2.take En sCon).2.names = m at h3 h4 ⊢
  have hc : Dec (conF En m.1 n) := conF_len En m.1 n
  have h5 := rowsF_count (sep := sS tBar) (most := many) hc (by decide) (m.2.take En (sS tEq)).2
  have h6 : ∀ c ∈ (rowsF (sS tBar) many (conF En m.1 n) (m.2.take En (sS tEq)).2).1, Ty.deeps c.args + 2 * (rowsF (sS tBar) many (conF En m.1 n) (m.2.take En (sS tEq)).2).2.ts.length ≤ 2 * (m.2.take En (sS tEq)).2.ts.length + 1 :=
    rowsF_dp (dp := fun c : Cn => Ty.deeps c.args) hc (fun τ => by
      unfold conF
      dsimp only
      have g1 := take_len En τ sCon
      have g2 := atomTypesF_dp (En := En) (vs := m.1) (typF_len En m.1 n) (typF_dp En m.1 n) (τ.take En sCon).2
      have g3 : (atomTypesF En m.1 (typF En m.1 n) (τ.take En sCon).2).2.ts.length ≤ (τ.take En sCon).2.ts.length := atomTypesL_len (typF_len En m.1 n) _ _ _
      have g4 := Ty.deeps_le (atomTypesF En m.1 (typF En m.1 n) (τ.take En sCon).2).1 (2 * (τ.take En sCon).2.ts.length + 1 - 2 * (atomTypesF En m.1 (typF En m.1 n) (τ.take En sCon).2).2.ts.length) (fun x hx => by have := g2 x hx; omega)
      omega) _
  generalize rowsF (sS tBar) many (conF En m.1 n) (m.2.take En (sS tEq)).2 = r at h5 h6 ⊢
  have h7 := take_len En r.2 (sS tSemi)
  refine ⟨fun c hc t ht => ?_, by omega, by omega⟩
  have h8 := h6 c hc
  have h9 : ∀ (l : List Ty), t ∈ l → t.deep ≤ Ty.deeps l := fun l => by
    induction l with
    | nil => intro q; simp at q
    | cons y r ih =>
      intro q
      unfold Ty.deeps
      rcases List.mem_cons.1 q with rfl | q
      · omega
      · have := ih q; omega
  have := h9 _ ht; omega
theorem topF_ok (En n : Nat) (σ : PS) : (topF En n σ).1.body.deep ≤ 2 * σ.ts.length + 2 ∧ (topF En n σ).2.ts.length ≤ σ.ts.length := by
  unfold topF
  dsimp only
  have h1 := take_len En σ (sW tLet)
  have h2 := bindF_dp (En := En) (exprF_len En n) (exprF_dp En n) (σ.take En (sW tLet)).2
  have h3 := bindF_len (En := En) (exprF_len En n) (σ.take En (sW tLet)).2
  generalize bindF En (exprF En n) (σ.take En (sW tLet)).2 = b at h2 h3 ⊢
  have h4 := take_len En b.2 (sS tSemi)
  omega
theorem programL_ok (En n N C M : Nat) : ∀ (f : Nat) (p : Pg) (σ : PS), 2 * σ.ts.length + 2 ≤ N → (∀ d ∈ p.datas, ∀ c ∈ d.cons, ∀ t ∈ c.args, t.deep ≤ N) → (∀ b ∈ p.binds, b.body.deep ≤ N) → (p.datas.flatMap Dt.cons).length + σ.ts.length ≤ C → p.binds.length + f ≤ M →
    (∀ d ∈ (programL En n f p σ).1.datas, ∀ c ∈ d.cons, ∀ t ∈ c.args, t.deep ≤ N) ∧ (∀ b ∈ (programL En n f p σ).1.binds, b.body.deep ≤ N) ∧ ((programL En n f p σ).1.datas.flatMap Dt.cons).length ≤ C ∧ (programL En n f p σ).1.binds.length ≤ M
  | 0, p, σ, hN, h1, h2, h3, h4 => ⟨h1, h2, by show (p.datas.flatMap Dt.cons).length ≤ C; omega, by show p.binds.length ≤ M; omega⟩
  | f + 1, p, σ, hN, h1, h2, h3, h4 => by
    unfold programL
    split
    · exact ⟨h1, h2, by show (p.datas.flatMap Dt.cons).length ≤ C; omega, by show p.binds.length ≤ M; omega⟩
    · split
      · rename_i hs
        obtain ⟨q1, q2, q3⟩ := dataF_ok En n hs
        refine programL_ok En n N C M f _ _ (by omega) (fun d hd => ?_) h2 ?_ (by show p.binds.length + f ≤ M; omega)
        · rcases List.mem_append.1 hd with h5 | h5
          · exact h1 d h5
          · obtain rfl := List.mem_singleton.1 h5
            intro c hc t ht
            have := q1 c hc t ht; omega
        · show ((p.datas ++ [(dataF En n σ).1]).flatMap Dt.cons).length + _ ≤ C
          rw [List.flatMap_append, List.length_append]
          simp only [List.flatMap_cons, List.flatMap_nil, List.append_nil]
          omega
      · obtain ⟨q1, q2⟩ := topF_ok En n σ
        refine programL_ok En n N C M f _ _ (by omega) h1 (fun b hb => ?_) (by show (p.datas.flatMap Dt.cons).length + _ ≤ C; omega) (by show (p.binds ++ [(topF En n σ).1]).length + f ≤ M; rw [List.length_append, List.length_singleton]; omega)
        rcases List.mem_append.1 hb with h5 | h5
        · exact h2 b h5
        · obtain rfl := List.mem_singleton.1 h5; omega
/-- What a program of so many tokens can be. -/
theorem programF_ok (En n : Nat) (σ : PS) : (∀ d ∈ (programF En n σ).1.datas, ∀ c ∈ d.cons, ∀ t ∈ c.args, t.deep ≤ 2 * σ.ts.length + 2) ∧ (∀ b ∈ (programF En n σ).1.binds, b.body.deep ≤ 2 * σ.ts.length + 2) ∧ ((programF En n σ).1.datas.flatMap Dt.cons).length ≤ σ.ts.length ∧ (programF En n σ).1.binds.length ≤ σ.ts.length :=
  programL_ok En n _ _ _ σ.ts.length ⟨[], []⟩ σ (Nat.le_refl _) (fun d hd => by simp at hd) (fun d hd => by simp at hd) (by simp) (by simp)

end Go.Proofs.Ytgkeblpjmfdhkaa

namespace Go.Proofs.Ytgkeblpjmfdhkaa
open Go.RowKit Go.Maps
set_option linter.unusedVariables false
set_option linter.unusedSimpArgs false

theorem IsV.set {S : Nat → Prop} {w : World} {v : Value} {cs : List Cl} (h : IsV S w cs v) {p : Addr} (hp : p.block < w.heap.size → ¬ S p.block) (x : Value) : IsV S (w.setCell p x) cs v := by
  obtain ⟨us, rfl, h⟩ := h; exact ⟨us, rfl, h.set hp x⟩
theorem IsV.no_pg (S : Nat → Prop) (w : World) : IsV S w (pgC ⟨[], []⟩) (.agg #[.slice none 0 0, .slice none 0 0]) := IsV.of_pg (.e _ _ _) (.e _ _ _)
end Go.Proofs.Ytgkeblpjmfdhkaa

namespace Go.Proofs.Ytgkeblpjmfdhkaa
set_option linter.unusedVariables false
set_option linter.unusedSimpArgs false

end Go.Proofs.Ytgkeblpjmfdhkaa

namespace Go.Proofs.Ytgkeblpjmfdhkaa
open Go.RowKit Go.Maps
set_option linter.unusedVariables false
set_option linter.unusedSimpArgs false

theorem IsV.pg3 {S : Nat → Prop} {w : World} {v : Value} {p : Pg} (h : IsV S w (pgC p) v) : ∃ (a a' : Option Addr) (cp cp' : Nat), v = .agg #[.slice a p.datas.length cp, .slice a' p.binds.length cp'] ∧ p.datas.length ≤ cp ∧ p.binds.length ≤ cp' ∧ InC S w (.s p.datas.length 4 (p.datas.flatMap dtC)) (.slice a p.datas.length cp) ∧ InC S w (.s p.binds.length 8 (p.binds.flatMap bdC)) (.slice a' p.binds.length cp') := by
  obtain ⟨us, rfl, h⟩ := h
  unfold pgC at h
  obtain ⟨u0, r0, rfl, l0⟩ := three_cons (n := 1) h.1
  obtain ⟨u1, r1, rfl, l1⟩ := three_cons (n := 0) l0
  obtain rfl := List.eq_nil_of_length_eq_zero l1
  obtain ⟨a, cp, rfl, h1, _⟩ := h.head.slice
  obtain ⟨a', cp', rfl, h2, _⟩ := h.tail.head.slice
  exact ⟨a, a', cp, cp', rfl, h1, h2, h.head, h.tail.head⟩
end Go.Proofs.Ytgkeblpjmfdhkaa
