/- How deep and how many what is read can be: bounded by the tokens. No program. Package parse's Parse: its contract. The texts of the law ParseDeep, and what they are read as: reckoned out, one by one. No program. The laws of parse: awake; loads of what Parse tells; ParseDeep. -/
import Derived.Test.YtccilgemfkdmkaaZB
import Derived.Test.YtccilgemfkdmkaaZH
import Derived.Test.YtccilgemfkdmkaaZG
namespace Go.Proofs.Ytccilgemfkdmkaa
set_option linter.unusedVariables false
set_option linter.unusedSectionVars false
set_option linter.unusedSimpArgs false

/-- What is read is no deeper than twice the tokens that were taken, and c. -/
def Dp {A : Type} (dp : A → Nat) (c : Nat) (X : PS → A × PS) : Prop := ∀ σ, dp (X σ).1 + 2 * (X σ).2.ts.length ≤ 2 * σ.ts.length + c
theorem rowsL_dp {A : Type} {dp : A → Nat} {c : Nat} {sep : Srt} {most : Nat} {one : PS → A × PS} (h : Dec one) (hd : Dp dp c one) : ∀ (f : Nat) (l : List A) (σ : PS) (N : Nat), 2 * σ.ts.length + c ≤ N → (∀ x ∈ l, dp x + 2 * σ.ts.length ≤ N) → ∀ x ∈ (rowsL sep most one f l σ).1, dp x + 2 * (rowsL sep most one f l σ).2.ts.length ≤ N
  | 0, l, σ, N, hN, hl => hl
  | f + 1, l, σ, N, hN, hl => by
    unfold rowsL
    have h1 := h σ.tail
    have h2 := hd σ.tail
    rw [tail_len] at h1 h2
    split
    · refine rowsL_dp h hd f _ _ N (by omega) (fun x hx => ?_)
      rcases List.mem_append.1 hx with h3 | h3
      · have := hl x h3; omega
      · obtain rfl := List.mem_singleton.1 h3; omega
    · exact hl
theorem rowsF_dp {A : Type} {dp : A → Nat} {c : Nat} {sep : Srt} {most : Nat} {one : PS → A × PS} (h : Dec one) (hd : Dp dp c one) (σ : PS) : ∀ x ∈ (rowsF sep most one σ).1, dp x + 2 * (rowsF sep most one σ).2.ts.length ≤ 2 * σ.ts.length + c := by
  unfold rowsF
  have h1 := h σ
  have h2 := hd σ
  refine rowsL_dp h hd _ _ _ _ (by omega) (fun x hx => ?_)
  obtain rfl := List.mem_singleton.1 hx; exact h2
theorem rowsL_count {A : Type} {sep : Srt} {most : Nat} {one : PS → A × PS} (h : Dec one) (hs : sep.k ≠ 0) : ∀ (f : Nat) (l : List A) (σ : PS), (rowsL sep most one f l σ).1.length + (rowsL sep most one f l σ).2.ts.length ≤ l.length + σ.ts.length
  | 0, l, σ => Nat.le_refl _
  | f + 1, l, σ => by
    unfold rowsL
    have h1 := h σ.tail
    rw [tail_len] at h1
    split
    · rename_i h3
      have h4 := sees_pos h3.2 hs
      have h2 := rowsL_count (sep := sep) (most := most) h hs f (l ++ [(one σ.tail).1]) (one σ.tail).2
      rw [List.length_append, List.length_singleton] at h2; omega
    · exact Nat.le_refl _
theorem rowsF_count {A : Type} {sep : Srt} {most : Nat} {one : PS → A × PS} (h : Dec one) (hs : sep.k ≠ 0) (σ : PS) : (rowsF sep most one σ).1.length + (rowsF sep most one σ).2.ts.length ≤ 1 + σ.ts.length := by
  have h1 := rowsL_count (sep := sep) (most := most) h hs (one σ).2.ts.length [(one σ).1] (one σ).2
  have h2 := h σ
  rw [List.length_singleton] at h1
  unfold rowsF; omega
theorem namesL_sum : ∀ l : List Tk, (namesL l).1.length + (namesL l).2.length = l.length
  | [] => by simp [namesL]
  | t :: r => by
    unfold namesL; split
    · have := namesL_sum r; simp; omega
    · simp
theorem names_sum (σ : PS) : σ.names.1.length + σ.names.2.ts.length = σ.ts.length := namesL_sum σ.ts

/-! ### Types -/
theorem Ty.deeps_le : ∀ (l : List Ty) (N : Nat), (∀ x ∈ l, x.deep ≤ N) → Ty.deeps l ≤ N
  | [], N, _ => by simp [Ty.deeps]
  | x :: r, N, h => by
    unfold Ty.deeps
    exact Nat.max_le.2 ⟨h x (by simp), Ty.deeps_le r N fun y hy => h y (by simp [hy])⟩
theorem varTy_deep (vs : List By) (s : By) : (varTy vs s).deep = 1 := by
  unfold varTy; split <;> simp [Ty.deep, Ty.deeps]
theorem tupTy_deep (l : List Ty) (N : Nat) (h : ∀ x ∈ l, x.deep ≤ N) : (tupTy l).deep ≤ N + 1 := by
  have := Ty.deeps_le l N h
  unfold tupTy; split
  · have := h _ (List.mem_singleton.2 rfl); omega
  · simp [Ty.deep]; omega
section
variable {En : Nat} {vs : List By} {T : PS → Ty × PS} (h : Dec T) (hd : Dp Ty.deep 2 T)
include h hd
theorem tupleTypeF_dp {σ : PS} (hs : σ.sees (sS tLpar) = true) : (tupleTypeF En T σ).1.deep + 2 * (tupleTypeF En T σ).2.ts.length ≤ 2 * σ.ts.length + 1 := by
  unfold tupleTypeF bracketF
  dsimp only
  have h1 := take_lt (En := En) hs (by decide)
  have h2 := rowsF_dp (sep := sS tComma) (most := maxTup) h hd (σ.take En (sS tLpar)).2
  have h3 := rowsF_len (sep := sS tComma) (most := maxTup) h (σ.take En (sS tLpar)).2
  generalize rowsF (sS tComma) maxTup T (σ.take En (sS tLpar)).2 = r at h2 h3 ⊢
  have h4 := take_len En r.2 (sS tRpar)
  have h5 := tupTy_deep r.1 (2 * (σ.take En (sS tLpar)).2.ts.length + 2 - 2 * r.2.ts.length) (fun x hx => by have := h2 x hx; omega)
  omega
theorem atomTypeF_dp : Dp Ty.deep 1 (atomTypeF En vs T) := fun σ => by
  unfold atomTypeF
  split
  · have := take_len En σ sName
    show (varTy vs _).deep + 2 * (σ.take En sName).2.ts.length ≤ _
    rw [varTy_deep]; omega
  · split
    · have := take_len En σ sCon
      simp only [Ty.deep, Ty.deeps]; omega
    · split
      · rename_i h1; exact tupleTypeF_dp h hd h1
      · have := stop_len En σ
        simp only [Ty.zero, Ty.deep, Ty.deeps]; omega
theorem atomTypesL_dp : ∀ (f : Nat) (l : List Ty) (σ : PS) (N : Nat), 2 * σ.ts.length + 1 ≤ N → (∀ x ∈ l, x.deep + 2 * σ.ts.length ≤ N) → ∀ x ∈ (atomTypesL En vs T f l σ).1, x.deep + 2 * (atomTypesL En vs T f l σ).2.ts.length ≤ N
  | 0, l, σ, N, hN, hl => hl
  | f + 1, l, σ, N, hN, hl => by
    unfold atomTypesL
    have h1 := atomTypeF_len (En := En) (vs := vs) h σ
    have h2 := atomTypeF_dp (En := En) (vs := vs) h hd σ
    split
    · refine atomTypesL_dp f _ _ N (by omega) (fun x hx => ?_)
      rcases List.mem_append.1 hx with h3 | h3
      · have := hl x h3; omega
      · obtain rfl := List.mem_singleton.1 h3; omega
    · exact hl
theorem atomTypesF_dp (σ : PS) : ∀ x ∈ (atomTypesF En vs T σ).1, x.deep + 2 * (atomTypesF En vs T σ).2.ts.length ≤ 2 * σ.ts.length + 1 :=
  atomTypesL_dp h hd _ _ _ _ (Nat.le_refl _) (fun x hx => by simp at hx)
theorem leftTypeF_dp : Dp Ty.deep 1 (leftTypeF En vs T) := fun σ => by
  unfold leftTypeF
  split
  · rename_i h1
    have h2 := take_lt (En := En) h1 (by decide)
    have h3 := atomTypesF_dp (En := En) (vs := vs) h hd (σ.take En sCon).2
    have h4 : (atomTypesF En vs T (σ.take En sCon).2).2.ts.length ≤ (σ.take En sCon).2.ts.length := atomTypesL_len h _ _ _
    have h5 := Ty.deeps_le (atomTypesF En vs T (σ.take En sCon).2).1 (2 * (σ.take En sCon).2.ts.length + 1 - 2 * (atomTypesF En vs T (σ.take En sCon).2).2.ts.length) (fun x hx => by have := h3 x hx; omega)
    simp only [Ty.deep]; omega
  · exact atomTypeF_dp h hd σ
theorem typStep_dp : Dp Ty.deep 2 (typStep En vs T) := fun σ => by
  unfold typStep
  have h1 := leftTypeF_dp (En := En) (vs := vs) h hd σ
  have h2 := leftTypeF_len (En := En) (vs := vs) h σ
  split
  · rename_i hs
    have h3 := sees_pos hs (by decide)
    have h4 := h (leftTypeF En vs T σ).2.tail
    have h5 := hd (leftTypeF En vs T σ).2.tail
    rw [tail_len] at h4 h5
    simp only [Ty.deep, Ty.deeps]; omega
  · omega
end
theorem typF_dp (En : Nat) (vs : List By) : ∀ n, Dp Ty.deep 2 (typF En vs n)
  | 0 => fun σ => by show Ty.zero.deep + 2 * σ.ts.length ≤ _; simp [Ty.zero, Ty.deep, Ty.deeps]; omega
  | n + 1 => typStep_dp (typF_len En vs n) (typF_dp En vs n)

/-! ### Expressions -/
theorem Ex.deeps_le : ∀ (l : List Ex) (N : Nat), (∀ x ∈ l, x.deep ≤ N) → Ex.deeps l ≤ N
  | [], N, _ => by simp [Ex.deeps]
  | x :: r, N, h => by
    unfold Ex.deeps
    exact Nat.max_le.2 ⟨h x (by simp), Ex.deeps_le r N fun y hy => h y (by simp [hy])⟩
theorem Al.deeps_le : ∀ (l : List Al) (N : Nat), (∀ x ∈ l, x.deep ≤ N) → Al.deeps l ≤ N
  | [], N, _ => by simp [Al.deeps]
  | x :: r, N, h => by
    unfold Al.deeps
    exact Nat.max_le.2 ⟨h x (by simp), Al.deeps_le r N fun y hy => h y (by simp [hy])⟩
theorem lams_deep (p : Int) (b : Ex) : ∀ names : List By, (lams p names b).deep = names.length + b.deep
  | [] => by simp [lams]
  | s :: r => by
    show (Ex.mk 6 p s 0 [lams p r b] []).deep = _
    simp only [Ex.deep, Ex.deeps, Al.deeps, lams_deep p b r, List.length_cons]; omega
theorem leafE_deep (k : Nat) (t : Tk) : (leafE k t).deep = 1 := by
  unfold leafE; split <;> simp [Ex.deep, Ex.deeps, Al.deeps]
theorem tupEx_deep (p : Int) (l : List Ex) (N : Nat) (h : ∀ x ∈ l, x.deep ≤ N) : (tupEx p l).deep ≤ N + 1 := by
  have := Ex.deeps_le l N h
  unfold tupEx; split
  · have := h _ (List.mem_singleton.2 rfl); omega
  · simp [Ex.deep, Al.deeps]; omega
section
variable {En : Nat} {X : PS → Ex × PS} (h : Dec X) (hd : Dp Ex.deep 2 X)
include h hd
theorem lamF_dp {σ : PS} (hs : σ.sees (sS tBack) = true) : (lamF En X σ).1.deep + 2 * (lamF En X σ).2.ts.length ≤ 2 * σ.ts.length + 2 := by
  unfold lamF
  dsimp only
  have h1 := take_lt (En := En) hs (by decide)
  have h2 := take_len En (σ.take En (sS tBack)).2 sName
  have h3 := names_sum ((σ.take En (sS tBack)).2.take En sName).2
  have h4 := take_len En ((σ.take En (sS tBack)).2.take En sName).2.names.2 (sS tArrow)
  generalize ((σ.take En (sS tBack)).2.take En sName).2.names = m at h3 h4 ⊢
  have h5 := hd (m.2.take En (sS tArrow)).2
  rw [lams_deep, List.length_cons]; omega
theorem bindF_dp (σ : PS) : (bindF En X σ).1.body.deep + 2 * (bindF En X σ).2.ts.length ≤ 2 * σ.ts.length + 2 := by
  unfold bindF
  dsimp only
  have h2 := take_len En σ sName
  have h3 := names_sum (σ.take En sName).2
  have h4 := take_len En (σ.take En sName).2.names.2 (sS tEq)
  generalize (σ.take En sName).2.names = m at h3 h4 ⊢
  have h5 := hd (m.2.take En (sS tEq)).2
  rw [lams_deep]; omega
theorem letF_dp {σ : PS} (hs : σ.sees (sW tLet) = true) : (letF En X σ).1.deep + 2 * (letF En X σ).2.ts.length ≤ 2 * σ.ts.length + 2 := by
  unfold letF
  dsimp only
  have h1 := take_lt (En := En) hs (by decide)
  have h2 := bindF_dp (En := En) h hd (σ.take En (sW tLet)).2
  have h6 := bindF_len (En := En) h (σ.take En (sW tLet)).2
  generalize bindF En X (σ.take En (sW tLet)).2 = b at h2 h6 ⊢
  have h3 := take_len En b.2 (sW tIn)
  have h4 := hd (b.2.take En (sW tIn)).2
  have h5 := h (b.2.take En (sW tIn)).2
  simp only [Ex.deep, Ex.deeps, Al.deeps]; omega
theorem choiceF_dp {σ : PS} (hs : σ.sees (sW tIf) = true) : (choiceF En X σ).1.deep + 2 * (choiceF En X σ).2.ts.length ≤ 2 * σ.ts.length + 2 := by
  unfold choiceF
  dsimp only
  have h1 := take_lt (En := En) hs (by decide)
  have h2 := hd (σ.take En (sW tIf)).2
  have h3 := h (σ.take En (sW tIf)).2
  generalize X (σ.take En (sW tIf)).2 = x at h2 h3 ⊢
  have h4 := take_len En x.2 (sW tThen)
  have h5 := hd (x.2.take En (sW tThen)).2
  have h6 := h (x.2.take En (sW tThen)).2
  generalize X (x.2.take En (sW tThen)).2 = y at h5 h6 ⊢
  have h7 := take_len En y.2 (sW tElse)
  have h8 := hd (y.2.take En (sW tElse)).2
  have h9 := h (y.2.take En (sW tElse)).2
  simp only [Ex.deep, Ex.deeps, Al.deeps]; omega
theorem altF_dp : Dp Al.deep 2 (altF En X) := fun σ => by
  unfold altF
  dsimp only
  have h2 := take_len En σ sCon
  have h3 := names_len (σ.take En sCon).2
  have h4 := take_len En (σ.take En sCon).2.names.2 (sS tArrow)
  have h5 := hd ((σ.take En sCon).2.names.2.take En (sS tArrow)).2
  simp only [Al.deep]; omega
theorem casesF_dp {σ : PS} (hs : σ.sees (sW tCase) = true) : (casesF En X σ).1.deep + 2 * (casesF En X σ).2.ts.length ≤ 2 * σ.ts.length + 2 := by
  unfold casesF
  dsimp only
  have h1 := take_lt (En := En) hs (by decide)
  have h2 := hd (σ.take En (sW tCase)).2
  have h3 := h (σ.take En (sW tCase)).2
  generalize X (σ.take En (sW tCase)).2 = x at h2 h3 ⊢
  have h4 := take_len En x.2 (sW tOf)
  have h5 := take_len En (x.2.take En (sW tOf)).2 (sS tLcur)
  have h6 := rowsF_dp (sep := sS tSemi) (most := many) (altF_len (En := En) h) (altF_dp (En := En) h hd) ((x.2.take En (sW tOf)).2.take En (sS tLcur)).2
  have h7 := rowsF_len (sep := sS tSemi) (most := many) (altF_len (En := En) h) ((x.2.take En (sW tOf)).2.take En (sS tLcur)).2
  generalize rowsF (sS tSemi) many (altF En X) ((x.2.take En (sW tOf)).2.take En (sS tLcur)).2 = r at h6 h7 ⊢
  have h8 := take_len En r.2 (sS tRcur)
  have h9 := Al.deeps_le r.1 (2 * ((x.2.take En (sW tOf)).2.take En (sS tLcur)).2.ts.length + 2 - 2 * r.2.ts.length) (fun y hy => by have := h6 y hy; omega)
  simp only [Ex.deep, Ex.deeps]; omega
theorem tupleF_dp {σ : PS} (hs : σ.sees (sS tLpar) = true) : (tupleF En X σ).1.deep + 2 * (tupleF En X σ).2.ts.length ≤ 2 * σ.ts.length + 1 := by
  unfold tupleF bracketF
  dsimp only
  have h1 := take_lt (En := En) hs (by decide)
  have h2 := rowsF_dp (sep := sS tComma) (most := maxTup) h hd (σ.take En (sS tLpar)).2
  have h3 := rowsF_len (sep := sS tComma) (most := maxTup) h (σ.take En (sS tLpar)).2
  generalize rowsF (sS tComma) maxTup X (σ.take En (sS tLpar)).2 = r at h2 h3 ⊢
  have h4 := take_len En r.2 (sS tRpar)
  have h5 := tupEx_deep (σ.take En (sS tLpar)).1.p r.1 (2 * (σ.take En (sS tLpar)).2.ts.length + 2 - 2 * r.2.ts.length) (fun x hx => by have := h2 x hx; omega)
  omega
theorem atomF_dp : Dp Ex.deep 1 (atomF En X) := fun σ => by
  unfold atomF
  split
  · have := tail_len σ
    show (leafE (beg σ.next) σ.head).deep + 2 * σ.tail.ts.length ≤ _
    rw [leafE_deep]; omega
  · split
    · rename_i h1 h2; exact tupleF_dp h hd (sees_of ((beg_sees h2).2.2.1 rfl))
    · have := stop_len En σ
      simp only [Ex.zero, Ex.deep, Ex.deeps, Al.deeps]; omega
theorem appL_dp : ∀ (f : Nat) (e : Ex) (σ : PS) (N : Nat), 2 * σ.ts.length + 1 ≤ N → e.deep + 2 * σ.ts.length ≤ N + 1 → (appL En X f e σ).1.deep + 2 * (appL En X f e σ).2.ts.length ≤ N + 1
  | 0, e, σ, N, hN, hl => hl
  | f + 1, e, σ, N, hN, hl => by
    unfold appL
    split
    · rename_i hs
      have h1 := atomF_lt (En := En) h hs
      have h2 := atomF_dp (En := En) h hd σ
      refine appL_dp f _ _ N (by omega) ?_
      simp only [Ex.deep, Ex.deeps, Al.deeps]; omega
    · exact hl
theorem appF_dp : Dp Ex.deep 2 (appF En X) := fun σ => by
  have h1 := atomF_len (En := En) h σ
  have h2 := atomF_dp (En := En) h hd σ
  exact appL_dp h hd _ _ _ _ (by omega) (by omega)
theorem exprStep_dp : Dp Ex.deep 2 (exprStep En X) := fun σ => by
  unfold exprStep
  split
  · rename_i h1; exact lamF_dp h hd (sees_of ((beg_sees h1).1 rfl))
  · split
    · rename_i h1; exact letF_dp h hd (sees_of ((beg_sees h1).2.1 rfl))
    · split
      · rename_i h1; exact choiceF_dp h hd (sees_of ((beg_sees h1).2.2.2.1 rfl))
      · split
        · rename_i h1; exact casesF_dp h hd (sees_of ((beg_sees h1).2.2.2.2 rfl))
        · exact appF_dp h hd σ
end
theorem exprF_dp (En : Nat) : ∀ n, Dp Ex.deep 2 (exprF En n)
  | 0 => fun σ => by show Ex.zero.deep + 2 * σ.ts.length ≤ _; simp [Ex.zero, Ex.deep, Ex.deeps, Al.deeps]; omega
  | n + 1 => exprStep_dp (exprF_len En n) (exprF_dp En n)

/-! ### Programs -/
def PgOk (p : Pg) (N m : Nat) : Prop := (∀ d ∈ p.datas, ∀ c ∈ d.cons, ∀ t ∈ c.args, t.deep ≤ N) ∧ (∀ b ∈ p.binds, b.body.deep ≤ N) ∧ (p.datas.flatMap Dt.cons).length + p.binds.length ≤ m
theorem dataF_ok (En n : Nat) {σ : PS} (hs : σ.sees (sW tData) = true) : (∀ c ∈ (dataF En n σ).1.cons, ∀ t ∈ c.args, t.deep ≤ 2 * σ.ts.length + 2) ∧ (dataF En n σ).1.cons.length + (dataF En n σ).2.ts.length ≤ σ.ts.length ∧ (dataF En n σ).2.ts.length ≤ σ.ts.length := by
  unfold dataF
  dsimp only
  have h1 := take_lt (En := En) hs (by decide)
  have h2 := take_len En (σ.take En (sW tData)).2 sCon
  have h3 := names_len ((σ.take En (sW tData)).2.take En sCon).2
  have h4 := take_len En ((σ.take En (sW tData)).2.take En sCon).2.names.2 (sS tEq)
  generalize ((σ.take En (sW tData)).2.take En sCon).2.names = m at h3 h4 ⊢
  have hc : Dec (conF En m.1 n) := conF_len En m.1 n
  have h5 := rowsF_count (sep := sS tBar) (most := many) hc (by decide) (m.2.take En (sS tEq)).2
  have h6 : ∀ c ∈ (rowsF (sS tBar) many (conF En m.1 n) (m.2.take En (sS tEq)).2).1, Ty.deeps c.args + 2 * (rowsF (sS tBar) many (conF En m.1 n) (m.2.take En (sS tEq)).2).2.ts.length ≤ 2 * (m.2.take En (sS tEq)).2.ts.length + 1 :=
    rowsF_dp (dp := fun c : Cn => Ty.deeps c.args) hc (fun τ => by
      unfold conF
      dsimp only
      have g1 := take_len En τ sCon
      have g2 := atomTypesF_dp (En := En) (vs := m.1) (typF_len En m.1 n) (typF_dp En m.1 n) (τ.take En sCon).2
      have g3 : (atomTypesF En m.1 (typF En m.1 n) (τ.take En sCon).2).2.ts.length ≤ (τ.take En sCon).2.ts.length := atomTypesL_len (typF_len En m.1 n) _ _ _
      have g4 := Ty.deeps_le (atomTypesF En m.1 (typF En m.1 n) (τ.take En sCon).2).1 (2 * (τ.take En sCon).2.ts.length + 1 - 2 * (atomTypesF En m.1 (typF En m.1 n) (τ.take En sCon).2).2.ts.length) (fun x hx => by have := g2 x hx; omega)
      omega) _
  generalize rowsF (sS tBar) many (conF En m.1 n) (m.2.take En (sS tEq)).2 = r at h5 h6 ⊢
  have h7 := take_len En r.2 (sS tSemi)
  refine ⟨fun c hc t ht => ?_, by omega, by omega⟩
  have h8 := h6 c hc
  have h9 : ∀ (l : List Ty), t ∈ l → t.deep ≤ Ty.deeps l := fun l => by
    induction l with
    | nil => intro q; simp at q
    | cons y r ih =>
      intro q
      unfold Ty.deeps
      rcases List.mem_cons.1 q with rfl | q
      · omega
      · have := ih q; omega
  have := h9 _ ht; omega
theorem topF_ok (En n : Nat) (σ : PS) : (topF En n σ).1.body.deep ≤ 2 * σ.ts.length + 2 ∧ (topF En n σ).2.ts.length ≤ σ.ts.length := by
  unfold topF
  dsimp only
  have h1 := take_len En σ (sW tLet)
  have h2 := bindF_dp (En := En) (exprF_len En n) (exprF_dp En n) (σ.take En (sW tLet)).2
  have h3 := bindF_len (En := En) (exprF_len En n) (σ.take En (sW tLet)).2
  generalize bindF En (exprF En n) (σ.take En (sW tLet)).2 = b at h2 h3 ⊢
  have h4 := take_len En b.2 (sS tSemi)
  omega
theorem programL_ok (En n N C M : Nat) : ∀ (f : Nat) (p : Pg) (σ : PS), 2 * σ.ts.length + 2 ≤ N → (∀ d ∈ p.datas, ∀ c ∈ d.cons, ∀ t ∈ c.args, t.deep ≤ N) → (∀ b ∈ p.binds, b.body.deep ≤ N) → (p.datas.flatMap Dt.cons).length + σ.ts.length ≤ C → p.binds.length + f ≤ M →
    (∀ d ∈ (programL En n f p σ).1.datas, ∀ c ∈ d.cons, ∀ t ∈ c.args, t.deep ≤ N) ∧ (∀ b ∈ (programL En n f p σ).1.binds, b.body.deep ≤ N) ∧ ((programL En n f p σ).1.datas.flatMap Dt.cons).length ≤ C ∧ (programL En n f p σ).1.binds.length ≤ M
  | 0, p, σ, hN, h1, h2, h3, h4 => ⟨h1, h2, by show (p.datas.flatMap Dt.cons).length ≤ C; omega, by show p.binds.length ≤ M; omega⟩
  | f + 1, p, σ, hN, h1, h2, h3, h4 => by
    unfold programL
    split
    · exact ⟨h1, h2, by show (p.datas.flatMap Dt.cons).length ≤ C; omega, by show p.binds.length ≤ M; omega⟩
    · split
      · rename_i hs
        obtain ⟨q1, q2, q3⟩ := dataF_ok En n hs
        refine programL_ok En n N C M f _ _ (by omega) (fun d hd => ?_) h2 ?_ (by show p.binds.length + f ≤ M; omega)
        · rcases List.mem_append.1 hd with h5 | h5
          · exact h1 d h5
          · obtain rfl := List.mem_singleton.1 h5
            intro c hc t ht
            have := q1 c hc t ht; omega
        · show ((p.datas ++ [(dataF En n σ).1]).flatMap Dt.cons).length + _ ≤ C
          rw [List.flatMap_append, List.length_append]
          simp only [List.flatMap_cons, List.flatMap_nil, List.append_nil]
          omega
      · obtain ⟨q1, q2⟩ := topF_ok En n σ
        refine programL_ok En n N C M f _ _ (by omega) h1 (fun b hb => ?_) (by show (p.datas.flatMap Dt.cons).length + _ ≤ C; omega) (by show (p.binds ++ [(topF En n σ).1]).length + f ≤ M; rw [List.length_append, List.length_singleton]; omega)
        rcases List.mem_append.1 hb with h5 | h5
        · exact h2 b h5
        · obtain rfl := List.mem_singleton.1 h5; omega
/-- What a program of so many tokens can be. -/
theorem programF_ok (En n : Nat) (σ : PS) : (∀ d ∈ (programF En n σ).1.datas, ∀ c ∈ d.cons, ∀ t ∈ c.args, t.deep ≤ 2 * σ.ts.length + 2) ∧ (∀ b ∈ (programF En n σ).1.binds, b.body.deep ≤ 2 * σ.ts.length + 2) ∧ ((programF En n σ).1.datas.flatMap Dt.cons).length ≤ σ.ts.length ∧ (programF En n σ).1.binds.length ≤ σ.ts.length :=
  programL_ok En n _ _ _ σ.ts.length ⟨[], []⟩ σ (Nat.le_refl _) (fun d hd => by simp at hd) (fun d hd => by simp at hd) (by simp) (by simp)

end Go.Proofs.Ytccilgemfkdmkaa

namespace Go.Proofs.Ytccilgemfkdmkaa
open Go.RowKit Go.Maps
set_option linter.unusedVariables false
set_option linter.unusedSimpArgs false

theorem z_lexB (l : By) (w : World) (hl : l.length ≤ 65536) :
    Calls Try.prog 24 #[.string (strB l)] w fun e w' => ∃ v E A, e = .returned (.tuple #[v, .int .i64 E, .int .i64 A]) ∧ LexOut w (lexL l 0) v E A w' ∧ Below w.heap.size w w' := by
  have h := t_lex (strB l) w (by rw [strB_size]; exact hl)
  rwa [strB_data] at h
theorem tooDeepL_len (p : Pg) : (tooDeepL p).length ≤ (p.datas.flatMap Dt.cons).length + p.binds.length := by
  unfold tooDeepL
  rw [List.length_append, List.length_map]
  have h1 : ∀ l : List Dt, (l.flatMap fun d => (d.cons.filter Cn.tooDeep).map Cn.p).length ≤ (l.flatMap Dt.cons).length := fun l => by
    induction l with
    | nil => simp
    | cons d r ih =>
      rw [List.flatMap_cons, List.flatMap_cons, List.length_append, List.length_append, List.length_map]
      have := List.length_filter_le Cn.tooDeep d.cons
      omega
  have h2 := h1 p.datas
  have h3 := List.length_filter_le (fun b : Bd => decide (60 < b.body.deep)) p.binds
  omega
theorem own_row {w : World} {base : Nat} {a : Option Addr} {c : Nat} {l : List Int} (h : w.ownsRow base 3 1 (.slice a l.length c) l.length (l.map (Value.int .i64))) : Row base w.heap.size w a l.length l := by
  obtain ⟨a', c', e, hr⟩ := RowF.of_owns (d := (0 : Int)) h
  injection e with e1 e2 e3
  subst e1; exact hr
theorem IsV.pg2 {S : Nat → Prop} {w : World} {v : Value} {p : Pg} (h : IsV S w (pgC p) v) : ∃ (a a' : Option Addr) (cp cp' : Nat), v = .agg #[.slice a p.datas.length cp, .slice a' p.binds.length cp'] := by
  obtain ⟨us, rfl, h⟩ := h
  unfold pgC at h
  obtain ⟨u0, r0, rfl, l0⟩ := three_cons (n := 1) h.1
  obtain ⟨u1, r1, rfl, l1⟩ := three_cons (n := 0) l0
  obtain rfl := List.eq_nil_of_length_eq_zero l1
  obtain ⟨a, cp, rfl, _, _⟩ := h.head.slice
  obtain ⟨a', cp', rfl, _, _⟩ := h.tail.head.slice
  exact ⟨a, a', cp, cp', rfl⟩
theorem IsV.set {S : Nat → Prop} {w : World} {v : Value} {cs : List Cl} (h : IsV S w cs v) {p : Addr} (hp : p.block < w.heap.size → ¬ S p.block) (x : Value) : IsV S (w.setCell p x) cs v := by
  obtain ⟨us, rfl, h⟩ := h; exact ⟨us, rfl, h.set hp x⟩
theorem IsV.no_pg (S : Nat → Prop) (w : World) : IsV S w (pgC ⟨[], []⟩) (.agg #[.slice none 0 0, .slice none 0 0]) := IsV.of_pg (.e _ _ _) (.e _ _ _)
theorem RD.first {w : World} {R En M m c : Nat} {a : Option Addr} {D : DataW Unit} {ts : List Tk} (hb : Box w R 77 [.slice a ts.length c, .int .i64 (En : Int), .map (some M), .map none, .bool false, .int .i64 0]) (ht : TR R w a ts.length ts) (hc : ts.length ≤ c)
    (hm : w.ownsMap Try.prog 117 (plainElem Try.prog 3) M m D) (hi : BInv D) (hM : M ≠ R) (hf : ∀ t ∈ ts, t.fit) (hE : En ≤ 1000000) (hl : ts.length ≤ 1000000) : RD (Cx.mk R En M (.map none) []) w ⟨ts, false, 0⟩ :=
  ⟨⟨a, c, hb, ht, hc⟩, ⟨m, D, hm, hi⟩, hM, .inl ⟨rfl, rfl⟩, hf, (fun e => nomatch e), hE, Nat.zero_le _, hl⟩

set_option maxRecDepth 100000 in
set_option maxHeartbeats 4000000 in
/-- A text that has something that is no token. -/
theorem par_lex (s : By) (w : World) (hs : s.length ≤ 65536) {i : Nat} (hx : lexL s 0 = Sum.inl i) :
    Calls Try.prog 11 #[.string (strB s)] w fun e w' => ∃ v, e = .returned (.tuple #[v, .int .i64 3, .int .i64 (i : Int)]) ∧ IsV (New w) w' (pgC ⟨[], []⟩) v ∧ Below w.heap.size w w' := by
  have HX := Lib.hid hx
  clear hx
  go_enter Try.func11, Try.ntmps11
  go_wp2_with (go_at_call 24; refine (z_lexB s _ hs).mono ?_; rintro e w2 ⟨v, E, A, rfl, hlo, hb2⟩; rw [HX.out] at hlo; obtain ⟨rfl, rfl, rfl⟩ := hlo; have bx := (Box.new w 28 [.slice none 0 0, .slice none 0 0]).below hb2; obtain ⟨_, _, _, _⟩ := two_cells bx; have hlt := bx.lt; have HB2 := Lib.hid hb2; clear hb2 bx)
  refine bodyPost_ret (v := .tuple #[.agg #[.slice none 0 0, .slice none 0 0], .int .i64 3, .int .i64 (i : Int)]) (by simp only [results, Try.results11]; go_simp <;> rfl) rfl ?_
  refine ⟨_, rfl, IsV.no_pg _ _, ?_⟩
  have h2 : Below w.heap.size w w2 := ((Below.refl _ w).alloc (Nat.le_refl _) _).trans (HB2.out.mono (by simp))
  exact (h2.setCell (p := ⟨w.heap.size, 0, none⟩) (Nat.le_refl _) _).setCell (p := ⟨w.heap.size, 1, none⟩) (Nat.le_refl _) _


set_option maxRecDepth 100000 in
set_option maxHeartbeats 4000000 in
/-- A text of tokens that are no program. -/
theorem par_stop (s : By) (w : World) (hs : s.length ≤ 65536) {ts : List Tk} (hx : lexL s 0 = Sum.inr ts) {P : Pg × PS} (hP : programF (strB s).size (ts.length + 1) ⟨ts, false, 0⟩ = P) (hst : P.2.st = true) :
    Calls Try.prog 11 #[.string (strB s)] w fun e w' => ∃ v, e = .returned (.tuple #[v, .int .i64 4, .int .i64 (P.2.at_ : Int)]) ∧ IsV (New w) w' (pgC ⟨[], []⟩) v ∧ Below w.heap.size w w' := by
  have HX := Lib.hid hx
  have HP := Lib.hid hP
  have HST := Lib.hid hst
  have hlen : ts.length ≤ s.length := lexL_len hx
  have HFIT : Hid (∀ t ∈ ts, t.fit) := lexL_fit (by omega) hx
  have hE : (strB s).size ≤ 1000000 := by rw [strB_size]; omega
  clear hx hP hst
  go_enter Try.func11, Try.ntmps11
  go_wp2_with (first
    | (go_at_call 24; refine (z_lexB s _ hs).mono ?_; rintro e w2 ⟨v, E, A, rfl, hlo, hb2⟩; rw [HX.out] at hlo; obtain ⟨ho, rfl, rfl⟩ := hlo; obtain ⟨a, c, rfl, hnc, htr⟩ := TR.of_owns ho; clear ho; have HTR := Lib.hid htr; have bx := (Box.new w 28 [.slice none 0 0, .slice none 0 0]).below hb2; have HBX := Lib.hid bx; have hlt2 := bx.lt; have HB2 := Lib.hid hb2; clear hb2 bx htr)
    | (go_at_call 25; refine (z_begins _).mono ?_; rintro e w3 ⟨M, m, D, rfl, hM, hmap, hinv, hb3⟩; have hM3 := ownsMap_lt hmap; have hlt3 : w.heap.size < w3.heap.size := (by have := hb3.size; omega); have HBX3 := Lib.hid (HBX.out.below hb3);
       have HRD : Hid (RD (Cx.mk w3.heap.size (strB s).size M (.map none) []) (w3.alloc (.cells #[.slice a ts.length c, .int .i64 ((strB s).size : Int), .map (some M), .map none, .bool false, .int .i64 0] 77)) ⟨ts, false, 0⟩) := RD.first (Box.new w3 77 [.slice a ts.length c, .int .i64 ((strB s).size : Int), .map (some M), .map none, .bool false, .int .i64 0]) (((HTR.out.below hb3 (Nat.le_refl _)).mono hb3.size).below ((Below.refl _ w3).alloc (Nat.le_refl _) _) (Nat.le_refl _)) hnc (ownsMap_agree hmap (Below.heap_alloc _ _ _ hM3)) hinv (by omega) HFIT.out hE (by omega);
       have HB3 := Lib.hid hb3; clear hb3 hmap hinv)
    | (go_at_call 26; refine (k_program (Car.start HRD.out) (Nat.lt_succ_self _) HP.out).mono ?_; rintro e w5 ⟨v, vv', vs', rfl, hv, hc5, ho5⟩; obtain ⟨a1, a2, c1, c2, rfl⟩ := hv.pg2; clear hv; have bx := ho5.box (HBX3.out.alloc _) (show ¬ (w.heap.size = w3.heap.size) by omega); have HBC := Lib.hid bx; obtain ⟨_, _, _, _⟩ := two_cells bx; have hlt5 := bx.lt; obtain ⟨ra, rcp, hrb, _, _⟩ := hc5.rd.box; rw [HST.out] at hrb; obtain ⟨_, _, _, _, _, _⟩ := six_cells hrb; have hR5 := hrb.lt; have HO5 := Lib.hid ho5; clear ho5 hrb bx hc5))
  have h5 : Below w.heap.size w w5 := by
    have h3 : Below w.heap.size w w3 := (((Below.refl _ w).alloc (Nat.le_refl _) _).trans (HB2.out.mono (by simp))).trans (HB3.out.mono (Nat.le_of_lt hlt2))
    have h4 : Below w.heap.size (w3.alloc (.cells #[.slice a ts.length c, .int .i64 ((strB s).size : Int), .map (some M), .map none, .bool false, .int .i64 0] 77)) w5 := HO5.out.below (by simp; omega) (fun k hk => by omega)
    exact (h3.alloc (Nat.le_of_lt hlt3) _).trans h4
  have bf := (((HBC.out.set 0 (.slice a1 P.1.datas.length c1)).set 1 (.slice a2 P.1.binds.length c2)).set 0 (.slice none 0 0)).set 1 (.slice none 0 0)
  obtain ⟨qf0, qf1, _, _⟩ := two_cells bf
  clear bf
  go_region
  all_goals go_wp2_with fail
  all_goals refine bodyPost_ret (v := .tuple #[.agg #[.slice none 0 0, .slice none 0 0], .int .i64 4, .int .i64 (P.2.at_ : Int)]) (by simp only [results, Try.results11]; go_simp <;> rfl) rfl ⟨_, rfl, IsV.no_pg _ _, ?_⟩
  all_goals (have hz := ((((h5.setCell (p := ⟨w.heap.size, 0, none⟩) (Nat.le_refl _) (.slice a1 P.1.datas.length c1)).setCell (p := ⟨w.heap.size, 1, none⟩) (Nat.le_refl _) (.slice a2 P.1.binds.length c2)).setCell (p := ⟨w.heap.size, 0, none⟩) (Nat.le_refl _) (.slice none 0 0)).setCell (p := ⟨w.heap.size, 1, none⟩) (Nat.le_refl _) (.slice none 0 0)); first | exact hz | exact hz.drew)


set_option maxRecDepth 100000 in
set_option maxHeartbeats 4000000 in
/-- A program, not too deep or too deep. -/
theorem par_ok (s : By) (w : World) (hs : s.length ≤ 65536) {ts : List Tk} (hx : lexL s 0 = Sum.inr ts) {P : Pg × PS} (hP : programF (strB s).size (ts.length + 1) ⟨ts, false, 0⟩ = P) (hst : P.2.st = false) (hq0 : tooDeepL P.1 = []) :
    Calls Try.prog 11 #[.string (strB s)] w fun e w' => ∃ v, e = .returned (.tuple #[v, .int .i64 0, .int .i64 0]) ∧ IsV (New w) w' (pgC P.1) v ∧ Below w.heap.size w w' := by
  have HX := Lib.hid hx
  have HP := Lib.hid hP
  have HST := Lib.hid hst
  have hlen : ts.length ≤ s.length := lexL_len hx
  have HFIT : Hid (∀ t ∈ ts, t.fit) := lexL_fit (by omega) hx
  have hE : (strB s).size ≤ 1000000 := by rw [strB_size]; omega
  obtain ⟨K1, K2, K3, K4⟩ := programF_ok (strB s).size (ts.length + 1) ⟨ts, false, 0⟩
  rw [hP] at K1 K2 K3 K4
  dsimp only at K1 K2 K3 K4
  have KT : Hid (∀ d ∈ P.1.datas, ∀ c ∈ d.cons, ∀ t ∈ c.args, t.deep ≤ 1000000) := fun d hd c hc t ht => by have := K1 d hd c hc t ht; omega
  have KB : Hid (∀ b ∈ P.1.binds, b.body.deep ≤ 1000000) := fun b hb => by have := K2 b hb; omega
  have KN : Hid ((P.1.datas.flatMap Dt.cons).length + P.1.binds.length ≤ 200000) := by show _ ≤ _; omega
  clear K1 K2 K3 K4
  have HQ0 := Lib.hid hq0
  clear hx hP hst hq0
  go_enter Try.func11, Try.ntmps11
  go_wp2_with (first
    | (go_at_call 24; refine (z_lexB s _ hs).mono ?_; rintro e w2 ⟨v, E, A, rfl, hlo, hb2⟩; rw [HX.out] at hlo; obtain ⟨ho, rfl, rfl⟩ := hlo; obtain ⟨a, c, rfl, hnc, htr⟩ := TR.of_owns ho; clear ho; have HTR := Lib.hid htr; have bx := (Box.new w 28 [.slice none 0 0, .slice none 0 0]).below hb2; have HBX := Lib.hid bx; have hlt2 := bx.lt; have HB2 := Lib.hid hb2; clear hb2 bx htr)
    | (go_at_call 25; refine (z_begins _).mono ?_; rintro e w3 ⟨M, m, D, rfl, hM, hmap, hinv, hb3⟩; have hM3 := ownsMap_lt hmap; have hlt3 : w.heap.size < w3.heap.size := (by have := hb3.size; omega); have HBX3 := Lib.hid (HBX.out.below hb3);
       have HRD : Hid (RD (Cx.mk w3.heap.size (strB s).size M (.map none) []) (w3.alloc (.cells #[.slice a ts.length c, .int .i64 ((strB s).size : Int), .map (some M), .map none, .bool false, .int .i64 0] 77)) ⟨ts, false, 0⟩) := RD.first (Box.new w3 77 [.slice a ts.length c, .int .i64 ((strB s).size : Int), .map (some M), .map none, .bool false, .int .i64 0]) (((HTR.out.below hb3 (Nat.le_refl _)).mono hb3.size).below ((Below.refl _ w3).alloc (Nat.le_refl _) _) (Nat.le_refl _)) hnc (ownsMap_agree hmap (Below.heap_alloc _ _ _ hM3)) hinv (by omega) HFIT.out hE (by omega);
       have HB3 := Lib.hid hb3; clear hb3 hmap hinv)
    | (go_at_call 26; refine (k_program (Car.start HRD.out) (Nat.lt_succ_self _) HP.out).mono ?_; rintro e w5 ⟨v, vv', vs', rfl, hv, hc5, ho5⟩; have HV := Lib.hid hv; obtain ⟨a1, a2, c1, c2, rfl⟩ := hv.pg2; clear hv; have bx := ho5.box (HBX3.out.alloc _) (show ¬ (w.heap.size = w3.heap.size) by omega); have HBC := Lib.hid bx; obtain ⟨_, _, _, _⟩ := two_cells bx; have hlt5 := bx.lt; obtain ⟨ra, rcp, hrb, _, _⟩ := hc5.rd.box; rw [HST.out] at hrb; obtain ⟨_, _, _, _, _, _⟩ := six_cells hrb; have hR5 := hrb.lt; have HO5 := Lib.hid ho5; clear ho5 hrb bx hc5;
       have bf := (HBC.out.set 0 (.slice a1 P.1.datas.length c1)).set 1 (.slice a2 P.1.binds.length c2);
       have HBF := Lib.hid bf; obtain ⟨qf0, qf1, qf2, qf3⟩ := two_cells bf; clear bf;
       have HV6 : Hid (IsV (New (w3.alloc (.cells #[.slice a ts.length c, .int .i64 ((strB s).size : Int), .map (some M), .map none, .bool false, .int .i64 0] 77))) ((w5.setCell ⟨w.heap.size, 0, none⟩ (.slice a1 P.1.datas.length c1)).setCell ⟨w.heap.size, 1, none⟩ (.slice a2 P.1.binds.length c2)) (pgC P.1) (.agg #[.slice a1 P.1.datas.length c1, .slice a2 P.1.binds.length c2])) := (HV.out.set (p := ⟨w.heap.size, 0, none⟩) (fun _ h => by unfold New at h; simp at h; omega) _).set (p := ⟨w.heap.size, 1, none⟩) (fun _ h => by unfold New at h; simp at h; omega) _)
    | (go_at_call 27; (refine (z_tooDeep P.1 _ _ _ HV6.out KT.out KB.out KN.out).mono ?_; rintro e w7 ⟨u, w6, rfl, hw6, hb6, hlr⟩; rw [HQ0.out] at hlr; obtain ⟨va, vc, hvv⟩ := own_shape hlr.1; subst hvv; have hb7 := hb6.trans (hlr.2.mono hw6); have bx7 := HBF.out.below hb7; obtain ⟨_, _, _, _⟩ := two_cells bx7; have hlt7 := bx7.lt; have HB7 := Lib.hid hb7; clear hb7 hlr bx7 hb6)))
  have h5 : Below w.heap.size w w5 := by
    have h3 : Below w.heap.size w w3 := (((Below.refl _ w).alloc (Nat.le_refl _) _).trans (HB2.out.mono (by simp))).trans (HB3.out.mono (Nat.le_of_lt hlt2))
    have h4 : Below w.heap.size (w3.alloc (.cells #[.slice a ts.length c, .int .i64 ((strB s).size : Int), .map (some M), .map none, .bool false, .int .i64 0] 77)) w5 := HO5.out.below (by simp; omega) (fun k hk => by omega)
    exact (h3.alloc (Nat.le_of_lt hlt3) _).trans h4
  have h6 := (h5.setCell (p := ⟨w.heap.size, 0, none⟩) (Nat.le_refl _) (.slice a1 P.1.datas.length c1)).setCell (p := ⟨w.heap.size, 1, none⟩) (Nat.le_refl _) (.slice a2 P.1.binds.length c2)
  have h7 := h6.trans (HB7.out.mono (by simp; omega))
  have h8 := (h7.setCell (p := ⟨w.heap.size, 0, none⟩) (Nat.le_refl _) (.slice a1 P.1.datas.length c1)).setCell (p := ⟨w.heap.size, 1, none⟩) (Nat.le_refl _) (.slice a2 P.1.binds.length c2)
  have hv8 := (((HV6.out.under HB7.out).set (p := ⟨w.heap.size, 0, none⟩) (fun _ h => by unfold New at h; simp at h; omega) (.slice a1 P.1.datas.length c1)).set (p := ⟨w.heap.size, 1, none⟩) (fun _ h => by unfold New at h; simp at h; omega) (.slice a2 P.1.binds.length c2)).mono (S' := New w) (fun b _ h => by unfold New at *; simp at h; omega)
  have bf := ((HBF.out.below HB7.out).set 0 (.slice a1 P.1.datas.length c1)).set 1 (.slice a2 P.1.binds.length c2)
  obtain ⟨qf4, qf5, _, _⟩ := two_cells bf
  clear bf
  refine bodyPost_ret (v := .tuple #[.agg #[.slice a1 P.1.datas.length c1, .slice a2 P.1.binds.length c2], .int .i64 0, .int .i64 0]) (by simp only [results, Try.results11]; go_simp <;> rfl) rfl ⟨_, rfl, hv8, h8⟩

set_option maxRecDepth 100000 in
set_option maxHeartbeats 4000000 in
/-- A program, not too deep or too deep. -/
theorem par_deep (s : By) (w : World) (hs : s.length ≤ 65536) {ts : List Tk} (hx : lexL s 0 = Sum.inr ts) {P : Pg × PS} (hP : programF (strB s).size (ts.length + 1) ⟨ts, false, 0⟩ = P) (hst : P.2.st = false) (hq0 : tooDeepL P.1 ≠ []) :
    Calls Try.prog 11 #[.string (strB s)] w fun e w' => ∃ v, e = .returned (.tuple #[v, .int .i64 5, .int .i64 (minL (tooDeepL P.1))]) ∧ IsV (New w) w' (pgC ⟨[], []⟩) v ∧ Below w.heap.size w w' := by
  have HX := Lib.hid hx
  have HP := Lib.hid hP
  have HST := Lib.hid hst
  have hlen : ts.length ≤ s.length := lexL_len hx
  have HFIT : Hid (∀ t ∈ ts, t.fit) := lexL_fit (by omega) hx
  have hE : (strB s).size ≤ 1000000 := by rw [strB_size]; omega
  obtain ⟨K1, K2, K3, K4⟩ := programF_ok (strB s).size (ts.length + 1) ⟨ts, false, 0⟩
  rw [hP] at K1 K2 K3 K4
  dsimp only at K1 K2 K3 K4
  have KT : Hid (∀ d ∈ P.1.datas, ∀ c ∈ d.cons, ∀ t ∈ c.args, t.deep ≤ 1000000) := fun d hd c hc t ht => by have := K1 d hd c hc t ht; omega
  have KB : Hid (∀ b ∈ P.1.binds, b.body.deep ≤ 1000000) := fun b hb => by have := K2 b hb; omega
  have KN : Hid ((P.1.datas.flatMap Dt.cons).length + P.1.binds.length ≤ 200000) := by show _ ≤ _; omega
  clear K1 K2 K3 K4
  obtain ⟨q, hq⟩ : ∃ q, tooDeepL P.1 = q := ⟨_, rfl⟩
  have HQ := Lib.hid hq
  have HQL : Hid (q.length ≤ 1000000) := by show _ ≤ _; have h1 := tooDeepL_len P.1; have h2 := KN.out; rw [hq] at h1; omega
  rw [hq] at hq0 ⊢
  have HQ0 := Lib.hid hq0
  have hgt : decide ((0 : Int) < (q.length : Int)) = true := by have := List.length_pos_iff.2 hq0; exact decide_eq_true (by omega)
  clear hx hP hst hq hq0
  go_enter Try.func11, Try.ntmps11
  go_wp2_with (first
    | (go_at_call 24; refine (z_lexB s _ hs).mono ?_; rintro e w2 ⟨v, E, A, rfl, hlo, hb2⟩; rw [HX.out] at hlo; obtain ⟨ho, rfl, rfl⟩ := hlo; obtain ⟨a, c, rfl, hnc, htr⟩ := TR.of_owns ho; clear ho; have HTR := Lib.hid htr; have bx := (Box.new w 28 [.slice none 0 0, .slice none 0 0]).below hb2; have HBX := Lib.hid bx; have hlt2 := bx.lt; have HB2 := Lib.hid hb2; clear hb2 bx htr)
    | (go_at_call 25; refine (z_begins _).mono ?_; rintro e w3 ⟨M, m, D, rfl, hM, hmap, hinv, hb3⟩; have hM3 := ownsMap_lt hmap; have hlt3 : w.heap.size < w3.heap.size := (by have := hb3.size; omega); have HBX3 := Lib.hid (HBX.out.below hb3);
       have HRD : Hid (RD (Cx.mk w3.heap.size (strB s).size M (.map none) []) (w3.alloc (.cells #[.slice a ts.length c, .int .i64 ((strB s).size : Int), .map (some M), .map none, .bool false, .int .i64 0] 77)) ⟨ts, false, 0⟩) := RD.first (Box.new w3 77 [.slice a ts.length c, .int .i64 ((strB s).size : Int), .map (some M), .map none, .bool false, .int .i64 0]) (((HTR.out.below hb3 (Nat.le_refl _)).mono hb3.size).below ((Below.refl _ w3).alloc (Nat.le_refl _) _) (Nat.le_refl _)) hnc (ownsMap_agree hmap (Below.heap_alloc _ _ _ hM3)) hinv (by omega) HFIT.out hE (by omega);
       have HB3 := Lib.hid hb3; clear hb3 hmap hinv)
    | (go_at_call 26; refine (k_program (Car.start HRD.out) (Nat.lt_succ_self _) HP.out).mono ?_; rintro e w5 ⟨v, vv', vs', rfl, hv, hc5, ho5⟩; have HV := Lib.hid hv; obtain ⟨a1, a2, c1, c2, rfl⟩ := hv.pg2; clear hv; have bx := ho5.box (HBX3.out.alloc _) (show ¬ (w.heap.size = w3.heap.size) by omega); have HBC := Lib.hid bx; obtain ⟨_, _, _, _⟩ := two_cells bx; have hlt5 := bx.lt; obtain ⟨ra, rcp, hrb, _, _⟩ := hc5.rd.box; rw [HST.out] at hrb; obtain ⟨_, _, _, _, _, _⟩ := six_cells hrb; have hR5 := hrb.lt; have HO5 := Lib.hid ho5; clear ho5 hrb bx hc5;
       have bf := (HBC.out.set 0 (.slice a1 P.1.datas.length c1)).set 1 (.slice a2 P.1.binds.length c2);
       have HBF := Lib.hid bf; obtain ⟨qf0, qf1, qf2, qf3⟩ := two_cells bf; clear bf;
       have HV6 : Hid (IsV (New (w3.alloc (.cells #[.slice a ts.length c, .int .i64 ((strB s).size : Int), .map (some M), .map none, .bool false, .int .i64 0] 77))) ((w5.setCell ⟨w.heap.size, 0, none⟩ (.slice a1 P.1.datas.length c1)).setCell ⟨w.heap.size, 1, none⟩ (.slice a2 P.1.binds.length c2)) (pgC P.1) (.agg #[.slice a1 P.1.datas.length c1, .slice a2 P.1.binds.length c2])) := (HV.out.set (p := ⟨w.heap.size, 0, none⟩) (fun _ h => by unfold New at h; simp at h; omega) _).set (p := ⟨w.heap.size, 1, none⟩) (fun _ h => by unfold New at h; simp at h; omega) _)
    | (go_at_call 27; (refine (z_tooDeep P.1 _ _ _ HV6.out KT.out KB.out KN.out).mono ?_; rintro e w7 ⟨u, w6, rfl, hw6, hb6, hlr⟩; rw [HQ.out] at hlr; obtain ⟨va, vc, hvv⟩ := own_shape hlr.1; subst hvv; have hb7 := hb6.trans (hlr.2.mono hw6); have bx7 := HBF.out.below hb7; obtain ⟨_, _, _, _⟩ := two_cells bx7; have hlt7 := bx7.lt; have HB7 := Lib.hid hb7; have HROW := Lib.hid (own_row hlr.1); clear hb7 hlr bx7 hb6))
    | (go_at_call 28; refine (z_min q _ _ _ _ _ _ HROW.out (Nat.le_refl _) (List.length_pos_iff.2 HQ0.out) HQL.out).mono ?_; rintro e w8 ⟨rfl, hw8⟩; subst hw8))
  rotate_left
  · exact absurd (List.length_pos_iff.2 HQ0.out) (by assumption)
  have h5 : Below w.heap.size w w5 := by
    have h3 : Below w.heap.size w w3 := (((Below.refl _ w).alloc (Nat.le_refl _) _).trans (HB2.out.mono (by simp))).trans (HB3.out.mono (Nat.le_of_lt hlt2))
    have h4 : Below w.heap.size (w3.alloc (.cells #[.slice a ts.length c, .int .i64 ((strB s).size : Int), .map (some M), .map none, .bool false, .int .i64 0] 77)) w5 := HO5.out.below (by simp; omega) (fun k hk => by omega)
    exact (h3.alloc (Nat.le_of_lt hlt3) _).trans h4
  have h6 := (h5.setCell (p := ⟨w.heap.size, 0, none⟩) (Nat.le_refl _) (.slice a1 P.1.datas.length c1)).setCell (p := ⟨w.heap.size, 1, none⟩) (Nat.le_refl _) (.slice a2 P.1.binds.length c2)
  have h7 := h6.trans (HB7.out.mono (by simp; omega))
  have h8 := (h7.setCell (p := ⟨w.heap.size, 0, none⟩) (Nat.le_refl _) (.slice none 0 0)).setCell (p := ⟨w.heap.size, 1, none⟩) (Nat.le_refl _) (.slice none 0 0)
  have bf := ((HBF.out.below HB7.out).set 0 (.slice none 0 0)).set 1 (.slice none 0 0)
  obtain ⟨qf4, qf5, _, _⟩ := two_cells bf
  clear bf
  refine bodyPost_ret (v := .tuple #[.agg #[.slice none 0 0, .slice none 0 0], .int .i64 5, .int .i64 (minL q)]) (by simp only [results, Try.results11]; go_simp <;> rfl) rfl ⟨_, rfl, IsV.no_pg _ _, h8⟩

/-- Parse: what a text is as a program, or where it is none. -/
theorem z_Parse (s : By) (w : World) (hs : s.length ≤ 65536) {O : Out3} (hO : parseL s = O) :
    Calls Try.prog 11 #[.string (strB s)] w fun e w' => ∃ v, e = .returned (.tuple #[v, .int .i64 (O.e : Int), .int .i64 O.at_]) ∧ IsV (New w) w' (pgC O.p) v ∧ Below w.heap.size w w' := by
  subst hO
  unfold parseL
  cases hx : lexL s 0 with
  | inl i => exact par_lex s w hs hx
  | inr ts =>
    dsimp only
    unfold parseTs
    dsimp only
    rw [← strB_size s]
    by_cases hst : (programF (strB s).size (ts.length + 1) ⟨ts, false, 0⟩).2.st = true
    · rw [if_pos hst]; exact par_stop s w hs hx rfl hst
    · rw [if_neg hst]
      by_cases hq : tooDeepL (programF (strB s).size (ts.length + 1) ⟨ts, false, 0⟩).1 = []
      · rw [if_pos hq]; exact par_ok s w hs hx rfl (by simpa using hst) hq
      · rw [if_neg hq]; exact par_deep s w hs hx rfl (by simpa using hst) hq

end Go.Proofs.Ytccilgemfkdmkaa

namespace Go.Proofs.Ytccilgemfkdmkaa
set_option linter.unusedVariables false
set_option linter.unusedSimpArgs false

def pad (how : Nat) (e : By) : By := match how with
  | 0 => [92, 121, 32, 45, 62, 32] ++ e
  | 1 => [102, 32, 40] ++ e ++ [41]
  | 2 => [40] ++ e ++ [44, 32, 49, 41]
  | _ => [108, 101, 116, 32, 121, 32, 61, 32, 49, 32, 105, 110, 32] ++ e
def deepE (how : Nat) : Nat → By
  | 0 => [120]
  | k + 1 => pad how (deepE how k)
/-- let a = 1; let q = ..; -/
def deepT (how k : Nat) : By := [108, 101, 116, 32, 97, 32, 61, 32, 49, 59, 32, 108, 101, 116, 32, 113, 32, 61, 32] ++ deepE how k ++ [59]
def deepOk (how k : Nat) : Bool := match parseL (deepT how k) with
  | ⟨p, e, a⟩ => if 60 < k + 1 then decide (e = 5) && decide (a = 15) && decide (p.binds.length = 0) else decide (e = 0) && (match p.binds with
    | [_, b] => decide (b.body.deep = k + 1)
    | _ => false)
set_option maxRecDepth 100000 in
theorem deep_c00 : ((List.range 10).all fun i => deepOk 0 (10 * 0 + i)) = true := by decide +kernel
set_option maxRecDepth 100000 in
theorem deep_c01 : ((List.range 10).all fun i => deepOk 0 (10 * 1 + i)) = true := by decide +kernel
set_option maxRecDepth 100000 in
theorem deep_c02 : ((List.range 10).all fun i => deepOk 0 (10 * 2 + i)) = true := by decide +kernel
set_option maxRecDepth 100000 in
theorem deep_c03 : ((List.range 10).all fun i => deepOk 0 (10 * 3 + i)) = true := by decide +kernel
set_option maxRecDepth 100000 in
theorem deep_c04 : ((List.range 10).all fun i => deepOk 0 (10 * 4 + i)) = true := by decide +kernel
set_option maxRecDepth 100000 in
theorem deep_c05 : ((List.range 10).all fun i => deepOk 0 (10 * 5 + i)) = true := by decide +kernel
set_option maxRecDepth 100000 in
theorem deep_c06 : ((List.range 10).all fun i => deepOk 0 (10 * 6 + i)) = true := by decide +kernel
set_option maxRecDepth 100000 in
theorem deep_c10 : ((List.range 10).all fun i => deepOk 1 (10 * 0 + i)) = true := by decide +kernel
set_option maxRecDepth 100000 in
theorem deep_c11 : ((List.range 10).all fun i => deepOk 1 (10 * 1 + i)) = true := by decide +kernel
set_option maxRecDepth 100000 in
theorem deep_c12 : ((List.range 10).all fun i => deepOk 1 (10 * 2 + i)) = true := by decide +kernel
set_option maxRecDepth 100000 in
theorem deep_c13 : ((List.range 10).all fun i => deepOk 1 (10 * 3 + i)) = true := by decide +kernel
set_option maxRecDepth 100000 in
theorem deep_c14 : ((List.range 10).all fun i => deepOk 1 (10 * 4 + i)) = true := by decide +kernel
set_option maxRecDepth 100000 in
theorem deep_c15 : ((List.range 10).all fun i => deepOk 1 (10 * 5 + i)) = true := by decide +kernel
set_option maxRecDepth 100000 in
theorem deep_c16 : ((List.range 10).all fun i => deepOk 1 (10 * 6 + i)) = true := by decide +kernel
set_option maxRecDepth 100000 in
theorem deep_c20 : ((List.range 10).all fun i => deepOk 2 (10 * 0 + i)) = true := by decide +kernel
set_option maxRecDepth 100000 in
theorem deep_c21 : ((List.range 10).all fun i => deepOk 2 (10 * 1 + i)) = true := by decide +kernel
set_option maxRecDepth 100000 in
theorem deep_c22 : ((List.range 10).all fun i => deepOk 2 (10 * 2 + i)) = true := by decide +kernel
set_option maxRecDepth 100000 in
theorem deep_c23 : ((List.range 10).all fun i => deepOk 2 (10 * 3 + i)) = true := by decide +kernel
set_option maxRecDepth 100000 in
theorem deep_c24 : ((List.range 10).all fun i => deepOk 2 (10 * 4 + i)) = true := by decide +kernel
set_option maxRecDepth 100000 in
theorem deep_c25 : ((List.range 10).all fun i => deepOk 2 (10 * 5 + i)) = true := by decide +kernel
set_option maxRecDepth 100000 in
theorem deep_c26 : ((List.range 10).all fun i => deepOk 2 (10 * 6 + i)) = true := by decide +kernel
set_option maxRecDepth 100000 in
theorem deep_c30 : ((List.range 10).all fun i => deepOk 3 (10 * 0 + i)) = true := by decide +kernel
set_option maxRecDepth 100000 in
theorem deep_c31 : ((List.range 10).all fun i => deepOk 3 (10 * 1 + i)) = true := by decide +kernel
set_option maxRecDepth 100000 in
theorem deep_c32 : ((List.range 10).all fun i => deepOk 3 (10 * 2 + i)) = true := by decide +kernel
set_option maxRecDepth 100000 in
theorem deep_c33 : ((List.range 10).all fun i => deepOk 3 (10 * 3 + i)) = true := by decide +kernel
set_option maxRecDepth 100000 in
theorem deep_c34 : ((List.range 10).all fun i => deepOk 3 (10 * 4 + i)) = true := by decide +kernel
set_option maxRecDepth 100000 in
theorem deep_c35 : ((List.range 10).all fun i => deepOk 3 (10 * 5 + i)) = true := by decide +kernel
set_option maxRecDepth 100000 in
theorem deep_c36 : ((List.range 10).all fun i => deepOk 3 (10 * 6 + i)) = true := by decide +kernel
theorem deep_of {h j : Nat} (c : ((List.range 10).all fun i => deepOk h (10 * j + i)) = true) {k : Nat} (h1 : 10 * j ≤ k) (h2 : k < 10 * j + 10) : deepOk h k = true := by
  have := List.all_eq_true.1 c (k - 10 * j) (List.mem_range.2 (by omega))
  rwa [show 10 * j + (k - 10 * j) = k by omega] at this
theorem deep_all {h k : Nat} (hh : h < 4) (hk : k < 70) : deepOk h k = true := by
  have e1 : h = 0 ∨ h = 1 ∨ h = 2 ∨ h = 3 := by omega
  have e2 : (0 ≤ k ∧ k < 10) ∨ (10 ≤ k ∧ k < 20) ∨ (20 ≤ k ∧ k < 30) ∨ (30 ≤ k ∧ k < 40) ∨ (40 ≤ k ∧ k < 50) ∨ (50 ≤ k ∧ k < 60) ∨ (60 ≤ k ∧ k < 70) := by omega
  rcases e1 with rfl | rfl | rfl | rfl
  · rcases e2 with e | e | e | e | e | e | e
    · exact deep_of deep_c00 (by omega) (by omega)
    · exact deep_of deep_c01 (by omega) (by omega)
    · exact deep_of deep_c02 (by omega) (by omega)
    · exact deep_of deep_c03 (by omega) (by omega)
    · exact deep_of deep_c04 (by omega) (by omega)
    · exact deep_of deep_c05 (by omega) (by omega)
    · exact deep_of deep_c06 (by omega) (by omega)
  · rcases e2 with e | e | e | e | e | e | e
    · exact deep_of deep_c10 (by omega) (by omega)
    · exact deep_of deep_c11 (by omega) (by omega)
    · exact deep_of deep_c12 (by omega) (by omega)
    · exact deep_of deep_c13 (by omega) (by omega)
    · exact deep_of deep_c14 (by omega) (by omega)
    · exact deep_of deep_c15 (by omega) (by omega)
    · exact deep_of deep_c16 (by omega) (by omega)
  · rcases e2 with e | e | e | e | e | e | e
    · exact deep_of deep_c20 (by omega) (by omega)
    · exact deep_of deep_c21 (by omega) (by omega)
    · exact deep_of deep_c22 (by omega) (by omega)
    · exact deep_of deep_c23 (by omega) (by omega)
    · exact deep_of deep_c24 (by omega) (by omega)
    · exact deep_of deep_c25 (by omega) (by omega)
    · exact deep_of deep_c26 (by omega) (by omega)
  · rcases e2 with e | e | e | e | e | e | e
    · exact deep_of deep_c30 (by omega) (by omega)
    · exact deep_of deep_c31 (by omega) (by omega)
    · exact deep_of deep_c32 (by omega) (by omega)
    · exact deep_of deep_c33 (by omega) (by omega)
    · exact deep_of deep_c34 (by omega) (by omega)
    · exact deep_of deep_c35 (by omega) (by omega)
    · exact deep_of deep_c36 (by omega) (by omega)

end Go.Proofs.Ytccilgemfkdmkaa

namespace Go.Proofs.Ytccilgemfkdmkaa
open Go.RowKit Go.Maps
set_option linter.unusedVariables false
set_option linter.unusedSimpArgs false

def Ex.kind : Ex → Int
  | .mk k _ _ _ _ _ => k
theorem bd_head {S : Nat → Prop} {w : World} {b : Bd} {us : List Value} (h : IsV S w (bdC b) (.agg us.toArray)) : us[0]? = some (.string (strB b.s)) ∧ us[1]? = some (.int .i64 b.p) ∧ us[2]? = some (.int .i64 b.body.kind) := by
  obtain ⟨us', e, h⟩ := h
  obtain rfl := agg_inj e
  obtain ⟨s, p, x⟩ := b
  obtain ⟨k, q, t, n, kids, alts⟩ := x
  unfold bdC exC at h
  obtain ⟨u0, r0, rfl, l0⟩ := three_cons (n := 7) h.1
  obtain ⟨u1, r1, rfl, l1⟩ := three_cons (n := 6) l0
  obtain ⟨u2, r2, rfl, l2⟩ := three_cons (n := 5) l1
  obtain rfl := h.head.val
  obtain rfl := h.tail.head.val
  obtain rfl := h.tail.tail.head.val
  exact ⟨rfl, rfl, rfl⟩
theorem IsV.pg3 {S : Nat → Prop} {w : World} {v : Value} {p : Pg} (h : IsV S w (pgC p) v) : ∃ (a a' : Option Addr) (cp cp' : Nat), v = .agg #[.slice a p.datas.length cp, .slice a' p.binds.length cp'] ∧ p.datas.length ≤ cp ∧ p.binds.length ≤ cp' ∧ InC S w (.s p.datas.length 4 (p.datas.flatMap dtC)) (.slice a p.datas.length cp) ∧ InC S w (.s p.binds.length 8 (p.binds.flatMap bdC)) (.slice a' p.binds.length cp') := by
  obtain ⟨us, rfl, h⟩ := h
  unfold pgC at h
  obtain ⟨u0, r0, rfl, l0⟩ := three_cons (n := 1) h.1
  obtain ⟨u1, r1, rfl, l1⟩ := three_cons (n := 0) l0
  obtain rfl := List.eq_nil_of_length_eq_zero l1
  obtain ⟨a, cp, rfl, h1, _⟩ := h.head.slice
  obtain ⟨a', cp', rfl, h2, _⟩ := h.tail.head.slice
  exact ⟨a, a', cp, cp', rfl, h1, h2, h.head, h.tail.head⟩
/-- The two texts of the law's awake. -/
theorem awk_nil : parseL [] = ⟨⟨[], []⟩, 0, 0⟩ := by rfl
def awkT : By := [108, 101, 116, 32, 102, 32, 120, 32, 61, 32, 120, 59]
theorem awk_let : parseL awkT = ⟨⟨[], [⟨[102], 4, .mk 6 4 [120] 0 [.mk 1 10 [120] 0 [] []] []⟩]⟩, 0, 0⟩ := by rfl

set_option maxRecDepth 100000 in
set_option maxHeartbeats 4000000 in
theorem z_awake (w : World) : Calls Try.prog 9 #[] w fun e w' => e = .returned (.bool true) ∧ Below w.heap.size w w' := by
  have HA : Hid (∀ w, Calls Try.prog 11 #[.string ⟨#[]⟩] w fun e w' => ∃ v, e = .returned (.tuple #[v, .int .i64 0, .int .i64 0]) ∧ IsV (New w) w' (pgC ⟨[], []⟩) v ∧ Below w.heap.size w w') := fun w => z_Parse [] w (by decide) awk_nil
  have HB : Hid (∀ w, Calls Try.prog 11 #[.string ⟨#[108, 101, 116, 32, 102, 32, 120, 32, 61, 32, 120, 59]⟩] w fun e w' => ∃ v, e = .returned (.tuple #[v, .int .i64 0, .int .i64 0]) ∧ IsV (New w) w' (pgC ⟨[], [⟨[102], 4, .mk 6 4 [120] 0 [.mk 1 10 [120] 0 [] []] []⟩]⟩) v ∧ Below w.heap.size w w') := fun w => z_Parse awkT w (by decide) awk_let
  go_enter Try.func9, Try.ntmps9
  go_wp2_with fail
  go_at_call 11
  refine (HA.out _).mono ?_
  rintro e w1 ⟨v, rfl, hv, hb1⟩
  obtain ⟨a1, a2, c1, c2, rfl⟩ := hv.pg2
  dsimp only [List.length_nil]
  have HB1 := Lib.hid hb1
  clear hv hb1 HA
  go_wp2_with fail
  go_at_call 11
  refine (HB.out _).mono ?_
  rintro e w2 ⟨v, rfl, hv, hb2⟩
  obtain ⟨b1, b2, d1, d2, rfl, _, hd2, _, hk⟩ := hv.pg3
  dsimp only [List.length_nil, List.length_singleton] at hk hd2 ⊢
  obtain ⟨g, off, us, rfl, hg, hxv, hc⟩ := InC.elem bdC_len (l := [⟨[102], 4, .mk 6 4 [120] 0 [.mk 1 10 [120] 0 [] []] []⟩]) (i := 0) hk rfl
  obtain ⟨_, e1, e2⟩ := bd_head hxv
  have q1 := hc 1 _ e1
  have q2 := hc 2 _ e2
  dsimp only [Ex.kind] at q2
  rw [Nat.zero_mul, Nat.zero_add] at q1 q2
  have bx := (Box.new w1 28 [.slice a1 0 c1, .slice a2 0 c2]).below hb2
  obtain ⟨_, _, _, _⟩ := two_cells bx
  have hlt := bx.lt
  have hne : g ≠ w2.heap.size := by omega
  have h2 : Below w.heap.size w w2 := (HB1.out.alloc HB1.out.size _).trans (hb2.mono (by simp; exact Nat.le_trans HB1.out.size (Nat.le_succ _)))
  have H2 := Lib.hid h2
  clear hb2 bx hxv hc e1 e2 hv hk h2 HB
  go_wp2_with (go_at_call 12; refine (num_any _ _).mono ?_; rintro e w' ⟨rfl, hw⟩; have hw := hw.symm; subst hw)
  go_ret
  refine ⟨rfl, ?_⟩
  exact H2.out.alloc H2.out.size _

end Go.Proofs.Ytccilgemfkdmkaa
