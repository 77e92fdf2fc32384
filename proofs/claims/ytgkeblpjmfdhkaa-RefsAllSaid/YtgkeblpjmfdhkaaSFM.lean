/- What is read has texts of a million bytes at most, and no more parts than four times its tokens. No program. Scopes: what is wrong first in an expression, in a program. No program. Package scope: the map of what is bound, each with how often. What is free in an expression. No program. Package refs: the map of what was seen, each with how often. -/
import Derived.Test.YtgkeblpjmfdhkaaZIM
import Derived.Test.YtgkeblpjmfdhkaaDAM
import Derived.WideKeyEntry
namespace Go.Proofs.Ytgkeblpjmfdhkaa
set_option linter.unusedVariables false
set_option linter.unusedSectionVars false
set_option linter.unusedSimpArgs false

mutual
/-- Names are of a million bytes at most; what a name's function has is one. -/
def Ex.fit : Ex → Prop
  | .mk k p s n kids alts => s.length ≤ 1000000 ∧ (k = 6 → kids.length = 1) ∧ Ex.fits kids ∧ Al.fits alts
def Ex.fits : List Ex → Prop
  | [] => True
  | x :: r => x.fit ∧ Ex.fits r
def Al.fit : Al → Prop
  | .mk p s names b => s.length ≤ 1000000 ∧ names.length ≤ 1000000 ∧ (∀ t ∈ names, t.length ≤ 1000000) ∧ b.fit
def Al.fits : List Al → Prop
  | [] => True
  | x :: r => x.fit ∧ Al.fits r
end
mutual
/-- How many kids, alts, names there are within. -/
def Ex.nn : Ex → Nat
  | .mk k p s n kids alts => Ex.nns kids + Al.nns alts
def Ex.nns : List Ex → Nat
  | [] => 0
  | x :: r => 1 + x.nn + Ex.nns r
def Al.nn : Al → Nat
  | .mk p s names b => 1 + names.length + b.nn
def Al.nns : List Al → Nat
  | [] => 0
  | x :: r => x.nn + Al.nns r
end
theorem Ex.fits_iff : ∀ l : List Ex, Ex.fits l ↔ ∀ x ∈ l, x.fit
  | [] => by simp [Ex.fits]
  | x :: r => by simp [Ex.fits, Ex.fits_iff r]
theorem Al.fits_iff : ∀ l : List Al, Al.fits l ↔ ∀ x ∈ l, x.fit
  | [] => by simp [Al.fits]
  | x :: r => by simp [Al.fits, Al.fits_iff r]
theorem tysFit_iff : ∀ l : List Ty, tysFit l ↔ ∀ x ∈ l, tyFit x
  | [] => by simp [tysFit]
  | x :: r => by simp [tysFit, tysFit_iff r]
theorem Ex.nns_app : ∀ l m : List Ex, Ex.nns (l ++ m) = Ex.nns l + Ex.nns m
  | [], m => by simp [Ex.nns]
  | x :: r, m => by simp only [List.cons_append, Ex.nns, Ex.nns_app r m]; omega
theorem Al.nns_app : ∀ l m : List Al, Al.nns (l ++ m) = Al.nns l + Al.nns m
  | [], m => by simp [Al.nns]
  | x :: r, m => by simp only [List.cons_append, Al.nns, Al.nns_app r m]; omega

def TF (l : List Tk) : Prop := l.length ≤ 900000 ∧ ∀ t ∈ l, t.s.length ≤ 1000000
def Fits {A : Type} (G : A → Prop) (X : PS → A × PS) : Prop := ∀ σ, TF σ.ts → G (X σ).1 ∧ TF (X σ).2.ts
theorem TF.nil : TF [] := ⟨by simp, fun t h => by simp at h⟩
theorem TF.cons {t : Tk} {r : List Tk} (h : TF (t :: r)) : TF r := ⟨by have := h.1; simp at this; omega, fun x hx => h.2 x (by simp [hx])⟩
theorem tail_tf {σ : PS} (h : TF σ.ts) : TF σ.tail.ts := by
  show TF σ.ts.tail
  cases e : σ.ts with
  | nil => exact TF.nil
  | cons t r => rw [e] at h; exact h.cons
theorem stop_tf {En : Nat} {σ : PS} (h : TF σ.ts) : TF (σ.stop En).ts := by
  unfold PS.stop; split
  · exact h
  · exact TF.nil
theorem head_tf {σ : PS} (h : TF σ.ts) : σ.head.s.length ≤ 1000000 := by
  unfold PS.head
  cases e : σ.ts with
  | nil => simp [Tk.zero]
  | cons t r => rw [e] at h; exact h.2 t (by simp)
theorem take_tf {En : Nat} {σ : PS} {s : Srt} (h : TF σ.ts) : (σ.take En s).1.s.length ≤ 1000000 ∧ TF (σ.take En s).2.ts := by
  unfold PS.take; split
  · exact ⟨head_tf h, tail_tf h⟩
  · exact ⟨by simp [Tk.zero], stop_tf h⟩
theorem namesL_tf : ∀ l : List Tk, TF l → (∀ s ∈ (namesL l).1, s.length ≤ 1000000) ∧ TF (namesL l).2
  | [], h => by simp [namesL]; exact h
  | t :: r, h => by
    unfold namesL; split
    · obtain ⟨h1, h2⟩ := namesL_tf r h.cons
      refine ⟨fun s hs => ?_, h2⟩
      rcases List.mem_cons.1 hs with rfl | hs
      · exact h.2 t (by simp)
      · exact h1 s hs
    · exact ⟨fun s hs => by simp at hs, h⟩
theorem names_tf {σ : PS} (h : TF σ.ts) : (∀ s ∈ σ.names.1, s.length ≤ 1000000) ∧ TF σ.names.2.ts := namesL_tf _ h
theorem names_le {σ : PS} (h : TF σ.ts) : σ.names.1.length ≤ 900000 := by have := names_sum σ; have := h.1; omega
theorem rowsL_tf {A : Type} {G : A → Prop} {sep : Srt} {most : Nat} {one : PS → A × PS} (hg : Fits G one) : ∀ (f : Nat) (l : List A) (σ : PS), TF σ.ts → (∀ x ∈ l, G x) → (∀ x ∈ (rowsL sep most one f l σ).1, G x) ∧ TF (rowsL sep most one f l σ).2.ts
  | 0, l, σ, h, hl => ⟨hl, h⟩
  | f + 1, l, σ, h, hl => by
    unfold rowsL; split
    · obtain ⟨h1, h2⟩ := hg σ.tail (tail_tf h)
      refine rowsL_tf hg f _ _ h2 (fun x hx => ?_)
      rcases List.mem_append.1 hx with h3 | h3
      · exact hl x h3
      · obtain rfl := List.mem_singleton.1 h3; exact h1
    · exact ⟨hl, h⟩
theorem rowsF_tf {A : Type} {G : A → Prop} {sep : Srt} {most : Nat} {one : PS → A × PS} (hg : Fits G one) {σ : PS} (h : TF σ.ts) : (∀ x ∈ (rowsF sep most one σ).1, G x) ∧ TF (rowsF sep most one σ).2.ts := by
  obtain ⟨h1, h2⟩ := hg σ h
  exact rowsL_tf hg _ _ _ h2 (fun x hx => by obtain rfl := List.mem_singleton.1 hx; exact h1)
theorem bracketF_tf {A : Type} {G : A → Prop} {En : Nat} {one : PS → A × PS} (hg : Fits G one) {σ : PS} (h : TF σ.ts) : (∀ x ∈ (bracketF En one σ).1.1, G x) ∧ TF (bracketF En one σ).2.ts := by
  have h1 := (take_tf (En := En) (s := sS tLpar) h).2
  have h2 := rowsF_tf (sep := sS tComma) (most := maxTup) hg h1
  exact ⟨h2.1, (take_tf h2.2).2⟩
theorem bracketF_le {A : Type} {En : Nat} {one : PS → A × PS} (hd : Dec one) {σ : PS} (h : TF σ.ts) : (bracketF En one σ).1.1.length ≤ 1000000 := by
  have h1 := (take_tf (En := En) (s := sS tLpar) h).2
  have h2 := rowsF_count (sep := sS tComma) (most := maxTup) hd (by decide) (σ.take En (sS tLpar)).2
  have := h1.1
  show (rowsF (sS tComma) maxTup one (σ.take En (sS tLpar)).2).1.length ≤ _
  omega

theorem varTy_fit {vs : List By} {s : By} (h : s.length ≤ 1000000) : tyFit (varTy vs s) := by
  unfold varTy; split <;> simp [tyFit, tysFit, h]
theorem tupTy_fit {l : List Ty} (h : ∀ x ∈ l, tyFit x) (hl : l.length ≤ 1000000) : tyFit (tupTy l) := by
  unfold tupTy; split
  · exact h _ (List.mem_singleton.2 rfl)
  · simp only [tyFit]; exact ⟨by decide, hl, (tysFit_iff _).2 h⟩
section
variable {En : Nat} {vs : List By} {T : PS → Ty × PS} (hd : Dec T) (hg : Fits tyFit T)
include hd hg
theorem atomTypeF_fit : Fits tyFit (atomTypeF En vs T) := fun σ h => by
  have h1 := take_tf (En := En) (s := sName) h
  have h2 := take_tf (En := En) (s := sCon) h
  unfold atomTypeF
  split
  · exact ⟨varTy_fit h1.1, h1.2⟩
  · split
    · exact ⟨by simp only [tyFit, tysFit]; exact ⟨h2.1, by simp, trivial⟩, h2.2⟩
    · split
      · have h3 := bracketF_tf (En := En) hg h
        exact ⟨tupTy_fit h3.1 (bracketF_le hd h), h3.2⟩
      · exact ⟨by simp [Ty.zero, tyFit, tysFit], stop_tf h⟩
theorem atomTypesL_fit : ∀ (f : Nat) (l : List Ty) (σ : PS), TF σ.ts → (∀ x ∈ l, tyFit x) → (∀ x ∈ (atomTypesL En vs T f l σ).1, tyFit x) ∧ TF (atomTypesL En vs T f l σ).2.ts ∧ (atomTypesL En vs T f l σ).1.length ≤ l.length + f
  | 0, l, σ, h, hl => ⟨hl, h, Nat.le_refl _⟩
  | f + 1, l, σ, h, hl => by
    unfold atomTypesL; split
    · obtain ⟨h1, h2⟩ := atomTypeF_fit (En := En) (vs := vs) hd hg σ h
      obtain ⟨h3, h4, h5⟩ := atomTypesL_fit f (l ++ [(atomTypeF En vs T σ).1]) _ h2 (fun x hx => by
        rcases List.mem_append.1 hx with h3 | h3
        · exact hl x h3
        · obtain rfl := List.mem_singleton.1 h3; exact h1)
      exact ⟨h3, h4, by rw [List.length_append, List.length_singleton] at h5; omega⟩
    · exact ⟨hl, h, (by show l.length ≤ l.length + (f + 1); omega)⟩
theorem atomTypesF_fit {σ : PS} (h : TF σ.ts) : (∀ x ∈ (atomTypesF En vs T σ).1, tyFit x) ∧ TF (atomTypesF En vs T σ).2.ts ∧ (atomTypesF En vs T σ).1.length ≤ 1000000 := by
  obtain ⟨h1, h2, h3⟩ := atomTypesL_fit (En := En) (vs := vs) hd hg σ.ts.length [] σ h (fun x hx => by simp at hx)
  refine ⟨h1, h2, ?_⟩
  have := h.1
  simp at h3
  show (atomTypesL En vs T σ.ts.length [] σ).1.length ≤ _
  omega
theorem leftTypeF_fit : Fits tyFit (leftTypeF En vs T) := fun σ h => by
  have h1 := take_tf (En := En) (s := sCon) h
  unfold leftTypeF; split
  · obtain ⟨h2, h3, h4⟩ := atomTypesF_fit (En := En) (vs := vs) hd hg h1.2
    exact ⟨by simp only [tyFit]; exact ⟨h1.1, h4, (tysFit_iff _).2 h2⟩, h3⟩
  · exact atomTypeF_fit hd hg σ h
theorem typStep_fit : Fits tyFit (typStep En vs T) := fun σ h => by
  obtain ⟨h1, h2⟩ := leftTypeF_fit (En := En) (vs := vs) hd hg σ h
  unfold typStep; split
  · obtain ⟨h3, h4⟩ := hg _ (tail_tf h2)
    exact ⟨by simp only [tyFit, tysFit]; exact ⟨by decide, by simp, h1, h3, trivial⟩, h4⟩
  · exact ⟨h1, h2⟩
end
theorem typF_fit (En : Nat) (vs : List By) : ∀ n, Fits tyFit (typF En vs n)
  | 0 => fun σ h => ⟨by show tyFit Ty.zero; simp [Ty.zero, tyFit, tysFit], h⟩
  | n + 1 => typStep_fit (typF_len En vs n) (typF_fit En vs n)
def Cn.fit (c : Cn) : Prop := c.s.length ≤ 1000000 ∧ tysFit c.args ∧ c.args.length ≤ 1000000
def Dt.fit2 (d : Dt) : Prop := d.fit ∧ ∀ c ∈ d.cons, c.args.length ≤ 1000000
theorem conF_fit (En : Nat) (vs : List By) (n : Nat) : Fits Cn.fit (conF En vs n) := fun σ h => by
  have h1 := take_tf (En := En) (s := sCon) h
  obtain ⟨h2, h3, h4⟩ := atomTypesF_fit (En := En) (vs := vs) (typF_len En vs n) (typF_fit En vs n) h1.2
  exact ⟨⟨h1.1, (tysFit_iff _).2 h2, h4⟩, h3⟩

theorem Ex.zero_fit : Ex.zero.fit := by simp [Ex.zero, Ex.fit, Ex.fits, Al.fits]
theorem lams_fit {p : Int} {b : Ex} (hb : b.fit) : ∀ {names : List By}, (∀ s ∈ names, s.length ≤ 1000000) → (lams p names b).fit
  | [], _ => hb
  | s :: r, h => by
    show (Ex.mk 6 p s 0 [lams p r b] []).fit
    simp only [Ex.fit, Ex.fits, Al.fits]
    exact ⟨h s (by simp), fun _ => rfl, ⟨lams_fit hb fun t ht => h t (by simp [ht]), trivial⟩, trivial⟩
theorem leafE_fit {k : Nat} {t : Tk} (hk : k ≠ 6) (h : t.s.length ≤ 1000000) : (leafE k t).fit := by
  unfold leafE; split
  · simp only [Ex.fit, Ex.fits, Al.fits]; exact ⟨by simp, fun q => by simp at q, trivial, trivial⟩
  · simp only [Ex.fit, Ex.fits, Al.fits]; exact ⟨h, fun q => by exfalso; omega, trivial, trivial⟩
section
variable {En : Nat} {X : PS → Ex × PS} (hg : Fits Ex.fit X)
include hg
theorem lamF_fit : Fits Ex.fit (lamF En X) := fun σ h => by
  have h1 := take_tf (En := En) (s := sS tBack) h
  have h2 := take_tf (En := En) (s := sName) h1.2
  have h3 := names_tf h2.2
  have h4 := take_tf (En := En) (s := sS tArrow) h3.2
  have h5 := hg _ h4.2
  exact ⟨lams_fit h5.1 (fun s hs => by rcases List.mem_cons.1 hs with rfl | hs; exact h2.1; exact h3.1 s hs), h5.2⟩
theorem bindF_fit : Fits (fun b : Bd => b.s.length ≤ 1000000 ∧ b.body.fit) (bindF En X) := fun σ h => by
  have h2 := take_tf (En := En) (s := sName) h
  have h3 := names_tf h2.2
  have h4 := take_tf (En := En) (s := sS tEq) h3.2
  have h5 := hg _ h4.2
  exact ⟨⟨h2.1, lams_fit h5.1 h3.1⟩, h5.2⟩
theorem letF_fit : Fits Ex.fit (letF En X) := fun σ h => by
  have h1 := take_tf (En := En) (s := sW tLet) h
  have h2 := bindF_fit (En := En) hg _ h1.2
  have h3 := take_tf (En := En) (s := sW tIn) h2.2
  have h4 := hg _ h3.2
  refine ⟨?_, h4.2⟩
  simp only [letF, Ex.fit, Ex.fits, Al.fits]
  exact ⟨h2.1.1, fun q => by simp at q, ⟨h2.1.2, h4.1, trivial⟩, trivial⟩
theorem choiceF_fit : Fits Ex.fit (choiceF En X) := fun σ h => by
  have h1 := take_tf (En := En) (s := sW tIf) h
  have h2 := hg _ h1.2
  have h3 := take_tf (En := En) (s := sW tThen) h2.2
  have h4 := hg _ h3.2
  have h5 := take_tf (En := En) (s := sW tElse) h4.2
  have h6 := hg _ h5.2
  refine ⟨?_, h6.2⟩
  simp only [choiceF, Ex.fit, Ex.fits, Al.fits]
  exact ⟨by simp, fun q => by simp at q, ⟨h2.1, h4.1, h6.1, trivial⟩, trivial⟩
theorem altF_fit : Fits Al.fit (altF En X) := fun σ h => by
  have h1 := take_tf (En := En) (s := sCon) h
  have h2 := names_tf h1.2
  have h2l := names_le h1.2
  have h3 := take_tf (En := En) (s := sS tArrow) h2.2
  have h4 := hg _ h3.2
  refine ⟨?_, h4.2⟩
  simp only [altF, Al.fit]
  exact ⟨h1.1, by omega, h2.1, h4.1⟩
theorem casesF_fit : Fits Ex.fit (casesF En X) := fun σ h => by
  have h1 := take_tf (En := En) (s := sW tCase) h
  have h2 := hg _ h1.2
  have h3 := take_tf (En := En) (s := sW tOf) h2.2
  have h4 := take_tf (En := En) (s := sS tLcur) h3.2
  have h5 := rowsF_tf (sep := sS tSemi) (most := many) (altF_fit (En := En) hg) h4.2
  have h6 := take_tf (En := En) (s := sS tRcur) h5.2
  refine ⟨?_, h6.2⟩
  simp only [casesF, Ex.fit, Ex.fits]
  exact ⟨by simp, fun q => by simp at q, ⟨h2.1, trivial⟩, (Al.fits_iff _).2 h5.1⟩
theorem atomF_fit : Fits Ex.fit (atomF En X) := fun σ h => by
  unfold atomF; split
  · rename_i h1
    exact ⟨leafE_fit (fun q => by rw [q] at h1; exact absurd h1 (by decide)) (head_tf h), tail_tf h⟩
  · split
    · have h3 := bracketF_tf (En := En) hg h
      refine ⟨?_, h3.2⟩
      show (tupEx _ _).fit
      unfold tupEx; split
      · rename_i x e; exact h3.1 _ (by rw [e]; simp)
      · simp only [Ex.fit, Al.fits]
        exact ⟨by simp, fun q => by simp at q, (Ex.fits_iff _).2 h3.1, trivial⟩
    · exact ⟨Ex.zero_fit, stop_tf h⟩
theorem appL_fit : ∀ (f : Nat) (e : Ex) (σ : PS), TF σ.ts → e.fit → (appL En X f e σ).1.fit ∧ TF (appL En X f e σ).2.ts
  | 0, e, σ, h, he => ⟨he, h⟩
  | f + 1, e, σ, h, he => by
    unfold appL; split
    · obtain ⟨h1, h2⟩ := atomF_fit (En := En) hg σ h
      exact appL_fit f _ _ h2 (by simp only [Ex.fit, Ex.fits, Al.fits]; exact ⟨by simp, fun q => by simp at q, ⟨he, h1, trivial⟩, trivial⟩)
    · exact ⟨he, h⟩
theorem exprStep_fit : Fits Ex.fit (exprStep En X) := fun σ h => by
  unfold exprStep; split
  · exact lamF_fit hg σ h
  · split
    · exact letF_fit hg σ h
    · split
      · exact choiceF_fit hg σ h
      · split
        · exact casesF_fit hg σ h
        · obtain ⟨h1, h2⟩ := atomF_fit (En := En) hg σ h
          exact appL_fit hg _ _ _ h2 h1
end
theorem exprF_fit (En : Nat) : ∀ n, Fits Ex.fit (exprF En n)
  | 0 => fun σ h => ⟨Ex.zero_fit, h⟩
  | n + 1 => exprStep_fit (exprF_fit En n)

theorem dataF_fit (En n : Nat) : Fits Dt.fit2 (dataF En n) := fun σ h => by
  dsimp only [dataF]
  have h1 := (take_tf (En := En) (s := sW tData) h).2
  generalize (σ.take En (sW tData)).2 = σ1 at h1 ⊢
  have h2 := take_tf (En := En) (s := sCon) h1
  generalize σ1.take En sCon = B at h2 ⊢
  have h3 := names_tf h2.2
  have h3l := names_le h2.2
  generalize B.2.names = M at h3 h3l ⊢
  have h4 := (take_tf (En := En) (s := sS tEq) h3.2).2
  generalize (M.2.take En (sS tEq)).2 = σ4 at h4 ⊢
  have h5 := rowsF_tf (sep := sS tBar) (most := many) (conF_fit En M.1 n) h4
  generalize rowsF (sS tBar) many (conF En M.1 n) σ4 = r at h5 ⊢
  have h6 := take_tf (En := En) (s := sS tSemi) h5.2
  exact ⟨⟨⟨h2.1, (by show M.1.length ≤ _; omega), h3.1, fun c hc => ⟨(h5.1 c hc).1, (h5.1 c hc).2.1⟩⟩, fun c hc => (h5.1 c hc).2.2⟩, h6.2⟩
theorem topF_fit (En n : Nat) : Fits (fun b : Bd => b.s.length ≤ 1000000 ∧ b.body.fit) (topF En n) := fun σ h => by
  have h1 := take_tf (En := En) (s := sW tLet) h
  have h2 := bindF_fit (En := En) (exprF_fit En n) _ h1.2
  exact ⟨h2.1, (take_tf h2.2).2⟩
theorem programL_fit (En n : Nat) : ∀ (f : Nat) (p : Pg) (σ : PS), TF σ.ts → (∀ d ∈ p.datas, d.fit2) → (∀ b ∈ p.binds, b.s.length ≤ 1000000 ∧ b.body.fit) → (∀ d ∈ (programL En n f p σ).1.datas, d.fit2) ∧ (∀ b ∈ (programL En n f p σ).1.binds, b.s.length ≤ 1000000 ∧ b.body.fit)
  | 0, p, σ, h, hd, hb => ⟨hd, hb⟩
  | f + 1, p, σ, h, hd, hb => by
    unfold programL; split
    · exact ⟨hd, hb⟩
    · split
      · obtain ⟨h1, h2⟩ := dataF_fit En n σ h
        refine programL_fit En n f _ _ h2 (fun d hx => ?_) hb
        rcases List.mem_append.1 hx with h3 | h3
        · exact hd d h3
        · obtain rfl := List.mem_singleton.1 h3; exact h1
      · obtain ⟨h1, h2⟩ := topF_fit En n σ h
        refine programL_fit En n f _ _ h2 hd (fun b hx => ?_)
        rcases List.mem_append.1 hx with h3 | h3
        · exact hb b h3
        · obtain rfl := List.mem_singleton.1 h3; exact h1

def Few {A : Type} (m : A → Nat) (X : PS → A × PS) : Prop := ∀ σ, m (X σ).1 + 4 * (X σ).2.ts.length ≤ 4 * σ.ts.length
def sumOf {A : Type} (m : A → Nat) : List A → Nat
  | [] => 0
  | x :: r => m x + sumOf m r
theorem sumOf_app {A : Type} (m : A → Nat) : ∀ l k : List A, sumOf m (l ++ k) = sumOf m l + sumOf m k
  | [], k => by simp [sumOf]
  | x :: r, k => by simp only [List.cons_append, sumOf, sumOf_app m r k]; omega
theorem nns_sum : ∀ l : List Ex, Ex.nns l = sumOf (fun x => 1 + x.nn) l
  | [] => rfl
  | x :: r => by simp only [Ex.nns, sumOf, nns_sum r]
theorem nnsA_sum : ∀ l : List Al, Al.nns l = sumOf Al.nn l
  | [] => rfl
  | x :: r => by simp only [Al.nns, sumOf, nnsA_sum r]
theorem rowsL_few {A : Type} {m : A → Nat} {c : Nat} {sep : Srt} {most : Nat} {one : PS → A × PS} (hs : sep.k ≠ 0) (hc : c ≤ 4) (hf : ∀ σ, m (one σ).1 + 4 * (one σ).2.ts.length ≤ 4 * σ.ts.length + c) : ∀ (f : Nat) (l : List A) (σ : PS), sumOf m (rowsL sep most one f l σ).1 + 4 * (rowsL sep most one f l σ).2.ts.length ≤ sumOf m l + 4 * σ.ts.length
  | 0, l, σ => Nat.le_refl _
  | f + 1, l, σ => by
    unfold rowsL; split
    · rename_i h3
      have h1 := sees_pos h3.2 hs
      have h2 := hf σ.tail
      have h4 := rowsL_few (m := m) (sep := sep) (most := most) (one := one) hs hc hf f (l ++ [(one σ.tail).1]) (one σ.tail).2
      rw [tail_len] at h2
      rw [sumOf_app] at h4
      simp only [sumOf] at h4
      omega
    · exact Nat.le_refl _
theorem rowsF_few {A : Type} {m : A → Nat} {c : Nat} {sep : Srt} {most : Nat} {one : PS → A × PS} (hs : sep.k ≠ 0) (hc : c ≤ 4) (hf : ∀ σ, m (one σ).1 + 4 * (one σ).2.ts.length ≤ 4 * σ.ts.length + c) (σ : PS) : sumOf m (rowsF sep most one σ).1 + 4 * (rowsF sep most one σ).2.ts.length ≤ 4 * σ.ts.length + c := by
  have h1 := rowsL_few (m := m) (most := most) (one := one) hs hc hf (one σ).2.ts.length [(one σ).1] (one σ).2
  have h2 := hf σ
  simp only [sumOf] at h1
  unfold rowsF; omega
theorem lams_nn (p : Int) (b : Ex) : ∀ names : List By, (lams p names b).nn = names.length + b.nn
  | [] => by simp [lams]
  | s :: r => by
    show (Ex.mk 6 p s 0 [lams p r b] []).nn = _
    simp only [Ex.nn, Ex.nns, Al.nns, lams_nn p b r, List.length_cons]; omega
theorem leafE_nn (k : Nat) (t : Tk) : (leafE k t).nn = 0 := by
  unfold leafE; split <;> simp [Ex.nn, Ex.nns, Al.nns]
section
variable {En : Nat} {X : PS → Ex × PS} (hg : Few Ex.nn X)
include hg
theorem lamF_few {σ : PS} (hs : σ.sees (sS tBack) = true) : (lamF En X σ).1.nn + 4 * (lamF En X σ).2.ts.length ≤ 4 * σ.ts.length := by
  have h1 := take_lt (En := En) hs (by decide)
  have h2 := take_len En (σ.take En (sS tBack)).2 sName
  have h3 := names_sum ((σ.take En (sS tBack)).2.take En sName).2
  have h4 := take_len En ((σ.take En (sS tBack)).2.take En sName).2.names.2 (sS tArrow)
  have h5 := hg (((σ.take En (sS tBack)).2.take En sName).2.names.2.take En (sS tArrow)).2
  simp only [lamF]
  rw [lams_nn, List.length_cons]
  omega
theorem bindF_few (σ : PS) : (bindF En X σ).1.body.nn + 4 * (bindF En X σ).2.ts.length ≤ 4 * σ.ts.length := by
  have h2 := take_len En σ sName
  have h3 := names_sum (σ.take En sName).2
  have h4 := take_len En (σ.take En sName).2.names.2 (sS tEq)
  have h5 := hg ((σ.take En sName).2.names.2.take En (sS tEq)).2
  simp only [bindF]
  rw [lams_nn]
  omega
theorem letF_few {σ : PS} (hs : σ.sees (sW tLet) = true) : (letF En X σ).1.nn + 4 * (letF En X σ).2.ts.length ≤ 4 * σ.ts.length := by
  have h1 := take_lt (En := En) hs (by decide)
  have h2 := bindF_few (En := En) hg (σ.take En (sW tLet)).2
  have h3 := take_len En (bindF En X (σ.take En (sW tLet)).2).2 (sW tIn)
  have h4 := hg ((bindF En X (σ.take En (sW tLet)).2).2.take En (sW tIn)).2
  simp only [letF, Ex.nn, Ex.nns, Al.nns]
  omega
theorem choiceF_few {σ : PS} (hs : σ.sees (sW tIf) = true) : (choiceF En X σ).1.nn + 4 * (choiceF En X σ).2.ts.length ≤ 4 * σ.ts.length := by
  have h1 := take_lt (En := En) hs (by decide)
  have h2 := hg (σ.take En (sW tIf)).2
  have h3 := take_len En (X (σ.take En (sW tIf)).2).2 (sW tThen)
  have h4 := hg ((X (σ.take En (sW tIf)).2).2.take En (sW tThen)).2
  have h5 := take_len En (X ((X (σ.take En (sW tIf)).2).2.take En (sW tThen)).2).2 (sW tElse)
  have h6 := hg ((X ((X (σ.take En (sW tIf)).2).2.take En (sW tThen)).2).2.take En (sW tElse)).2
  simp only [choiceF, Ex.nn, Ex.nns, Al.nns]
  omega
theorem altF_few (σ : PS) : (altF En X σ).1.nn + 4 * (altF En X σ).2.ts.length ≤ 4 * σ.ts.length + 1 := by
  have h1 := take_len En σ sCon
  have h3 := names_sum (σ.take En sCon).2
  have h4 := take_len En (σ.take En sCon).2.names.2 (sS tArrow)
  have h5 := hg ((σ.take En sCon).2.names.2.take En (sS tArrow)).2
  simp only [altF, Al.nn]
  omega
theorem casesF_few {σ : PS} (hs : σ.sees (sW tCase) = true) : (casesF En X σ).1.nn + 4 * (casesF En X σ).2.ts.length ≤ 4 * σ.ts.length := by
  have h1 := take_lt (En := En) hs (by decide)
  have h2 := hg (σ.take En (sW tCase)).2
  have h3 := take_len En (X (σ.take En (sW tCase)).2).2 (sW tOf)
  have h4 := take_len En ((X (σ.take En (sW tCase)).2).2.take En (sW tOf)).2 (sS tLcur)
  have h5 := rowsF_few (m := Al.nn) (sep := sS tSemi) (most := many) (by decide) (by decide) (altF_few (En := En) hg) (((X (σ.take En (sW tCase)).2).2.take En (sW tOf)).2.take En (sS tLcur)).2
  have h6 := take_len En (rowsF (sS tSemi) many (altF En X) (((X (σ.take En (sW tCase)).2).2.take En (sW tOf)).2.take En (sS tLcur)).2).2 (sS tRcur)
  simp only [casesF, Ex.nn, Ex.nns]
  rw [nnsA_sum]
  omega
theorem tupleF_few {σ : PS} (hs : σ.sees (sS tLpar) = true) : (tupleF En X σ).1.nn + 4 * (tupleF En X σ).2.ts.length + 3 ≤ 4 * σ.ts.length := by
  have h1 := take_lt (En := En) hs (by decide)
  have h5 := rowsF_few (m := fun x : Ex => 1 + x.nn) (sep := sS tComma) (most := maxTup) (one := X) (c := 1) (by decide) (by decide) (fun σ => by have := hg σ; omega) (σ.take En (sS tLpar)).2
  have h6 := take_len En (rowsF (sS tComma) maxTup X (σ.take En (sS tLpar)).2).2 (sS tRpar)
  show (tupEx (σ.take En (sS tLpar)).1.p (rowsF (sS tComma) maxTup X (σ.take En (sS tLpar)).2).1).nn + 4 * ((rowsF (sS tComma) maxTup X (σ.take En (sS tLpar)).2).2.take En (sS tRpar)).2.ts.length + 3 ≤ _
  have h7 : (tupEx (σ.take En (sS tLpar)).1.p (rowsF (sS tComma) maxTup X (σ.take En (sS tLpar)).2).1).nn ≤ sumOf (fun x : Ex => 1 + x.nn) (rowsF (sS tComma) maxTup X (σ.take En (sS tLpar)).2).1 := by
    unfold tupEx; split
    · rename_i x e; rw [e]; simp only [sumOf]; omega
    · simp only [Ex.nn, Al.nns]; rw [nns_sum]; omega
  omega
theorem atomF_few (σ : PS) : (atomF En X σ).1.nn + 4 * (atomF En X σ).2.ts.length ≤ 4 * σ.ts.length := by
  unfold atomF; split
  · rw [leafE_nn]
    have := tail_len σ
    show 0 + 4 * σ.tail.ts.length ≤ _
    omega
  · split
    · rename_i h1 h2
      have := tupleF_few (En := En) hg (σ := σ) (sees_of ((beg_sees h2).2.2.1 rfl))
      omega
    · have := stop_len En σ
      show Ex.zero.nn + 4 * (σ.stop En).ts.length ≤ _
      simp only [Ex.zero, Ex.nn, Ex.nns, Al.nns]; omega
theorem atomF_few' {σ : PS} (hs : σ.seesAtom = true) : (atomF En X σ).1.nn + 4 * (atomF En X σ).2.ts.length + 3 ≤ 4 * σ.ts.length := by
  unfold atomF; split
  · rename_i h1
    have h2 : 0 < σ.ts.length := beg_pos (fun e => by rw [e] at h1; exact absurd h1 (by decide))
    rw [leafE_nn]
    have := tail_len σ
    show 0 + 4 * σ.tail.ts.length + 3 ≤ _
    omega
  · split
    · rename_i h1 h2
      exact tupleF_few (En := En) hg (σ := σ) (sees_of ((beg_sees h2).2.2.1 rfl))
    · rename_i h1 h2
      simp [PS.seesAtom, h1, h2] at hs
theorem appL_few : ∀ (f : Nat) (e : Ex) (σ : PS), (appL En X f e σ).1.nn + 4 * (appL En X f e σ).2.ts.length ≤ e.nn + 4 * σ.ts.length
  | 0, e, σ => Nat.le_refl _
  | f + 1, e, σ => by
    unfold appL; split
    · rename_i hs
      have h1 := atomF_few' (En := En) hg hs
      have h2 := appL_few f (.mk 5 e.at [] 0 [e, (atomF En X σ).1] []) (atomF En X σ).2
      simp only [Ex.nn, Ex.nns, Al.nns] at h2
      omega
    · exact Nat.le_refl _
theorem exprStep_few : Few Ex.nn (exprStep En X) := fun σ => by
  unfold exprStep; split
  · rename_i h; exact lamF_few hg (sees_of ((beg_sees h).1 rfl))
  · split
    · rename_i _ h; exact letF_few hg (sees_of ((beg_sees h).2.1 rfl))
    · split
      · rename_i _ _ h; exact choiceF_few hg (sees_of ((beg_sees h).2.2.2.1 rfl))
      · split
        · rename_i _ _ _ h; exact casesF_few hg (sees_of ((beg_sees h).2.2.2.2 rfl))
        · have h1 := atomF_few (En := En) hg σ
          have h2 := appL_few (En := En) hg (atomF En X σ).2.ts.length (atomF En X σ).1 (atomF En X σ).2
          show (appL En X (atomF En X σ).2.ts.length (atomF En X σ).1 (atomF En X σ).2).1.nn + 4 * (appL En X (atomF En X σ).2.ts.length (atomF En X σ).1 (atomF En X σ).2).2.ts.length ≤ _
          omega
end
theorem exprF_few (En : Nat) : ∀ n, Few Ex.nn (exprF En n)
  | 0 => fun σ => by show Ex.zero.nn + 4 * σ.ts.length ≤ _; simp [Ex.zero, Ex.nn, Ex.nns, Al.nns]
  | n + 1 => exprStep_few (exprF_few En n)
def bdN (b : Bd) : Nat := b.body.nn
theorem programL_few (En n : Nat) : ∀ (f : Nat) (p : Pg) (σ : PS), sumOf bdN (programL En n f p σ).1.binds ≤ sumOf bdN p.binds + 4 * σ.ts.length ∧ (programL En n f p σ).1.binds.length ≤ p.binds.length + f ∧ (programL En n f p σ).1.datas.length ≤ p.datas.length + f
  | 0, p, σ => ⟨Nat.le_add_right _ _, Nat.le_refl _, Nat.le_refl _⟩
  | f + 1, p, σ => by
    unfold programL; split
    · exact ⟨Nat.le_add_right _ _, (by show p.binds.length ≤ _; omega), (by show p.datas.length ≤ _; omega)⟩
    · split
      · rename_i hs
        obtain ⟨_, _, h1⟩ := dataF_ok En n hs
        obtain ⟨h2, h3, h4⟩ := programL_few En n f ⟨p.datas ++ [(dataF En n σ).1], p.binds⟩ (dataF En n σ).2
        rw [List.length_append, List.length_singleton] at h4
        dsimp only at h2 h3
        exact ⟨by omega, by omega, by omega⟩
      · obtain ⟨h2, h3, h4⟩ := programL_few En n f ⟨p.datas, p.binds ++ [(topF En n σ).1]⟩ (topF En n σ).2
        rw [List.length_append, List.length_singleton] at h3
        rw [sumOf_app] at h2
        have h5 := take_len En σ (sW tLet)
        have h6 := bindF_few (En := En) (exprF_few En n) (σ.take En (sW tLet)).2
        have h7 := take_len En (bindF En (exprF En n) (σ.take En (sW tLet)).2).2 (sS tSemi)
        have h8 : bdN (topF En n σ).1 + 4 * (topF En n σ).2.ts.length ≤ 4 * σ.ts.length := by
          show (bindF En (exprF En n) (σ.take En (sW tLet)).2).1.body.nn + 4 * ((bindF En (exprF En n) (σ.take En (sW tLet)).2).2.take En (sS tSemi)).2.ts.length ≤ _
          omega
        simp only [sumOf] at h2
        dsimp only at h2 h4
        exact ⟨by omega, by omega, by omega⟩
/-- What a program that was read is bounded by. -/
structure PFit (N : Nat) (p : Pg) : Prop where
  datas : ∀ d ∈ p.datas, d.fit
  args : ∀ d ∈ p.datas, ∀ c ∈ d.cons, c.args.length ≤ 1000000
  binds : ∀ b ∈ p.binds, b.s.length ≤ 1000000 ∧ b.body.fit
  nn : sumOf bdN p.binds ≤ 4 * N
  nb : p.binds.length ≤ N
  nd : p.datas.length ≤ N
  nc : (p.datas.flatMap Dt.cons).length ≤ N
theorem programF_fit (En n : Nat) (σ : PS) (h : TF σ.ts) : PFit σ.ts.length (programF En n σ).1 := by
  obtain ⟨h1, h2⟩ := programL_fit En n σ.ts.length ⟨[], []⟩ σ h (fun d hd => by simp at hd) (fun d hd => by simp at hd)
  obtain ⟨h3, h4, h5⟩ := programL_few En n σ.ts.length ⟨[], []⟩ σ
  simp only [sumOf, List.length_nil] at h3 h4 h5
  exact ⟨fun d hd => (h1 d hd).1, fun d hd => (h1 d hd).2, h2, by show sumOf bdN (programL En n σ.ts.length ⟨[], []⟩ σ).1.binds ≤ _; omega, by show (programL En n σ.ts.length ⟨[], []⟩ σ).1.binds.length ≤ _; omega, by show (programL En n σ.ts.length ⟨[], []⟩ σ).1.datas.length ≤ _; omega, (programF_ok En n σ).2.2.1⟩
theorem PFit.empty (N : Nat) : PFit N ⟨[], []⟩ := ⟨fun d hd => by simp at hd, fun d hd => by simp at hd, fun d hd => by simp at hd, Nat.zero_le _, Nat.zero_le _, Nat.zero_le _, by simp⟩

end Go.Proofs.Ytgkeblpjmfdhkaa

namespace Go.Proofs.Ytgkeblpjmfdhkaa
set_option linter.unusedVariables false
set_option linter.unusedSimpArgs false

/-- The names that an expression binds in its kid i. -/
def bindsIn (k : Int) (s : By) (i : Nat) : List By := if (k = 6 ∧ i = 0) ∨ (k = 7 ∧ i = 1) then [s] else []
def BdEq (a b : List By) : Prop := ∀ s, s ∈ a ↔ s ∈ b
theorem BdEq.refl (a : List By) : BdEq a a := fun s => Iff.rfl
theorem BdEq.app {a b : List By} (h : BdEq a b) (l : List By) : BdEq (l ++ a) (l ++ b) := fun s => by
  have := h s
  simp [List.mem_append, this]
theorem Ex.nns_drop : ∀ {l : List Ex} {i : Nat} {x : Ex}, l[i]? = some x → Ex.nns (l.drop i) = 1 + x.nn + Ex.nns (l.drop (i + 1))
  | x :: r, 0, y, h => by simp at h; subst h; simp only [List.drop_zero, List.drop_succ_cons, Ex.nns]
  | x :: r, i + 1, y, h => by have := Ex.nns_drop (l := r) (i := i) (x := y) (by simpa using h); simpa using this
  | [], _, _, h => by simp at h
theorem Al.nns_drop : ∀ {l : List Al} {i : Nat} {x : Al}, l[i]? = some x → Al.nns (l.drop i) = x.nn + Al.nns (l.drop (i + 1))
  | x :: r, 0, y, h => by simp at h; subst h; simp only [List.drop_zero, List.drop_succ_cons, Al.nns]
  | x :: r, i + 1, y, h => by have := Al.nns_drop (l := r) (i := i) (x := y) (by simpa using h); simpa using this
  | [], _, _, h => by simp at h
theorem Ex.nns_mem {l : List Ex} {x : Ex} (h : x ∈ l) : x.nn < Ex.nns l := by
  obtain ⟨i, hi, rfl⟩ := List.mem_iff_getElem.1 h
  have := Ex.nns_drop (l := l) (i := i) (x := l[i]) (List.getElem?_eq_getElem hi)
  have h2 : Ex.nns (l.drop i) ≤ Ex.nns l := by
    have := Ex.nns_app (l.take i) (l.drop i)
    rw [List.take_append_drop] at this; omega
  omega
theorem Al.nns_mem {l : List Al} {x : Al} (h : x ∈ l) : x.nn ≤ Al.nns l := by
  obtain ⟨i, hi, rfl⟩ := List.mem_iff_getElem.1 h
  have := Al.nns_drop (l := l) (i := i) (x := l[i]) (List.getElem?_eq_getElem hi)
  have h2 : Al.nns (l.drop i) ≤ Al.nns l := by
    have := Al.nns_app (l.take i) (l.drop i)
    rw [List.take_append_drop] at this; omega
  omega

end Go.Proofs.Ytgkeblpjmfdhkaa

namespace Go.Proofs.Ytgkeblpjmfdhkaa
open Go.RowKit Go.Maps
open Go.WideMaps (KeyLaw)
open Go.ChangeMaps (setBlock)
set_option linter.unusedVariables false
set_option linter.unusedSimpArgs false

theorem setBlock_self {w : World} {r : Nat} {o : Obj} (h : w.heap[r]? = some o) : setBlock w r o = w := by
  unfold setBlock
  have : w.heap.setIfInBounds r o = w.heap := by
    apply Array.ext'
    simp only [Array.toList_setIfInBounds]
    apply List.ext_getElem?
    intro j
    rw [List.getElem?_set]
    split
    · next e =>
      subst e
      have h2 : w.heap.toList[r]? = some o := by simpa using h
      have h3 : r < w.heap.toList.length := (List.getElem?_eq_some_iff.1 h2).1
      rw [if_pos h3, h2]
    · rfl
  rw [this]
theorem grown_block {w : World} {b : Nat} {es es' : Array MapEntry} {c c' : Nat} (hb : w.heap[b]? = some (.map es c)) : w.grownBy (setBlock w b (.map es' c')) (some b) := ⟨rfl, rfl, rfl, by simp [setBlock], fun i _ hi => ChangeMaps.heap_setBlock_other hb _ (fun e => hi (by rw [e]))⟩
end Go.Proofs.Ytgkeblpjmfdhkaa

namespace Go.Proofs.Ytgkeblpjmfdhkaa
set_option linter.unusedVariables false
set_option linter.unusedSimpArgs false

mutual
/-- The names that are used in an expression and not bound around, each time. -/
def Ex.occ (bd : List By) : Ex → List By
  | .mk k p s n kids alts => (if k = 1 ∧ s ∉ bd then [s] else []) ++ (Ex.occs bd k s 0 kids ++ Al.occs bd alts)
def Ex.occs (bd : List By) (k : Int) (s : By) (i : Nat) : List Ex → List By
  | [] => []
  | x :: r => Ex.occ (bindsIn k s i ++ bd) x ++ Ex.occs bd k s (i + 1) r
def Al.occs (bd : List By) : List Al → List By
  | [] => []
  | .mk p s names b :: r => Ex.occ (names ++ bd) b ++ Al.occs bd r
end
/-- A list, and behind it what of another is new. -/
def addAll (out l : List By) : List By := l.foldl (fun o s => if s ∈ o then o else o ++ [s]) out
theorem addAll_nil (out : List By) : addAll out [] = out := rfl
theorem addAll_app (out l m : List By) : addAll out (l ++ m) = addAll (addAll out l) m := List.foldl_append
theorem addAll_one (out : List By) (s : By) : addAll out [s] = if s ∈ out then out else out ++ [s] := rfl
theorem addAll_cons (out : List By) (s : By) (l : List By) : addAll out (s :: l) = addAll (if s ∈ out then out else out ++ [s]) l := rfl
def freeL (x : Ex) : List By := addAll [] (x.occ [])

mutual
theorem Ex.occ_eq : ∀ (x : Ex) {a b : List By}, BdEq a b → x.occ a = x.occ b
  | .mk k p s n kids alts, a, b, h => by
    simp only [Ex.occ]
    rw [Ex.occs_eq kids k s 0 h, Al.occs_eq alts h]
    have : (k = 1 ∧ s ∉ a) ↔ (k = 1 ∧ s ∉ b) := by rw [h s]
    simp only [this]
theorem Ex.occs_eq : ∀ (l : List Ex) (k : Int) (s : By) (i : Nat) {a b : List By}, BdEq a b → Ex.occs a k s i l = Ex.occs b k s i l
  | [], k, s, i, a, b, h => by simp only [Ex.occs]
  | x :: r, k, s, i, a, b, h => by
    simp only [Ex.occs]
    rw [Ex.occ_eq x (h.app _), Ex.occs_eq r k s (i + 1) h]
theorem Al.occs_eq : ∀ (l : List Al) {a b : List By}, BdEq a b → Al.occs a l = Al.occs b l
  | [], a, b, h => by simp only [Al.occs]
  | .mk p s names bo :: r, a, b, h => by
    simp only [Al.occs]
    rw [Ex.occ_eq bo (h.app _), Al.occs_eq r h]
end
mutual
theorem Ex.occ_more (N : List By) : ∀ (x : Ex) (bd : List By), x.occ (bd ++ N) = (x.occ bd).filter (fun s => decide (s ∉ N))
  | .mk k p s n kids alts, bd => by
    simp only [Ex.occ]
    rw [Ex.occs_more N kids k s 0 bd, Al.occs_more N alts bd, List.filter_append, List.filter_append]
    congr 1
    by_cases hk : k = 1
    · by_cases h1 : s ∈ bd
      · simp [hk, h1]
      · by_cases h2 : s ∈ N
        · simp [hk, h1, h2]
        · simp [hk, h1, h2]
    · simp [hk]
theorem Ex.occs_more (N : List By) : ∀ (l : List Ex) (k : Int) (s : By) (i : Nat) (bd : List By), Ex.occs (bd ++ N) k s i l = (Ex.occs bd k s i l).filter (fun s => decide (s ∉ N))
  | [], k, s, i, bd => by simp only [Ex.occs]; rfl
  | x :: r, k, s, i, bd => by
    simp only [Ex.occs]
    rw [← List.append_assoc, Ex.occ_more N x, Ex.occs_more N r, List.filter_append]
theorem Al.occs_more (N : List By) : ∀ (l : List Al) (bd : List By), Al.occs (bd ++ N) l = (Al.occs bd l).filter (fun s => decide (s ∉ N))
  | [], bd => by simp only [Al.occs]; rfl
  | .mk p s names bo :: r, bd => by
    simp only [Al.occs]
    rw [← List.append_assoc, Ex.occ_more N bo, Al.occs_more N r, List.filter_append]
end
theorem addAll_mem {x : By} : ∀ (l out : List By), x ∈ addAll out l ↔ x ∈ out ∨ x ∈ l
  | [], out => by simp [addAll_nil]
  | s :: r, out => by
    rw [addAll_cons, addAll_mem r]
    split
    · next h => simp only [List.mem_cons]; constructor
                · rintro (h1 | h1); exact .inl h1; exact .inr (.inr h1)
                · rintro (h1 | rfl | h1); exact .inl h1; exact .inl h; exact .inr h1
    · simp only [List.mem_append, List.mem_cons, List.mem_nil_iff, or_false]
      constructor
      · rintro ((h1 | h1) | h1); exact .inl h1; exact .inr (.inl h1); exact .inr (.inr h1)
      · rintro (h1 | h1 | h1); exact .inl (.inl h1); exact .inl (.inr h1); exact .inr h1
theorem addAll_nodup : ∀ (l out : List By), out.Nodup → (addAll out l).Nodup
  | [], out, h => h
  | s :: r, out, h => by
    rw [addAll_cons]
    refine addAll_nodup r _ ?_
    split
    · exact h
    · next hs => exact List.nodup_append.2 ⟨h, by simp, fun a ha b hb => by rw [List.mem_singleton.1 hb]; rintro rfl; exact hs ha⟩
theorem bdEq_comm (a b : List By) : BdEq (a ++ b) (b ++ a) := fun s => by simp [List.mem_append, or_comm]
theorem Ex.occs_next {bd : List By} {k : Int} {s : By} : ∀ {l : List Ex} {j i : Nat} {x : Ex}, l[i]? = some x → Ex.occs bd k s (j + i) (l.drop i) = x.occ (bindsIn k s (j + i) ++ bd) ++ Ex.occs bd k s (j + (i + 1)) (l.drop (i + 1))
  | x :: r, j, 0, y, h => by
    simp at h; subst h
    simp only [List.drop_zero, List.drop_succ_cons, Ex.occs]
  | x :: r, j, i + 1, y, h => by
    have := Ex.occs_next (bd := bd) (k := k) (s := s) (l := r) (j := j + 1) (i := i) (x := y) (by simpa using h)
    rw [show j + 1 + i = j + (i + 1) by omega, show j + 1 + (i + 1) = j + (i + 1 + 1) by omega] at this
    simpa using this
  | [], _, _, _, h => by simp at h
theorem Al.occs_next {bd : List By} : ∀ {l : List Al} {i : Nat} {p : Int} {s : By} {names : List By} {b : Ex}, l[i]? = some (.mk p s names b) → Al.occs bd (l.drop i) = b.occ (names ++ bd) ++ Al.occs bd (l.drop (i + 1))
  | x :: r, 0, p, s, names, b, h => by
    simp at h; subst h
    simp only [List.drop_zero, List.drop_succ_cons, Al.occs]
  | x :: r, i + 1, p, s, names, b, h => by
    have := Al.occs_next (bd := bd) (l := r) (i := i) (p := p) (s := s) (names := names) (b := b) (by simpa using h)
    simpa using this
  | [], _, _, _, _, _, h => by simp at h
mutual
theorem Ex.occ_len : ∀ (x : Ex) (bd : List By), (x.occ bd).length ≤ x.nn + 1
  | .mk k p s n kids alts, bd => by
    simp only [Ex.occ, Ex.nn]
    have h1 := Ex.occs_len kids bd k s 0
    have h2 := Al.occs_len alts bd
    rw [List.length_append, List.length_append]
    split <;> simp only [List.length_cons, List.length_nil] <;> omega
theorem Ex.occs_len : ∀ (l : List Ex) (bd : List By) (k : Int) (s : By) (i : Nat), (Ex.occs bd k s i l).length ≤ Ex.nns l
  | [], bd, k, s, i => by simp only [Ex.occs]; simp
  | x :: r, bd, k, s, i => by
    simp only [Ex.occs, Ex.nns]
    have h1 := Ex.occ_len x (bindsIn k s i ++ bd)
    have h2 := Ex.occs_len r bd k s (i + 1)
    rw [List.length_append]
    omega
theorem Al.occs_len : ∀ (l : List Al) (bd : List By), (Al.occs bd l).length ≤ Al.nns l
  | [], bd => by simp only [Al.occs]; simp
  | .mk p s names b :: r, bd => by
    simp only [Al.occs, Al.nns, Al.nn]
    have h1 := Ex.occ_len b (names ++ bd)
    have h2 := Al.occs_len r bd
    rw [List.length_append]
    omega
end
theorem addAll_len : ∀ (l out : List By), (addAll out l).length ≤ out.length + l.length
  | [], out => by simp [addAll_nil]
  | s :: r, out => by
    rw [addAll_cons]
    split
    · have := addAll_len r out; simp only [List.length_cons]; omega
    · have := addAll_len r (out ++ [s]); rw [List.length_append] at this; simp only [List.length_cons, List.length_nil] at this ⊢; omega

end Go.Proofs.Ytgkeblpjmfdhkaa

namespace Go.Proofs.Ytgkeblpjmfdhkaa
open Go.RowKit Go.Maps
open Go.WideMaps (KeyLaw)
open Go.ChangeMaps (setBlock)
set_option linter.unusedVariables false
set_option linter.unusedSimpArgs false

/-- What a name may be seen as. -/
structure RK where
  k : Nat
  s : By
deriving DecidableEq
def bdK (s : By) : RK := ⟨1, s⟩
def frK (s : By) : RK := ⟨2, s⟩
def atK (s : By) : RK := ⟨3, s⟩
def rkV (v : RK) : Value := .agg #[.int .i64 (v.k : Int), .string (strB v.s)]
def rkFit (v : RK) : Prop := v.k ≤ 3 ∧ v.s.length ≤ 1000000
theorem rkV_inj {a b : RK} (h : rkV a = rkV b) : a = b := by
  obtain ⟨k, s⟩ := a
  obtain ⟨k', s'⟩ := b
  unfold rkV at h
  simp at h
  obtain ⟨h1, h2⟩ := h
  simp only [RK.mk.injEq]
  exact ⟨by omega, strB_inj h2⟩
theorem Try.rkWide : (match Try.prog.underlying 184 with | some (.array _ _) | some (.struct _) => true | _ => false) = true := by kernel_rfl
theorem Try.rkDeep : Try.prog.keyTypeAt 2 184 = true := by kernel_rfl
theorem Try.rkCells : Try.prog.cellsOf 184 = 2 := by kernel_rfl
theorem Try.rkType : Try.prog.keyType 184 = true := by kernel_rfl
theorem Try.rkRow : (184 : TypeId) < Try.prog.types.size := of_decide_eq_true (by kernel_rfl)
set_option maxRecDepth 100000 in
theorem Try.rkLaw : KeyLaw Try.prog 184 := deep_law_laid Try.sortLaid (m := 2) (by omega) Try.rkRow Try.rkDeep Try.rkWide
theorem Try.rkKeyed : Keyed Try.prog 184 := Keyed.of_law Try.rkLaw
theorem rk_key {s : RK} (h : rkFit s) : ∃ l, keyOf Try.prog 184 (rkV s) = some l := by
  obtain ⟨m, hm⟩ := Try.typesPos2
  obtain ⟨h0, h1⟩ := h
  have hs2 : (strB s.s).size ≤ maxLen := by rw [strB_size]; unfold maxLen; omega
  unfold keyOf rkV
  simp only [Try.underlying184, Try.rkType]
  rw [hm]
  simp [Program.keyLits, Value.formed, Try.underlying184, Try.rkCells, Try.intCells, Try.strCells, Try.underlying3, Try.underlying9, Value.cells, fits_wf (x := (s.k : Int)) (by unfold fits; omega), hs2]

def QInv (l : List RK) (D : DataW Unit) : Prop := IsMap D ∧ ∀ (s : RK) (kl : Lit), rkFit s → keyOf Try.prog 184 (rkV s) = some kl → D.atKey kl (.lit (.int .i64 0)) = .lit (.int .i64 ((l.count s : Nat) : Int))
/-- Block b is a map that tells how often each stands in the list. -/
def QM (w : World) (b n : Nat) (l : List RK) : Prop := ∃ D, w.ownsMap Try.prog 184 (plainElem Try.prog 3) b n D ∧ QInv l D
theorem qinv_nil : QInv [] (.map []) := ⟨isMap_empty, fun s kl _ _ => by simp; rfl⟩
theorem qinv_put {l l' : List RK} {v : RK} {D : DataW Unit} (h : QInv l D) {kl : Lit} (hk : keyOf Try.prog 184 (rkV v) = some kl) (ho : ∀ s, s ≠ v → l'.count s = l.count s) : QInv l' (D.put kl (.lit (.int .i64 ((l'.count v : Nat) : Int)))) := by
  have hl := Try.rkKeyed.key hk
  refine ⟨h.1.put _ _, fun s kl' hs hk' => ?_⟩
  have h2 := h.2 s kl' hs hk'
  by_cases e : v = s
  · subst e
    rw [hk] at hk'
    obtain rfl := Option.some.inj hk'
    rw [atKey_put_same h.1 hl]
  · have hne : kl' ≠ kl := fun q => e (rkV_inj (Try.rkKeyed.inj hk (q ▸ hk')))
    rw [atKey_put_other hne, h2, ho s (fun q => e q.symm)]
theorem QM.agree {w w' : World} {b n : Nat} {l : List RK} (h : QM w b n l) (hb : w'.heap[b]? = w.heap[b]?) : QM w' b n l := by
  obtain ⟨D, h1, h2⟩ := h; exact ⟨D, ownsMap_agree h1 hb, h2⟩
theorem QM.lt {w : World} {b n : Nat} {l : List RK} (h : QM w b n l) : b < w.heap.size := by
  obtain ⟨D, h1, h2⟩ := h; exact ownsMap_lt h1
theorem QM.below {w w' : World} {b n : Nat} {l : List RK} (h : QM w b n l) (hb : Below w.heap.size w w') : QM w' b n l := h.agree (hb.block b h.lt)
theorem QM.perm {w : World} {b n : Nat} {l l' : List RK} (h : QM w b n l) (hp : ∀ s, l'.count s = l.count s) : QM w b n l' := by
  obtain ⟨D, h1, h2⟩ := h
  exact ⟨D, h1, h2.1, fun s kl hs hk => by rw [h2.2 s kl hs hk, hp s]⟩
theorem QM.made (w : World) : QM (w.alloc (.map #[] 0)) w.heap.size 0 [] := ⟨_, World.ownsMap_made _ _ _ _, by simpa using qinv_nil⟩
theorem QM.look {w : World} {b n : Nat} {l : List RK} (h : QM w b n l) (v : RK) (hv : rkFit v) :
    Sem.run Try.prog (Instr.lookup 135 (.map (some b)) (rkV v) false) w = .ok (.int .i64 ((l.count v : Nat) : Int)) w := by
  obtain ⟨D, hm, hi⟩ := h
  obtain ⟨kl, hkl⟩ := rk_key hv
  exact look_plain Try.rkKeyed Try.underlying135 Try.underlying3 (Try.zzeroInt _) hm hkl (hi.2 v kl hv hkl)
/-- How often v is bound is turned. -/
theorem QM.store {w : World} {b n : Nat} {l l' : List RK} (h : QM w b n l) (hn : n ≤ 10000000) (v : RK) (hv : rkFit v) (ho : ∀ s, s ≠ v → l'.count s = l.count s) (hl : l'.count v ≤ 100000000) {c : Int} (hc : ((l'.count v : Nat) : Int) = c) :
    ∃ w', Sem.run Try.prog (Instr.mapUpdate 135 (.map (some b)) (rkV v) (.int .i64 c)) w = .ok () w' ∧ QM w' b (n + 1) l' ∧ w.grownBy w' (some b) ∧ w'.heap.size = w.heap.size := by
  subst hc
  obtain ⟨D, hm, hi⟩ := h
  obtain ⟨kl, hkl⟩ := rk_key hv
  have hkw : (Lit.int .i64 ((l'.count v : Nat) : Int)).wf = true := WalkArith.wf_i64 (by omega)
  obtain ⟨w9, hrun9, hown9, hturn9⟩ := World.ownsMap.store hm Try.rkKeyed Try.underlying135 (show n < maxLen by unfold maxLen; omega) hkl (plainElem_int Try.underlying3 hkw)
  refine ⟨w9, hrun9, ⟨_, hown9, qinv_put hi hkl ho⟩, hturn9.grown, ?_⟩
  obtain ⟨_, _, _, _, _, rfl⟩ := hturn9
  simp [ChangeMaps.setBlock]

/-- 'm[k] op= x': the entry is looked for (and made, if there is none), and stored to later. -/
theorem QM.entry {w : World} {b n : Nat} {l : List RK} (h : QM w b n l) (hn : n ≤ 9000000) (v : RK) (hv : rkFit v) :
    ∃ (v0 : Value) (st : Nat) (w1 : World), Sem.run Try.prog (Instr.mapEntry 135 (.map (some b)) (rkV v)) w = .ok (.tuple #[v0, goInt st]) w1 ∧ QM w1 b (n + 1) l ∧ w.grownBy w1 (some b) ∧ w1.heap.size = w.heap.size ∧
      ∀ (l' : List RK) (c : Int), (∀ s, s ≠ v → l'.count s = l.count s) → l'.count v ≤ 100000000 → ((l'.count v : Nat) : Int) = c → ∃ w3, Sem.run Try.prog (Instr.entryStore 135 (.map (some b)) (goInt st) (.int .i64 c)) w1 = .ok () w3 ∧ QM w3 b (n + 1) l' ∧ w1.grownBy w3 (some b) ∧ w3.heap.size = w1.heap.size := by
  have h0 := h
  obtain ⟨D, hm, hi⟩ := h
  obtain ⟨kl, hkl⟩ := rk_key hv
  have hm0 := hm
  obtain ⟨es, clock, hb, F, hs, hD⟩ := hm
  obtain ⟨v0, st, es1, clock1, hrun, _, hst⟩ := WideElems.entry_then_store Try.rkLaw Try.underlying135 (fun u => Try.zzeroInt u) hb F hkl
  refine ⟨v0, st, setBlock w b (.map es1 clock1), hrun, ?_, grown_block hb, by simp [setBlock], ?_⟩
  · rcases Try.rkLaw.find w hkl es.toList F.keys with ⟨h1, h2⟩ | ⟨j, e0, h1, h2, h3⟩
    · have hc0 : l.count v = 0 := by
        have e1 := h0.look v hv
        have e2 : Sem.run Try.prog (Instr.lookup 135 (.map (some b)) (rkV v) false) w = .ok (.int .i64 0) w := by
          simp [Instr.lookup, run_underlying Try.underlying135, MapKept.run_getObj_map hb, Try.rkLaw.check w _ hkl, h1, Try.zzeroInt, Result.andThen]
        rw [e1] at e2
        simpa using e2
      have e3 : Sem.run Try.prog (Instr.mapEntry 135 (.map (some b)) (rkV v)) w = .ok (.tuple #[.int .i64 0, goInt clock]) (setBlock w b (.map (es.push ⟨rkV v, .int .i64 0, clock⟩) (clock + 1))) := by
        simp [Instr.mapEntry, run_underlying Try.underlying135, MapKept.run_getObj_map hb, Try.rkLaw.check w false hkl, h1, Try.zzeroInt, MapKept.run_setObj_map _ hb, Result.andThen, setBlock]
      have e4 : Sem.run Try.prog (Instr.mapUpdate 135 (.map (some b)) (rkV v) (.int .i64 0)) w = .ok () (setBlock w b (.map (es.push ⟨rkV v, .int .i64 0, clock⟩) (clock + 1))) := by
        simp [Instr.mapUpdate, run_underlying Try.underlying135, MapKept.run_getObj_map hb, Try.rkLaw.check w false hkl, h1, MapKept.run_setObj_map _ hb, Result.andThen, setBlock]
      obtain ⟨w9, h5, h6, _, _⟩ := h0.store (l' := l) (by omega) v hv (fun s _ => rfl) (by omega) (c := 0) (by rw [hc0]; rfl)
      rw [hrun] at e3
      rw [e4] at h5
      have e5 : setBlock w b (.map es1 clock1) = setBlock w b (.map (es.push ⟨rkV v, .int .i64 0, clock⟩) (clock + 1)) := by
        injection e3
      have e6 : setBlock w b (.map (es.push ⟨rkV v, .int .i64 0, clock⟩) (clock + 1)) = w9 := by
        injection h5
      rw [e5, e6]
      exact h6
    · have hj : es[j]? = some e0 := by simpa using h2
      have hsame : es.modify j (fun e => { e with key := rkV v }) = es := by
        apply Array.ext'
        rw [Array.toList_modify, ChangeMaps.modify_eq_set _ _ _ _ h2]
        have : ({ e0 with key := rkV v } : MapEntry) = e0 := by rw [← h3]
        rw [this]
        exact WideElems.set_self _ _ _ h2
      have e3 : Sem.run Try.prog (Instr.mapEntry 135 (.map (some b)) (rkV v)) w = .ok (.tuple #[e0.val, goInt e0.born]) (setBlock w b (.map es clock)) := by
        simp [Instr.mapEntry, run_underlying Try.underlying135, MapKept.run_getObj_map hb, Try.rkLaw.check w false hkl, h1, hj, h3, Try.rkLaw.stays w hkl, hsame, MapKept.run_setObj_map _ hb, Result.andThen, setBlock]
      rw [hrun] at e3
      have e5 : setBlock w b (.map es1 clock1) = setBlock w b (.map es clock) := by
        injection e3
      rw [e5, setBlock_self hb]
      exact ⟨D, ⟨es, clock, hb, F, by omega, hD⟩, hi⟩
  · intro l' c ho hl hc
    obtain ⟨es', clock', h1, h2⟩ := hst (setBlock w b (.map es1 clock1)) (.int .i64 c) (ChangeMaps.heap_setBlock_same hb _)
    obtain ⟨w9, h5, h6, _, _⟩ := h0.store (l' := l') (by omega) v hv ho hl hc
    rw [h2] at h5
    have e6 : setBlock w b (.map es' clock') = w9 := by
      injection h5
    have hbb : (setBlock w b (.map es1 clock1)).heap[b]? = some (.map es1 clock1) := ChangeMaps.heap_setBlock_same hb _
    refine ⟨_, h1, h6.agree ?_, grown_block hbb, by simp [setBlock]⟩
    rw [← e6, ChangeMaps.heap_setBlock_same hbb, ChangeMaps.heap_setBlock_same hb]

def fnL (bd out : List By) : List RK := bd.map bdK ++ out.map frK
theorem fnL_perm {a b out : List By} (h : a.Perm b) (s : RK) : (fnL a out).count s = (fnL b out).count s := ((h.map bdK).append_right _).count_eq s
theorem bdK_fit {s : By} (h : s.length ≤ 1000000) : rkFit (bdK s) := ⟨by show 1 ≤ 3; omega, h⟩
theorem frK_fit {s : By} (h : s.length ≤ 1000000) : rkFit (frK s) := ⟨by show 2 ≤ 3; omega, h⟩
theorem count_mapI {α β : Type} [BEq α] [LawfulBEq α] [BEq β] [LawfulBEq β] (f : α → β) (hf : ∀ a b, f a = f b → a = b) (s : α) : ∀ l : List α, (l.map f).count (f s) = l.count s
  | [] => rfl
  | x :: r => by
    rw [List.map_cons]
    by_cases h : x = s
    · subst h; rw [List.count_cons_self, List.count_cons_self, count_mapI f hf]
    · rw [List.count_cons_of_ne (fun q => h (hf _ _ q)), List.count_cons_of_ne h, count_mapI f hf]
theorem bdK_inj {a b : By} : bdK a = bdK b ↔ a = b := by simp [bdK]
theorem frK_inj {a b : By} : frK a = frK b ↔ a = b := by simp [frK]
/-- How often a name is bound. -/
theorem fnL_bc (bd out : List By) (s : By) : (fnL bd out).count (bdK s) = bd.count s := by
  unfold fnL
  rw [List.count_append, List.count_eq_zero.2 (by simp [bdK, frK] : bdK s ∉ out.map frK), Nat.add_zero]
  exact count_mapI bdK (fun _ _ h => bdK_inj.1 h) s bd
theorem fnL_fc (bd out : List By) (s : By) : (fnL bd out).count (frK s) = out.count s := by
  unfold fnL
  rw [List.count_append, List.count_eq_zero.2 (by simp [bdK, frK] : frK s ∉ bd.map bdK), Nat.zero_add]
  exact count_mapI frK (fun _ _ h => frK_inj.1 h) s out

end Go.Proofs.Ytgkeblpjmfdhkaa
